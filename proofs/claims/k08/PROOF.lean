import PyProof.Rows.All
import Wide.All
import OpenK.AllK
import Wide.FinOn
import HandS.ForMost
import HandS.IsInst
import HandS.Wide
import HandS.WideBits
import HandS.Style
import PyProof.ReprRoads
import PyProof.ReprLen
import PyProof.StrLawsRepr
import PyProof.FString3
import PyProof.Rows.StrIntSpec
import PyProof.Rows.StrCountLaw
import HandS.FStr
import HandS.Iter
import PyProof.CollectIter
import PyProof.Draws
import PyProof.EnumMake
import HandS.Star
import HandS.IterVal
import HandS.TupAny
import HandS.TupMul
import HandS.Dict
import HandS.Lambda
import HandS.EndTab
import HandS.TupSets
import PyProof.Rows.SetFrom
import PySem.Challenge.RW_flashtrees_k08_books_and_what_clashes_in
set_option Elab.async false
set_option linter.all false
set_option maxRecDepth 100000
set_option maxHeartbeats 4000000
set_option exponentiation.threshold 4000
namespace Vc
open PySem PySem.Spec PyProof.Rows L2
/-! ### calls where the guards are told (repr of a list asks them) -/
structure FnG (P : Program) (w : World) (K : PySem.W.Frag) (mg : Str → Option Value) (base : Heap) (k : Nat) (f : Addr) (fd : FuncData) (ps : List Str) (sp : Sp) : Prop where
  len : ∀ vs H Q E, sp vs H Q E → vs.length = ps.length
  run : ∀ (A : Around) (outer : List Env) (s : Shared) (H : Hp) (args : Args) (us : List Value) (vs : List V) (Q : VK), A.guards = some [] → Room k A → Env0 P w K mg base A outer s H →
    BindsTo s fd args (ps.zip us) → Vals vs us → sp vs H Q E0 → codeAny (model P w) A (.call (.ref f) args) (CR CX0 outer P w H s Q E0) s
section
variable {X : Cx} {k : Nat} {f : Addr} {fd : FuncData} {ps ks : List Str} {sp : Sp} {dvs : List V} {ds : List Value} {x : Str} {p pos : Pos} {e : Expr} {es : List Expr} {t tk : TA} {kws : List Keyword}
  {g : List Value → List Value → List Value} {gV : List V → List V → List V}
theorem end_of {pins : List (Addr × Obj)} {σ : L2.St} {H : Hp} {s s' : Shared} {Q : VK} {r : Result} (I : Inv X pins σ H s) (h : CR CX0 X.stack X.prog X.w H s Q E0 r s') :
    match r with | .ok (.ret u) => EP X pins σ Q u s' | _ => False := by
  cases r with
  | error _ => exact (show False from h)
  | ok fl => cases fl with
    | ret _ => exact I.after h
    | next => exact (show False from h)
    | brk => exact (show False from h)
    | cont => exact (show False from h)
theorem runG {pins : List (Addr × Obj)} {σ : L2.St} {H : Hp} {s : Shared} {Q : VK} {us : List Value} {vs : List V} (F : FnG X.prog X.w X.K X.mg X.base k f fd ps sp) (hgd : X.A.guards = some []) (hr : Room k X.A) (hb : Binds X.K fd ps ds) (hd : Vals dvs ds)
    (I : Inv X pins σ H s) (r : Vals vs us) (h : sp (vs ++ dvs) H Q E0) : wpAny (model X.prog X.w) X.A (call (.ref f) us) (EP X pins σ Q) X.xe s := by
  have rr := r.append hd
  have hl : (us ++ ds).length = ps.length := rr.length.symm.trans (F.len _ _ _ _ h)
  refine wpAny_call (codeAny_mono (F.run _ _ _ _ _ _ _ _ hgd hr I.env0 (hb s us I.kIn hl) rr h) fun r s' hq => ?_)
  have z := end_of I hq
  cases r with
  | error _ => exact z.elim
  | ok fl => cases fl with
    | ret _ => exact z
    | next => exact z.elim
    | brk => exact z.elim
    | cont => exact z.elim
theorem pe_callG (F : FnG X.prog X.w X.K X.mg X.base k f fd ps sp) (hgd : X.A.guards = some []) (hr : Room k X.A) (hg : Gl X x) (hm : X.mg x = some (.ref f)) (hk : PySem.W.keepIn X.K (.ref f) = true) (hb : Binds X.K fd ps ds) (hd : Vals dvs ds)
    (ha : PA X (e :: es) t) (hdb : (x == ("__debug__" : Str)) = false := by decide) (he : starEach (e :: es) X.env = (false, eval e X.env) :: starEach es X.env := by rfl)
    (hpl : (backTo pos (starEach es X.env)).any (·.1) = false := by rfl) : PE X (.Call (.Name x p) (e :: es) [] pos) (tCall sp dvs E0 t) :=
  ⟨fun pins s σ H Q I h => wpAny_Call_Name_kw (ld_glob I hg hm (PySem.W.callWith_K (h₀ := X.base) I.ok.mod.kin hk (thn (ha.run pos pins s σ H _ I h)
    fun us s1 hh => by obtain ⟨vs, H1, I1, r, q⟩ := hh; exact ⟨I1.kIn, runG F hgd hr hb hd I1 r q⟩) he hpl) hdb)⟩
theorem pe_callG0 (F : FnG X.prog X.w X.K X.mg X.base k f fd ps sp) (hgd : X.A.guards = some []) (hr : Room k X.A) (hg : Gl X x) (hm : X.mg x = some (.ref f)) (hk : PySem.W.keepIn X.K (.ref f) = true) (hb : Binds X.K fd ps ds) (hd : Vals dvs ds)
    (hdb : (x == ("__debug__" : Str)) = false := by decide) : PE X (.Call (.Name x p) [] [] pos) (tCall sp dvs E0 tNil) :=
  ⟨fun pins s σ H Q I h => wpAny_Call_Name_kw (ld_glob I hg hm (PySem.W.callWith_K0 I.kIn hk (runG (us := []) F hgd hr hb hd I .nil h)) hdb)⟩
theorem runGk {pins : List (Addr × Obj)} {σ : L2.St} {H : Hp} {s : Shared} {Q : VK} {us ws : List Value} {vs zs : List V} (F : FnG X.prog X.w X.K X.mg X.base k f fd ps sp) (hgd : X.A.guards = some []) (hr : Room k X.A) (hb : KBinds X.K fd ps ks g gV)
    (I : Inv X pins σ H s) (r : Vals vs us) (rz : Vals zs ws) (h : sp (gV vs zs) H Q E0) : wpAny (model X.prog X.w) X.A (call (.ref f) us (ks.zip ws)) (EP X pins σ Q) X.xe s := by
  have rr := hb.rel r rz
  have hl : (g us ws).length = ps.length := rr.length.symm.trans (F.len _ _ _ _ h)
  refine wpAny_call (codeAny_mono (F.run _ _ _ _ _ _ _ _ hgd hr I.env0 (hb.to s us ws I.kIn hl) rr h) fun r s' hq => ?_)
  have z := end_of I hq
  cases r with
  | error _ => exact z.elim
  | ok fl => cases fl with
    | ret _ => exact z
    | next => exact z.elim
    | brk => exact z.elim
    | cont => exact z.elim
theorem pe_callGK (F : FnG X.prog X.w X.K X.mg X.base k f fd ps sp) (hgd : X.A.guards = some []) (hr : Room k X.A) (hg : Gl X x) (hm : X.mg x = some (.ref f)) (hk : PySem.W.keepIn X.K (.ref f) = true) (hb : KBinds X.K fd ps ks g gV)
    (ha : PA X (e :: es) t) (hkw : PK X kws tk) (hall : (backToKw pos (keywordEach kws X.env)).all (·.1.isSome) = true := by rfl) (hks : (backToKw pos (keywordEach kws X.env)).filterMap (·.1) = ks := by rfl)
    (hdb : (x == ("__debug__" : Str)) = false := by decide) (he : starEach (e :: es) X.env = (false, eval e X.env) :: starEach es X.env := by rfl)
    (hpl : ((backTo pos (starEach (e :: es) X.env)).any (·.1) || (backToKw pos (keywordEach kws X.env)).any (·.1.isNone)) = false := by rfl) : PE X (.Call (.Name x p) (e :: es) kws pos) (tCallK sp gV E0 t tk) :=
  ⟨fun pins s σ H Q I h => wpAny_Call_Name_kw (ld_glob I hg hm (PySem.W.callWith_KW (h₀ := X.base) I.ok.mod.kin hk hall (thn (ha.run pos pins s σ H _ I h)
    fun us s1 hh => by
      obtain ⟨vs, H1, I1, r, q⟩ := hh
      refine thn (hkw.run pos pins s1 σ H1 _ I1 q) fun ws s2 hz => ?_
      obtain ⟨zs, H2, I2, rz, q2⟩ := hz
      refine ⟨I2.kIn, ?_⟩
      rw [hks]
      exact runGk F hgd hr hb I2 r rz q2) hpl he) hdb)⟩
theorem pe_callGK0 (F : FnG X.prog X.w X.K X.mg X.base k f fd ps sp) (hgd : X.A.guards = some []) (hr : Room k X.A) (hg : Gl X x) (hm : X.mg x = some (.ref f)) (hk : PySem.W.keepIn X.K (.ref f) = true) (hb : KBinds X.K fd ps ks g gV)
    (hkw : PK X kws tk) (hall : (backToKw pos (keywordEach kws X.env)).all (·.1.isSome) = true := by rfl) (hks : (backToKw pos (keywordEach kws X.env)).filterMap (·.1) = ks := by rfl)
    (hdb : (x == ("__debug__" : Str)) = false := by decide)
    (hpl : ((backTo pos (starEach [] X.env)).any (·.1) || (backToKw pos (keywordEach kws X.env)).any (·.1.isNone)) = false := by rfl) : PE X (.Call (.Name x p) [] kws pos) (tCallK sp gV E0 tNil tk) :=
  ⟨fun pins s σ H Q I h => wpAny_Call_Name_kw (ld_glob I hg hm (PySem.W.callWith_KW0 (h₀ := X.base) I.ok.mod.kin hk hall (thn (hkw.run pos pins s σ H _ I h) fun ws s2 hz => by
      obtain ⟨zs, H2, I2, rz, q2⟩ := hz
      refine ⟨I2.kIn, ?_⟩
      rw [hks]
      exact runGk (us := []) F hgd hr hb I2 .nil rz q2) hpl) hdb)⟩
end
/-! ### a def's body, with the guards -/
section
variable {P : Program} {w : World} {K : PySem.W.Frag} {mg : Str → Option Value} {base : Heap}
theorem FnG.mono {j k : Nat} {f : Addr} {fd : FuncData} {ps : List Str} {sp : Sp} (F : FnG P w K mg base j f fd ps sp) (h : j ≤ k) : FnG P w K mg base k f fd ps sp :=
  ⟨F.len, fun A outer s H args us vs Q hgd hr => F.run A outer s H args us vs Q hgd (hr.mono h)⟩
theorem okG {x qual : Str} {st : Stmt} {f : Addr} {fd : FuncData} {N ps : List Str} {k : Nat} {sp : Sp} (F : Fun K x qual st f fd) (S : FnScope N ps (defScope st)) (len : ∀ vs H Q E, sp vs H Q E → vs.length = ps.length)
    (hbody : ∀ (cdv : Value) (A : Around) (outer : List Env) (s : Shared) (H : Hp) (vs : List V) (Q : VK), (A.deeper (envOfC qual (defScope st) s.heap.objs.size f cdv)).guards = some [] → Room k (A.deeper (envOfC qual (defScope st) s.heap.objs.size f cdv)) → sp vs H Q E0 →
      ∃ t, PSs (cxOf CX0 P w K mg base N qual (defScope st) f cdv A outer s H E0).nox (defBody st) t ∧ t { nx := fun _ H' => Q .non H', rt := Q } (start N vs) H) : FnG P w K mg base (k + 1) f fd ps sp := by
  obtain ⟨oc, od, kV, doc, pm, an, cdv, ct, osl, rfl, lk, hcd⟩ := F.ex
  refine ⟨len, fun A outer s H args us vs Q hgd hr e0 hb r hsp => ?_⟩
  have lim := e0.mod.nolimit.keeps fun b o e => (e0.bs b o e).1
  have kin : K.In s.heap := e0.mod.kin.keeps fun b o e => (e0.bs b o e).1
  refine codeAny_call_function hr.depth (kin _ _ lk) rfl S.co S.gen rfl (PySem.W.codeRec_of kin hcd) (hb _ _ _ _ ?_)
  refine wpAny_newFunctionEnv_cells S.kind (fun y hy => ?_) fun env he s1 xx => ?_
  · rcases S.par y.1 (List.of_mem_zip hy).1 with z | z
    · exact Or.inl z
    · exact Or.inr ⟨z, PySem.W.cellsFrom_some _ _ _ (Or.inl z)⟩
  · subst he
    refine ⟨lim.keeps xx.toInCall.keep, codeAny_func ?_⟩
    obtain ⟨t, ht0, hq⟩ := hbody cdv A outer s H vs Q hgd (hr.deeper _) hsp
    have ht := ht0.nox
    have I := inv_start (CX := CX0) (E := E0) (w := w) (P := P) S hr.hd e0 (len _ _ _ _ hsp) r xx
    refine wpAny_mono (ht.run [] s1 (start N vs) H _ I hq) (fun fl s' hs => ?_) fun e s' hs => hs
    cases fl with
    | ret u => obtain ⟨v, σ', H', J, rv, q⟩ := hs; exact ⟨v, H', J.os, J.bare, J.base, J.hok, rv, q⟩
    | next => obtain ⟨σ', H', J, q⟩ := hs; exact ⟨V.non, H', J.os, J.bare, J.base, J.hok, rfl, q⟩
    | brk => obtain ⟨_, _, _, q⟩ := hs; exact q.elim
    | cont => obtain ⟨_, _, _, q⟩ := hs; exact q.elim
end
/-! ### the end of a law -/
section
variable {P : Program} {w : World} {K : PySem.W.Frag} {mg mb : Str → Option Value} {k : Nat} {fa a : Addr} {fd : FuncData} {x : Str} {sp : Sp} {s : Shared} {vs : List Value} {ns : List Int}
theorem fromTop (H : Hp) (hA : ∀ b o, H b = some o → b = a) (hK : ∀ o, H a = some o → K.lookup a = none) (hO : ∀ b o, H b = some o → ∃ ob xs, o = .frz ob (.lst xs)) (hS : SqL K H a (ns.map V.int)) (hok : HOk P w H s.heap)
    (kin : K.In s.heap) (hns : s.heap.Ns mainGlobals mg) (hb : s.heap.Ns builtinsNs mb) (hbb : ∀ y : Str, y ≠ "__name__" → mb y = bootBuiltins y) (lim : s.heap.NoLimit) (hg : s.gens = #[])
    (ha : s.heap.get? a = some { cls := .type "list", data := .seq vs.toArray }) (hi : IntsAre vs ns) (hr : Room k callerA)
    (F : ∀ base : Heap, K.In base → base.Ns mainGlobals mg → FnG P w K mg base k fa fd [x] sp) (hbind : ∀ (s : Shared) (u : Value), BindsTo s fd ⟨[u], []⟩ [(x, u)]) (hsp : sp [.ref a] H (fun v _ => v = .bl true) E0) :
    codeAny (model P w) callerA (.call (.ref fa) ⟨[.ref a], []⟩) (fun r s' => r = .ok (.ret (.bool true)) ∧ OldK s.heap s'.heap ∧ s'.os = s.os ∧ AllBare s'.gens) s := by
  have free : ∀ {b : Addr} {o : Obj}, s.heap.get? b = some o → (b = a → H a = none) → H b = none := fun {b o} e q => by
    cases z : H b with
    | none => rfl
    | some u =>
      have eb := hA b u z
      subst eb
      rw [q rfl] at z
      cases z
  have dict : ∀ {b : Addr} {m : Str → Option Value}, s.heap.Ns b m → (hidT s.heap H).Ns b m := fun {b m} z => by
    obtain ⟨o, es, ep, e, d, r⟩ := z
    refine ⟨o, es, ep, hidT_get e (free e fun eb => ?_), d, r⟩
    subst eb
    rw [ha] at e
    cases e
    cases (show Data.seq vs.toArray _ = Data.dict es ep from d)
  have kin' : K.In (hidT s.heap H) := fun b o e => hidT_get (kin b o e) (free (kin b o e) fun eb => by
    subst eb
    cases z : H b with
    | none => rfl
    | some u =>
      rw [hK u z] at e
      cases e)
  obtain ⟨mc, c1, c2⟩ := lim
  have md : Mod K mg (hidT s.heap H) := ⟨kin', dict hns, ⟨mb, dict hb, hbb⟩, mc, dict c1, c2⟩
  have nil : ∀ b : Addr, b ∉ ([] : List Addr) := fun _ z => nomatch z
  have e0 : Env0 P w K mg (hidT s.heap H) callerA [] s H := ⟨rfl, md, fun _ _ e => of_hidT e, Nat.le_of_eq (hidT_size _ _), trivial, fun b z => (nil b z).elim, hok, .of_eq hg⟩
  have main := (F _ kin' (dict hns)).run callerA [] s H ⟨[.ref a], []⟩ [.ref a] [.ref a] (fun v _ => v = .bl true) rfl hr e0 (hbind s _) (.cons rfl .nil) hsp
  refine codeAny_mono main fun r s' h => ?_
  cases r with
  | error _ => exact (show False from h).elim
  | ok fl => cases fl with
    | next => exact (show False from h).elim
    | brk => exact (show False from h).elim
    | cont => exact (show False from h).elim
    | ret u =>
      obtain ⟨v, H', os, bare, un, hok', rv, q⟩ := (show CE [] P w H s (fun v _ => v = .bl true) u s' from h)
      subst q
      have eu : u = Value.bool true := rv
      subst eu
      refine ⟨rfl, OldK.of_keep fun b o e => ?_, os, bare⟩
      cases q : H b with
      | none => exact un.keep b o e q (nil b) (nil b)
      | some t =>
        obtain ⟨ob, xs, z⟩ := hO b t q
        subst z
        have e1 := (hok b _ q).1
        rw [e] at e1
        cases e1
        exact (hok' b _ (un.frzs b _ _ q)).1
theorem walkG {l : PySem.W.OpenLaw} {n : Nat} {q : Program} {loose : List Str} {XP : (Str → Option Value) → Heap → Prop} {YP : World → Heap → Prop} {d : DefRec} {KK : Params → PySem.W.Frag} {sp : PySem.W.Frag → Sp}
    (hn : l.most = some n) (hn2 : n ≤ sizeLine) (hdf : d.params.defaults = []) (hr : Room k callerA) (hY : ∀ (w : World) (h : Heap), YP w h → (KK w.params).In h)
    (F : ∀ (w : World) (mg : Str → Option Value) (fa : Addr) (h : Heap), (KK w.params).In h → h.Ns mainGlobals mg → mg d.name = some (.ref fa) →
      ∃ fd : FuncData, (∀ (s : Shared) (u : Value), BindsTo s fd ⟨[u], []⟩ [(x, u)]) ∧ ∀ base : Heap, (KK w.params).In base → base.Ns mainGlobals mg → FnG l.prog w (KK w.params) mg base k fa fd [x] (sp (KK w.params)))
    (hsp : ∀ (K : PySem.W.Frag) (H : Hp) (a : Addr) (ns : List Int), ns.length ≤ n → SqL K H a (ns.map V.int) → (∀ b o, H b = some o → ∃ ob xs, o = .frz ob (.lst xs)) → sp K [.ref a] H (fun v _ => v = .bl true) E0) :
    PySem.W.WalkO q loose XP YP l.row.toRowW d [] (fun f vs => PySem.call f vs) :=
  Att.attach_call hn hdf fun w s0 s mg mb fa o pm cd doc a vs ns G Y ho hd hcd hmg hobj hints hlen hg => by
    have kin := hY w _ Y
    obtain ⟨fd, hb, hF⟩ := F w mg fa _ kin G.T.g hmg
    have hl : vs.length ≤ sizeLine := Nat.le_trans (Nat.le_of_eq hints.length) (Nat.le_trans hlen hn2)
    cases hk : (KK w.params).lookup a with
    | some ob =>
      have e := kin a ob hk
      rw [hobj] at e
      cases e
      have S : SqL (KK w.params) (fun _ => none) a (ns.map V.int) := Or.inr ⟨_, vs.toArray, _, hk, rfl, rfl, rfl, by rw [List.size_toArray]; exact hl, by simpa using vals_ints hints⟩
      exact fromTop (fun _ => none) (fun _ _ z => nomatch z) (fun _ z => nomatch z) (fun _ _ z => nomatch z) S (fun _ _ z => nomatch z) kin G.T.g G.T.b G.T.builtins G.T.nolimit hg hobj hints hr hF hb (hsp _ _ _ _ hlen S fun _ _ z => nomatch z)
    | none =>
      have one : ∀ (b : Addr) (u : HO), (if b = a then some (HO.frz { cls := .type "list", data := .seq vs.toArray } (.lst (ns.map V.int))) else none) = some u → b = a ∧ u = HO.frz { cls := .type "list", data := .seq vs.toArray } (.lst (ns.map V.int)) := fun b u z => by
        by_cases eb : b = a
        · rw [if_pos eb] at z
          exact ⟨eb, (Option.some.inj z).symm⟩
        · rw [if_neg eb] at z
          cases z
      have S : SqL (KK w.params) (fun b => if b = a then some (HO.frz { cls := .type "list", data := .seq vs.toArray } (.lst (ns.map V.int))) else none) a (ns.map V.int) := Or.inl (Or.inr ⟨_, if_pos rfl⟩)
      have O : ∀ b o, (fun b => if b = a then some (HO.frz { cls := .type "list", data := .seq vs.toArray } (.lst (ns.map V.int))) else none) b = some o → ∃ ob xs, o = .frz ob (.lst xs) := fun b o z => ⟨_, _, (one b o z).2⟩
      refine fromTop _ (fun b o z => (one b o z).1) (fun _ _ => hk) O S (fun b u z => ?_) kin G.T.g G.T.b G.T.builtins G.T.nolimit hg hobj hints hr hF hb (hsp _ _ _ _ hlen S O)
      obtain ⟨eb, eu⟩ := one b u z
      subst eb
      subst eu
      exact ⟨hobj, by rw [List.length_map, ← hints.length]; exact hl, vs, _, vals_ints hints, hobj⟩
end
end Vc
namespace Vc
open PySem PySem.Spec PyProof.Rows L2
/-! ### repr of data -/
mutual
def nsz : PyData → Nat
  | .none => 1
  | .bool _ => 1
  | .int _ => 1
  | .str x => x.length + 1
  | .list ds => nszs ds + 1
  | .tuple ds => nszs ds + 1
  | .dict _ => 100000
def nszs : List PyData → Nat
  | [] => 0
  | d :: ds => nsz d + nszs ds
end
mutual
/-- what repr writes without more ado -/
def shb : PyData → Bool
  | .none => true
  | .bool _ => true
  | .int i => decide (i.natAbs.log2 < 1920)
  | .str x => x.cps.toList.all fun c => decide (c < 16 ^ 8)
  | .list ds => shbs ds
  | .tuple ds => shbs ds
  | .dict _ => false
def shbs : List PyData → Bool
  | [] => true
  | d :: ds => shb d && shbs ds
end
mutual
theorem shb_show : ∀ d : PyData, shb d = true → d.showable = true ∧ d.hasDict = false
  | .none, _ => ⟨rfl, by simp only [PyData.hasDict]⟩
  | .bool _, _ => ⟨rfl, by simp only [PyData.hasDict]⟩
  | .int i, h => ⟨by simpa only [PyData.showable, shb] using h, by simp only [PyData.hasDict]⟩
  | .str _, _ => ⟨rfl, by simp only [PyData.hasDict]⟩
  | .list ds, h => by
    have := shbs_show ds (by simpa only [shb] using h)
    exact ⟨by simpa only [PyData.showable] using this.1, by simpa only [PyData.hasDict] using this.2⟩
  | .tuple ds, h => by
    have := shbs_show ds (by simpa only [shb] using h)
    exact ⟨by simpa only [PyData.showable] using this.1, by simpa only [PyData.hasDict] using this.2⟩
  | .dict _, h => by simp [shb] at h
theorem shbs_show : ∀ ds : List PyData, shbs ds = true → PyData.showableAll ds = true ∧ PyData.hasDictAll ds = false
  | [], _ => ⟨rfl, by simp only [PyData.hasDictAll]⟩
  | d :: ds, h => by
    have h' : shb d = true ∧ shbs ds = true := by simpa only [shbs, Bool.and_eq_true] using h
    have a := shb_show d h'.1
    have b := shbs_show ds h'.2
    exact ⟨by simp only [PyData.showableAll, a.1, b.1, Bool.and_self], by simp only [PyData.hasDictAll, a.2, b.2, Bool.or_self]⟩
end
mutual
theorem shown_nsz : ∀ d : PyData, shb d = true → d.shown.length + 6 ≤ 1940 * nsz d
  | .none, _ => by
    have e : (PyData.shown .none).length = 4 := rfl
    simp only [nsz]
    omega
  | .bool b, _ => by
    have e : (PyData.shown (.bool b)).length ≤ 5 := by cases b <;> decide
    simp only [nsz]
    omega
  | .int i, h => by
    have e : (PyData.shown (.int i)).length ≤ 1921 := int_text_len_1921 (by simpa only [shb, decide_eq_true_eq] using h)
    simp only [nsz]
    omega
  | .str x, h => by
    have e := PySem.StrLaws.reprText_len x (by simpa only [shb, List.all_eq_true, decide_eq_true_eq] using h)
    simp only [PyData.shown, nsz]
    omega
  | .list ds, h => by
    have a := shown_nszs ds (by simpa only [shb] using h)
    have b := listText_len_le (PyData.shownAll ds)
    simp only [PyData.shown, nsz]
    omega
  | .tuple ds, h => by
    have a := shown_nszs ds (by simpa only [shb] using h)
    have b := tupleText_len_le (PyData.shownAll ds)
    simp only [PyData.shown, nsz]
    omega
  | .dict _, h => by simp [shb] at h
theorem shown_nszs : ∀ ds : List PyData, shbs ds = true → ((PyData.shownAll ds).map (·.length)).sum + 2 * (PyData.shownAll ds).length ≤ 1940 * nszs ds
  | [], _ => by simp [PyData.shownAll, nszs]
  | d :: ds, h => by
    have h' : shb d = true ∧ shbs ds = true := by simpa only [shbs, Bool.and_eq_true] using h
    have a := shown_nsz d h'.1
    have b := shown_nszs ds h'.2
    simp only [PyData.shownAll, nszs, List.map_cons, List.sum_cons, List.length_cons]
    omega
end
/-- data that repr writes: small, not deep -/
def Shw (d : PyData) : Prop := shb d = true ∧ nsz d ≤ 8000 ∧ d.depth ≤ 60
def rRepr (K : PySem.W.Frag) : List V → Hp → VK → Prop := fun xs H Q => ∃ x d, xs = [x] ∧ Dp K H x d ∧ Shw d ∧ Q (.str d.shown) H
section
variable {X : Cx}
theorem cr_repr (hgd : X.A.guards = some []) (hu : X.A.units + 64 < cLine) : CallR X (.builtin "repr") (rRepr X.K) := by
  intro pins s σ H xs us Q I r h
  obtain ⟨x, d, rfl, hd, ⟨h1, h2, h3⟩, q⟩ := h
  obtain ⟨u, rfl, rx⟩ := vals1 r
  have fit : d.shown.length ≤ sizeLine := by
    have a := shown_nsz d h1
    rw [sizeLine_eq]
    omega
  have key : ∀ (b : Addr), u = .ref b → wpAny (model X.prog X.w) X.A (call (.builtin "repr") [u]) (EP X pins σ Q) X.xe s := fun b e => by
    subst e
    obtain ⟨as, r1⟩ := Dp.reads I d x _ hd rx
    have sh := shb_show d h1
    exact repr_of_reads' r1 sh.1 (PyData.noDict_hsm sh.2) hgd (by omega) (fun _ _ e => e) (fun h' u tk hk => ⟨V.str _, H, I.kept hk, ⟨_, rfl⟩, q⟩) fit
  cases hd with
  | non => cases rx; exact PySem.P.repr_of_none ⟨V.str _, H, I.tok _, ⟨_, rfl⟩, q⟩
  | bl b => cases rx; exact PySem.P.repr_of_bool ⟨V.str _, H, I.tok _, ⟨_, rfl⟩, q⟩
  | int i =>
    obtain ⟨t, rfl⟩ := rx
    exact PySem.P.repr_of_int (by simpa only [shb, decide_eq_true_eq] using h1) ⟨V.str _, H, I.tok _, ⟨_, rfl⟩, q⟩
  | str y =>
    obtain ⟨t, rfl⟩ := rx
    exact PySem.P.repr_of_str ⟨V.str _, H, I.tok _, ⟨_, rfl⟩, q⟩ fit
  | lst hs ha => exact key _ rx
  | tup hs ha => exact key _ rx
end
/-! ### which data are so -/
theorem shw_int {i : Int} (h : i.natAbs < 2 ^ 1920) : shb (.int i) = true := by
  simp only [shb, decide_eq_true_eq]
  by_cases z : i.natAbs = 0
  · rw [z]; decide
  · exact (Nat.log2_lt z).mpr h
theorem shbs_all : ∀ {ds : List PyData}, (∀ d ∈ ds, shb d = true) → shbs ds = true
  | [], _ => rfl
  | d :: ds, h => by
    simp only [shbs, h d List.mem_cons_self, shbs_all fun e he => h e (List.mem_cons_of_mem _ he), Bool.and_self]
theorem nszs_all {n : Nat} : ∀ {ds : List PyData}, (∀ d ∈ ds, nsz d ≤ n) → nszs ds ≤ n * ds.length
  | [], _ => by simp [nszs]
  | d :: ds, h => by
    have a := h d List.mem_cons_self
    have b := nszs_all (n := n) fun e he => h e (List.mem_cons_of_mem _ he)
    simp only [nszs, List.length_cons, Nat.mul_add, Nat.mul_one]
    omega
theorem depth_all {n : Nat} : ∀ {ds : List PyData}, (∀ d ∈ ds, d.depth ≤ n) → PyData.depthAll ds ≤ n
  | [], _ => by simp [PyData.depthAll]
  | d :: ds, h => by
    have a := h d List.mem_cons_self
    have b := depth_all (n := n) fun e he => h e (List.mem_cons_of_mem _ he)
    simp only [PyData.depthAll]
    omega
/-- a leaf: none, a bool, an int of at most 1920 bits, a short text -/
def Leaf (d : PyData) : Prop := shb d = true ∧ nsz d ≤ 20 ∧ d.depth = 0
theorem leaf_int {i : Int} (h : i.natAbs < 2 ^ 1920) : Leaf (.int i) := ⟨shw_int h, by simp [nsz], rfl⟩
theorem leaf_bool (b : Bool) : Leaf (.bool b) := ⟨rfl, by simp [nsz], rfl⟩
theorem leaf_none : Leaf .none := ⟨rfl, by simp [nsz], rfl⟩
theorem Leaf.shw {d : PyData} (h : Leaf d) : Shw d := ⟨h.1, by have := h.2.1; omega, by rw [h.2.2]; omega⟩
theorem shw_list {ds : List PyData} (h : ∀ d ∈ ds, Leaf d) (hl : ds.length ≤ 390) : Shw (.list ds) := by
  have a := nszs_all (n := 20) fun d hd => (h d hd).2.1
  have b := depth_all (n := 0) fun d hd => Nat.le_of_eq (h d hd).2.2
  exact ⟨by simpa only [shb] using shbs_all fun d hd => (h d hd).1, by simp only [nsz]; omega, by simp only [PyData.depth]; omega⟩
theorem shw_tuple {ds : List PyData} (h : ∀ d ∈ ds, Leaf d) (hl : ds.length ≤ 390) : Shw (.tuple ds) := by
  have a := nszs_all (n := 20) fun d hd => (h d hd).2.1
  have b := depth_all (n := 0) fun d hd => Nat.le_of_eq (h d hd).2.2
  exact ⟨by simpa only [shb] using shbs_all fun d hd => (h d hd).1, by simp only [nsz]; omega, by simp only [PyData.depth]; omega⟩
end Vc
namespace Vc
open PySem PySem.Spec PyProof.Rows L2
/-! ### readings, step by step -/
/-- a new tuple, a new list -/
def NewT (xs : List V) (H : Hp) (Q : VK) : Prop := xs.length ≤ sizeLine ∧ ∀ p, H p = none → Q (.ref p) (upd H p (.tup xs))
def NewL (xs : List V) (H : Hp) (Q : VK) : Prop := xs.length ≤ sizeLine ∧ ∀ p, H p = none → Q (.ref p) (upd H p (.lst xs))
section
variable {σ τ : L2.St} {H : Hp} {Q : VK} {QT : Bool → Hp → Prop} {QA : List V → Hp → Prop} {D : Ends} {ta tb tc te : TE} {t u : TT} {ts us : TS} {tA tr : TA} {v x y : V} {i j : Int} {n : Nat} {r r' : R2} {g : TG} {gs : TGs} {K : PySem.W.Frag}
theorem v_seq (h : ts { D with nx := us D } σ H) : tSeq ts us D σ H := h
theorem v_next (h : D.nx σ H) : tNext D σ H := h
theorem v_asg (h : te σ H fun x H1 => g x σ H1 D.nx) : tAsg te g D σ H := h
theorem v_name {Q : L2.St → Hp → Prop} (h : Q (σ.set n (some v)) H) : gName n v σ H Q := h
theorem v_var (e : σ[n]? = some (some v)) (h : Q v H) : tVar n σ H Q := ⟨v, e, h⟩
theorem v_c (h : Q v H) : tC v σ H Q := h
theorem v_op (h : ta σ H fun x H1 => tb σ H1 fun y H2 => r x y H2 Q) : tOp r ta tb σ H Q := h
theorem v_un {r : V → Hp → VK → Prop} (h : ta σ H fun x H1 => r x H1 Q) : tUn r ta σ H Q := h
theorem v_I0 {g : Int → Int → V} (h : Q (g i j) H) : rI0 g (.int i) (.int j) H Q := ⟨i, j, rfl, rfl, h⟩
theorem v_I {C : Int → Int → Prop} {g : Int → Int → V} (c : C i j) (h : Q (g i j) H) : rI C g (.int i) (.int j) H Q := ⟨i, j, rfl, rfl, c, h⟩
theorem v_U {g : Int → V} (h : Q (g i) H) : rU g (.int i) H Q := ⟨i, rfl, h⟩
theorem v_eqI (h : Q (.bl (decide (i = j))) H) : rEq (.int i) (.int j) H Q := ⟨rfl, by rw [show decide ((V.int i) = (V.int j)) = decide (i = j) by simp]; exact h⟩
theorem v_neI (h : Q (.bl (decide (i ≠ j))) H) : rNe (.int i) (.int j) H Q := ⟨rfl, by rw [show (!decide ((V.int i) = (V.int j))) = decide (i ≠ j) by simp]; exact h⟩
theorem v_eqS {a b : Str} (h : Q (.bl (decide (a = b))) H) : rEq (.str a) (.str b) H Q := ⟨rfl, by rw [show decide ((V.str a) = (V.str b)) = decide (a = b) by simp]; exact h⟩
theorem v_neS {a b : Str} (h : Q (.bl (decide (a ≠ b))) H) : rNe (.str a) (.str b) H Q := ⟨rfl, by rw [show (!decide ((V.str a) = (V.str b))) = decide (a ≠ b) by simp]; exact h⟩
/-- the same text twice -/
theorem v_neS0 {a : Str} (h : Q (.bl false) H) : rNe (.str a) (.str a) H Q := ⟨rfl, by simpa using h⟩
theorem v_eqS0 {a : Str} (h : Q (.bl true) H) : rEq (.str a) (.str a) H Q := ⟨rfl, by simpa using h⟩
theorem v_ret (h : te σ H D.rt) : tRet te D σ H := h
theorem v_retN (h : D.rt .non H) : tRetN D σ H := h
theorem v_drop (h : te σ H fun _ H1 => D.nx σ H1) : tDrop te D σ H := h
theorem v_if (h : t σ H fun b H1 => if b = true then ts D σ H1 else us D σ H1) : tIfS t ts us D σ H := h
theorem v_ifE (h : t σ H fun c H1 => if c = true then ta σ H1 Q else tb σ H1 Q) : tIf t ta tb σ H Q := h
theorem v_test (h : te σ H fun x H1 => ∃ k, x = .bl k ∧ QT k H1) : tTest te σ H QT := h
theorem v_B (h : te σ H fun x H1 => ∃ c, x = .bl c ∧ QT c H1) : tB te σ H QT := h
theorem v_bl {b : Bool} {P : Bool → Prop} (h : P b) : ∃ k, (V.bl b) = .bl k ∧ P k := ⟨b, rfl, h⟩
theorem v_and (h : t σ H fun c H1 => if c = true then u σ H1 QT else QT false H1) : tAnd t u σ H QT := h
theorem v_or (h : t σ H fun c H1 => if c = true then QT true H1 else u σ H1 QT) : tOr t u σ H QT := h
theorem v_not (h : t σ H fun c H1 => QT (!c) H1) : tNot t σ H QT := h
theorem v_andV (h : ta σ H fun x H1 => ∃ c, x = .bl c ∧ if c = true then tb σ H1 Q else Q (.bl false) H1) : tAndV ta tb σ H Q := h
theorem v_orV (h : ta σ H fun x H1 => ∃ c, x = .bl c ∧ if c = true then Q (.bl true) H1 else tb σ H1 Q) : tOrV ta tb σ H Q := h
theorem v_notV (h : ta σ H fun x H1 => ∃ c, x = .bl c ∧ Q (.bl (!c)) H1) : tNotV ta σ H Q := h
theorem v_chain (h : ta σ H fun x H1 => tb σ H1 fun y H2 => r x y H2 fun z H3 => ∃ k, z = .bl k ∧ (if k = true then tc σ H3 fun w' H4 => r' y w' H4 Q else Q (.bl false) H3)) : tChain r r' ta tb tc σ H Q := h
theorem v_nil (h : QA [] H) : tNil σ H QA := h
theorem v_cons (h : ta σ H fun x H1 => tr σ H1 fun xs H2 => QA (x :: xs) H2) : tCons ta tr σ H QA := h
theorem v_call {sp : Sp} {dvs : List V} {E : XK} (h : tA σ H fun vs H1 => sp (vs ++ dvs) H1 Q E) : tCall sp dvs E tA σ H Q := h
theorem v_callK {sp : Sp} {gV : List V → List V → List V} {E : XK} {tk : TA} (h : tA σ H fun vs H1 => tk σ H1 fun zs H2 => sp (gV vs zs) H2 Q E) : tCallK sp gV E tA tk σ H Q := h
theorem v_cb {r : List V → Hp → VK → Prop} (h : tA σ H fun vs H1 => r vs H1 Q) : tCB r tA σ H Q := h
theorem v_par {a b : Nat} (h : tA σ H fun vs H1 => ∃ v w, vs = [v, w] ∧ D.nx ((σ.set a (some v)).set b (some w)) H1) : tPar a b tA D σ H := h
theorem v_par3 {a b c : Nat} (h : tA σ H fun vs H1 => ∃ u v w, vs = [u, v, w] ∧ D.nx (((σ.set a (some u)).set b (some v)).set c (some w)) H1) : tPar3 a b c tA D σ H := h
theorem v_two {P : V → V → Prop} (h : P x y) : ∃ v w, [x, y] = [v, w] ∧ P v w := ⟨x, y, rfl, h⟩
theorem v_three {P : V → V → V → Prop} (h : P v x y) : ∃ u w z, [v, x, y] = [u, w, z] ∧ P u w z := ⟨v, x, y, rfl, h⟩
theorem v_tup (h : tA σ H fun xs H1 => NewT xs H1 Q) : tTup tA σ H Q := h
theorem v_lst (h : tA σ H fun xs H1 => NewL xs H1 Q) : tLst tA σ H Q := h
theorem n_tup {xs : List V} (hl : xs.length ≤ 1000) (h : ∀ p, H p = none → Q (.ref p) (upd H p (.tup xs))) : NewT xs H Q := ⟨Nat.le_trans hl (by decide), h⟩
theorem n_lst {xs : List V} (hl : xs.length ≤ 1000) (h : ∀ p, H p = none → Q (.ref p) (upd H p (.lst xs))) : NewL xs H Q := ⟨Nat.le_trans hl (by decide), h⟩
theorem v_isN (h : Q (.bl (decide (x = .non))) H) : (fun (x y : V) (H : Hp) (Q : VK) => y = .non ∧ Q (.bl (decide (x = .non))) H) x .non H Q := ⟨rfl, h⟩
theorem v_if0 {A B : Prop} (h : B) : if false = true then A else B := by simpa using h
theorem v_if1 {A B : Prop} (h : A) : if true = true then A else B := by simpa using h
theorem v_ifd {c : Prop} [Decidable c] {A B : Prop} (h1 : c → A) (h2 : ¬ c → B) : if decide c = true then A else B := by
  by_cases h : c
  · simpa [h] using h1 h
  · simpa [h] using h2 h
theorem v_ifb {b : Bool} {A B : Prop} (h1 : b = true → A) (h2 : b = false → B) : if b = true then A else B := by
  cases b
  · simpa using h2 rfl
  · simpa using h1 rfl
theorem v_ifn {b : Bool} {A B : Prop} (h : if b = true then B else A) : if (!b) = true then A else B := by
  cases b
  · simpa using h
  · simpa using h
theorem v_gsub {to ti : TE} {t : TSet} {Q : L2.St → Hp → Prop} (h : to σ H fun o H1 => ti σ H1 fun i H2 => t o i v H2 fun H3 => Q σ H3) : gSub to ti t v σ H Q := h
theorem v_gnil {Q : L2.St → Hp → Prop} (h : Q σ H) : gNil [] σ H Q := ⟨rfl, h⟩
theorem v_gcons {Q : L2.St → Hp → Prop} {vs : List V} (h : g v σ H fun σ' H' => gs vs σ' H' Q) : gCons g gs (v :: vs) σ H Q := ⟨v, vs, rfl, h⟩
theorem v_gtup {Q : L2.St → Hp → Prop} {a : Addr} {xs : List V} (h : SqT K H a xs) (hl : xs.length = n) (q : gs xs σ H Q) : gTup K n gs (.ref a) σ H Q := ⟨a, xs, rfl, h, hl, q⟩
theorem v_setL {p : Addr} {xs : List V} {k : Int} {m : Nat} {Q : Hp → Prop} (h : H p = some (.lst xs)) (hk : ixN xs.length k = some m) (q : Q (upd H p (.lst (xs.set m v)))) : rSetL (.ref p) (.int k) v H Q := ⟨p, xs, k, m, rfl, rfl, h, hk, q⟩
theorem v_ixL {p : Addr} {xs : List V} (h : SqL K H p xs) (ha : atI xs i = some v) (q : Q v H) : rIxL K (.ref p) (.int i) H Q := ⟨p, xs, i, v, rfl, rfl, h, ha, q⟩
theorem v_ixT {p : Addr} {xs : List V} (h : SqT K H p xs) (ha : atI xs i = some v) (q : Q v H) : rIxT K (.ref p) (.int i) H Q := ⟨p, xs, i, v, rfl, rfl, h, ha, q⟩
theorem v_isInt (h : Q (.bl true) H) : rIsi K [.int i, .ty "int"] H Q := ⟨_, _, _, _, true, rfl, .ty _, .base (.int i), kit_ty (by decide +kernel), h⟩
theorem v_isBool (h : Q (.bl false) H) : rIsi K [.int i, .ty "bool"] H Q := ⟨_, _, _, _, false, rfl, .ty _, .base (.int i), kit_ty (by decide +kernel), h⟩
theorem v_repr {d : PyData} (hd : Dp K H x d) (hs : Shw d) (q : Q (.str d.shown) H) : rRepr K [x] H Q := ⟨x, d, rfl, hd, hs, q⟩
theorem v_append {l : Addr} {xs : List V} (h : H l = some (.lst xs)) (hz : xs.length < 100000) (q : Q .non (upd H l (.lst (xs ++ [y])))) : rAppend (.ref l) [y] H Q := ⟨l, xs, y, rfl, rfl, h, Nat.lt_of_lt_of_le hz (by decide), q⟩
theorem v_bmL {T : String} {r : V → List V → Hp → VK → Prop} (h : te σ H fun x H1 => tyV K T x H1 ∧ tA σ H1 fun xs H2 => r x xs H2 Q) : tBM K T r te tA σ H Q := h
theorem v_never (h : False) : tNever D σ H := h
end
/-! ### built-ins by names -/
def rInt1 : List V → Hp → VK → Prop := fun xs H Q => (∃ i, xs = [.int i] ∧ Q (.int i) H) ∨ ∃ k, xs = [.bl k] ∧ Q (.int (if k then 1 else 0)) H
def rAbs : List V → Hp → VK → Prop := fun xs H Q => ∃ i, xs = [.int i] ∧ Q (.int (if i < 0 then -i else i)) H
def rDivW : List V → Hp → VK → Prop := fun xs H Q => ∃ i j, xs = [.int i, .int j] ∧ CDivP i j ∧ ∀ p, H p = none → Q (.ref p) (upd H p (.tup [.int (i / j), .int (i % j)]))
def rLen (K : PySem.W.Frag) : List V → Hp → VK → Prop := fun xs H Q => ∃ p ys, xs = [.ref p] ∧ (SqL K H p ys ∨ SqT K H p ys) ∧ Q (.int ys.length) H
def rMax2 : List V → Hp → VK → Prop := fun xs H Q => ∃ i j, xs = [.int i, .int j] ∧ Q (.int (if j > i then j else i)) H
def rMin2 : List V → Hp → VK → Prop := fun xs H Q => ∃ i j, xs = [.int i, .int j] ∧ Q (.int (if j < i then j else i)) H
def rTupOf (K : PySem.W.Frag) : List V → Hp → VK → Prop := fun xs H Q => ∃ p ys, xs = [.ref p] ∧ ((SqL K H p ys ∧ ∀ l, H l = none → Q (.ref l) (upd H l (.tup ys))) ∨ (SqT K H p ys ∧ Q (.ref p) H))
def rListOf (K : PySem.W.Frag) : List V → Hp → VK → Prop := fun xs H Q => ∃ p ys, xs = [.ref p] ∧ (SqL K H p ys ∨ SqT K H p ys) ∧ ∀ l, H l = none → Q (.ref l) (upd H l (.lst ys))
section
variable {X : Cx}
theorem cv_int : CallR X (.type "int") rInt1 := call_int1
theorem cv_abs : CallR X (.builtin "abs") rAbs := call_abs
theorem cv_divmod : CallR X (.builtin "divmod") rDivW := call_divmodW
theorem cv_len : CallR X (.builtin "len") (rLen X.K) := call_len_seq
theorem cv_max (hc : X.calm = true) : CallR X (.builtin "max") rMax2 := call_max2 hc
theorem cv_min (hc : X.calm = true) : CallR X (.builtin "min") rMin2 := call_min2 hc
theorem cv_tuple : CallR X (.type "tuple") (rTupOf X.K) := call_tuple_of
theorem cv_list : CallR X (.type "list") (rListOf X.K) := call_list_of
end
section
variable {H : Hp} {Q : VK} {i j : Int} {K : PySem.W.Frag} {p : Addr} {ys : List V} {v : V} {σ : L2.St} {tA : TA} {R : It → Hp → Prop} {D : Ends} {g : TG} {tb : TS} {wi : TI}
theorem v_int1 (h : Q (.int i) H) : rInt1 [.int i] H Q := Or.inl ⟨i, rfl, h⟩
theorem v_int1b {b : Bool} (h : Q (.int (if b then 1 else 0)) H) : rInt1 [.bl b] H Q := Or.inr ⟨b, rfl, h⟩
theorem v_abs (h : Q (.int (if i < 0 then -i else i)) H) : rAbs [.int i] H Q := ⟨i, rfl, h⟩
theorem v_div (c : CDivP i j) (h : ∀ p, H p = none → Q (.ref p) (upd H p (.tup [.int (i / j), .int (i % j)]))) : rDivW [.int i, .int j] H Q := ⟨i, j, rfl, c, h⟩
theorem v_lenL (h : SqL K H p ys) (q : Q (.int ys.length) H) : rLen K [.ref p] H Q := ⟨p, ys, rfl, Or.inl h, q⟩
theorem v_lenT (h : SqT K H p ys) (q : Q (.int ys.length) H) : rLen K [.ref p] H Q := ⟨p, ys, rfl, Or.inr h, q⟩
theorem v_max (q : Q (.int (if j > i then j else i)) H) : rMax2 [.int i, .int j] H Q := ⟨i, j, rfl, q⟩
theorem v_min (q : Q (.int (if j < i then j else i)) H) : rMin2 [.int i, .int j] H Q := ⟨i, j, rfl, q⟩
theorem v_tupL (h : SqL K H p ys) (q : ∀ l, H l = none → Q (.ref l) (upd H l (.tup ys))) : rTupOf K [.ref p] H Q := ⟨p, ys, rfl, Or.inl ⟨h, q⟩⟩
theorem v_tupT (h : SqT K H p ys) (q : Q (.ref p) H) : rTupOf K [.ref p] H Q := ⟨p, ys, rfl, Or.inr ⟨h, q⟩⟩
theorem v_listL (h : SqL K H p ys) (q : ∀ l, H l = none → Q (.ref l) (upd H l (.lst ys))) : rListOf K [.ref p] H Q := ⟨p, ys, rfl, Or.inl h, q⟩
theorem v_listT (h : SqT K H p ys) (q : ∀ l, H l = none → Q (.ref l) (upd H l (.lst ys))) : rListOf K [.ref p] H Q := ⟨p, ys, rfl, Or.inr h, q⟩
theorem v_all {bs : List Bool} (h : SqL K H p (bs.map V.bl)) (q : Q (.bl (bs.all id)) H) : rAll K [.ref p] H Q := ⟨p, bs, rfl, h, q⟩
theorem v_any {bs : List Bool} (h : SqL K H p (bs.map V.bl)) (q : Q (.bl (bs.any id)) H) : rAny K [.ref p] H Q := ⟨p, bs, rfl, h, q⟩
theorem v_sum {ns : List Int} (h : SqL K H p (ns.map V.int)) (q : Q (.int ns.sum) H) : rSum K [.ref p] H Q := ⟨p, ns, rfl, h, q⟩
/-- a for: first what it walks -/
theorem v_for (h : wi σ H fun J H1 => ∃ W : Nat → Nat → L2.St → Hp → Prop, (∃ m, W 0 m σ H1) ∧ ∀ i m σ H, W i m σ H →
  (J.stop i H ∧ D.nx σ H) ∨ (J.go i H ∧ ∃ N : L2.St → Hp → Prop, (∀ σ' H', N σ' H' → ∃ m', m' < m ∧ W (i + 1) m' σ' H') ∧ ∀ x H', J.yld i H x H' → g x σ H' fun σ2 H2 => tb { D with nx := N, ct := N, bk := D.nx } σ2 H2)) : tFor wi g tb D σ H := h
theorem v_rng1 (h : tA σ H fun vs H1 => ∃ j : Int, vs = [.int j] ∧ -(2 ^ 62) ≤ j ∧ j < 2 ^ 62 ∧ R (Itr 0 j.toNat) H1) : iRng1 tA σ H R := h
theorem v_rngN {n : Nat} {P : Nat → Prop} (hn : n < 2 ^ 61) (h : P n) : ∃ j : Int, [V.int (n : Int)] = [.int j] ∧ -(2 ^ 62) ≤ j ∧ j < 2 ^ 62 ∧ P j.toNat :=
  ⟨n, rfl, by omega, by omega, by rw [Int.toNat_natCast]; exact h⟩
theorem v_iList {tl : TE} (h : tl σ H fun x H1 => ∃ a, x = .ref a ∧ (∃ xs, SqL K H1 a xs) ∧ R (Itl K a) H1) : iList K tl σ H R := h
theorem v_iTup {tl : TE} (h : tl σ H fun x H1 => ∃ a, x = .ref a ∧ (∃ xs, SqT K H1 a xs) ∧ R (Itt K a) H1) : iTup K tl σ H R := h
theorem v_ref {P : Addr → Prop} (h : P p) : ∃ a, V.ref p = .ref a ∧ P a := ⟨p, rfl, h⟩
theorem v_sl {r : V → Option Int → Option Int → Hp → VK → Prop} {te : TE} {tl th : TO} (h : te σ H fun x H1 => tl σ H1 fun l H2 => th σ H2 fun u H3 => r x l u H3 Q) : tSl r te tl th σ H Q := h
theorem v_noPart {Q : Option Int → Hp → Prop} (h : Q none H) : tNoPart σ H Q := h
theorem v_part {te : TE} {Q : Option Int → Hp → Prop} (h : te σ H fun x H1 => ∃ i, x = .int i ∧ Q (some i) H1) : tPart te σ H Q := h
theorem v_pInt {P : Int → Prop} (h : P i) : ∃ j, V.int i = .int j ∧ P j := ⟨i, rfl, h⟩
theorem v_slL {lo hi : Option Int} (h : SqL K H p ys) (q : ∀ l, H l = none → Q (.ref l) (upd H l (.lst (cutV ys lo hi)))) : rSlL K (.ref p) lo hi H Q := ⟨p, ys, rfl, h, q⟩
theorem v_lc {tt : TT} {te : TE} {vs : List Nat} (h : wi σ H fun J H1 => ∀ D, H1 D = none → ∃ W : Nat → Nat → Hp → Prop, (∃ m, W 0 m (upd H1 D (.lst []))) ∧ ∀ i m H, W i m H →
  (J.stop i H ∧ Q (.ref D) H) ∨ (J.go i H ∧ ∃ Nx : Hp → Prop, (∀ H', Nx H' → ∃ m', m' < m ∧ W (i + 1) m' H') ∧ ∀ x H', J.yld i H x H' → g x (wipe σ vs) H' fun σ2 H2 => wipe σ2 vs = wipe σ vs ∧ tt σ2 H2 fun b H3 =>
    if b = true then te σ2 H3 fun y H4 => ∃ acc, H4 D = some (.lst acc) ∧ acc.length < sizeLine ∧ Nx (upd H4 D (.lst (acc ++ [y]))) else Nx H3)) : tLc wi g tt te vs σ H Q := h
theorem v_yes {Q : Bool → Hp → Prop} (h : Q true H) : tYes σ H Q := h
theorem v_cat {q : Addr} {xs zs : List V} (h : H p = some (.lst xs)) (h2 : H q = some (.lst zs)) (hl : xs.length + zs.length ≤ 100000) (k : ∀ l, H l = none → Q (.ref l) (upd H l (.lst (xs ++ zs)))) : rCat (.ref p) (.ref q) H Q :=
  ⟨p, q, xs, zs, rfl, rfl, h, h2, Nat.le_trans hl (by decide), k⟩
end
/-! ### specs by the number of arguments -/
def sp1 (f : V → Hp → VK → Prop) : Sp := fun vs H Q _ => ∃ a, vs = [a] ∧ f a H Q
def sp2 (f : V → V → Hp → VK → Prop) : Sp := fun vs H Q _ => ∃ a b, vs = [a, b] ∧ f a b H Q
def sp3 (f : V → V → V → Hp → VK → Prop) : Sp := fun vs H Q _ => ∃ a b c, vs = [a, b, c] ∧ f a b c H Q
def sp4 (f : V → V → V → V → Hp → VK → Prop) : Sp := fun vs H Q _ => ∃ a b c d, vs = [a, b, c, d] ∧ f a b c d H Q
theorem len1 {f : V → Hp → VK → Prop} {p : Str} : ∀ vs H Q E, sp1 f vs H Q E → vs.length = [p].length := fun _ _ _ _ h => by obtain ⟨a, rfl, _⟩ := h; rfl
theorem len2 {f : V → V → Hp → VK → Prop} {p q : Str} : ∀ vs H Q E, sp2 f vs H Q E → vs.length = [p, q].length := fun _ _ _ _ h => by obtain ⟨a, b, rfl, _⟩ := h; rfl
theorem len3 {f : V → V → V → Hp → VK → Prop} {p q r : Str} : ∀ vs H Q E, sp3 f vs H Q E → vs.length = [p, q, r].length := fun _ _ _ _ h => by obtain ⟨a, b, c, rfl, _⟩ := h; rfl
theorem len4 {f : V → V → V → V → Hp → VK → Prop} {p q r s : Str} : ∀ vs H Q E, sp4 f vs H Q E → vs.length = [p, q, r, s].length := fun _ _ _ _ h => by obtain ⟨a, b, c, d, rfl, _⟩ := h; rfl
section
variable {H : Hp} {Q : VK} {E : XK} {a b c d : V}
theorem c1 {f : V → Hp → VK → Prop} (h : f a H Q) : sp1 f ([a] ++ []) H Q E := ⟨a, rfl, h⟩
theorem c2 {f : V → V → Hp → VK → Prop} (h : f a b H Q) : sp2 f ([a, b] ++ []) H Q E := ⟨a, b, rfl, h⟩
theorem c3 {f : V → V → V → Hp → VK → Prop} (h : f a b c H Q) : sp3 f ([a, b, c] ++ []) H Q E := ⟨a, b, c, rfl, h⟩
theorem c4 {f : V → V → V → V → Hp → VK → Prop} (h : f a b c d H Q) : sp4 f ([a, b, c, d] ++ []) H Q E := ⟨a, b, c, d, rfl, h⟩
theorem k1 {f : V → Hp → VK → Prop} (h : f a H Q) : sp1 f [a] H Q E := ⟨a, rfl, h⟩
theorem k2 {f : V → V → Hp → VK → Prop} (h : f a b H Q) : sp2 f [a, b] H Q E := ⟨a, b, rfl, h⟩
theorem k3 {f : V → V → V → Hp → VK → Prop} (h : f a b c H Q) : sp3 f [a, b, c] H Q E := ⟨a, b, c, rfl, h⟩
end
end Vc
namespace Vc
open PySem PySem.Spec PyProof.Rows L2
/-! ### heaps: all stays but W -/
def Sx (W : Addr) (H H' : Hp) : Prop := ∀ b o, b ≠ W → H b = some o → H' b = some o
theorem Sx.refl {W : Addr} {H : Hp} : Sx W H H := fun _ _ _ h => h
theorem Sx.trans {W : Addr} {H H1 H2 : Hp} (a : Sx W H H1) (b : Sx W H1 H2) : Sx W H H2 := fun c o n h => b c o n (a c o n h)
theorem Sx.of {W : Addr} {H H' : Hp} (a : Same H H') : Sx W H H' := fun c o _ h => a c o h
theorem Sx.new {W p : Addr} {H : Hp} {o : HO} (h : H p = none) : Sx W H (upd H p o) := fun b u _ e => by
  rw [upd_ne (ne_of_none e h)]
  exact e
theorem Sx.mut {W : Addr} {H : Hp} {o : HO} : Sx W H (upd H W o) := fun b u n e => by
  rw [upd_ne n]
  exact e
/-- what was not there may change -/
theorem Sx.own {W p : Addr} {H H' : Hp} {o : HO} (s : Sx W H H') (h : H p = none) : Sx W H (upd H' p o) := fun b u n e => by
  rw [upd_ne (ne_of_none e h)]
  exact s b u n e
theorem same_new {p : Addr} {H : Hp} {o : HO} (h : H p = none) : Same H (upd H p o) := fun b u e => by
  rw [upd_ne (ne_of_none e h)]
  exact e
theorem same_own {p : Addr} {H H' : Hp} {o : HO} (s : Same H H') (h : H p = none) : Same H (upd H' p o) := fun b u e => by
  rw [upd_ne (ne_of_none e h)]
  exact s b u e
theorem sqL_of {K : PySem.W.Frag} {H : Hp} {a : Addr} {xs : List V} (h : H a = some (.lst xs)) : SqL K H a xs := .inl (.inl h)
theorem sqT_of {K : PySem.W.Frag} {H : Hp} {a : Addr} {xs : List V} (h : H a = some (.tup xs)) : SqT K H a xs := .inl (.inl h)
theorem Same.seqT {K : PySem.W.Frag} {H H' : Hp} {a : Addr} {xs : List V} (e : Same H H') (h : SqT K H a xs) : SqT K H' a xs := by
  rcases h with (h | ⟨o, h⟩) | h
  · exact .inl (.inl (e _ _ h))
  · exact .inl (.inr ⟨o, e _ _ h⟩)
  · exact .inr h
/-- the drawn numbers' list: three ints, then what stays -/
def Wl (tl : List V) (H : Hp) (W : Addr) : Prop := ∃ a b c : Int, H W = some (.lst (.int a :: .int b :: .int c :: tl))
theorem Wl.new {tl : List V} {W p : Addr} {H : Hp} {o : HO} (w : Wl tl H W) (h : H p = none) : Wl tl (upd H p o) W := by
  obtain ⟨a, b, c, e⟩ := w
  exact ⟨a, b, c, by rw [upd_ne (ne_of_none e h)]; exact e⟩
theorem Wl.of {tl : List V} {W : Addr} {H H' : Hp} (w : Wl tl H W) (s : Same H H') : Wl tl H' W := by
  obtain ⟨a, b, c, e⟩ := w
  exact ⟨a, b, c, s _ _ e⟩
theorem mod_ge {i j : Int} (hj : 0 < j) : 0 ≤ i.fmod j ∧ i.fmod j < j := by
  rw [Int.fmod_eq_emod_of_nonneg i (by omega)]
  exact ⟨Int.emod_nonneg _ (by omega), Int.emod_lt_of_pos _ hj⟩
/-- a rest: a letter with its bounds -/
theorem v_modN {z : Int} {k : Nat} {H : Hp} {Q : VK} (hk : 0 < k) (h : ∀ r : Nat, r < k → Q (.int (r : Int)) H) : rI (fun _ j => j ≠ 0) (fun i j => V.int (i.fmod j)) (.int z) (.int (k : Int)) H Q := by
  have hz := mod_ge (i := z) (j := (k : Int)) (by omega)
  refine ⟨z, k, rfl, rfl, by omega, ?_⟩
  have e := Int.toNat_of_nonneg hz.1
  have h2 := h (z.fmod k).toNat (by omega)
  rw [e] at h2
  exact h2
theorem cm_r {x y j c : Int} (h0 : 0 < j) (hc : 0 ≤ c) (h : j + c < 2 ^ 63) : CMul x (y.fmod j + c) := Or.inr (by
  have := mod_ge (i := y) h0
  have e : (2 : Int) ^ 63 = 9223372036854775808 := by decide
  have e2 : (2 : Int) ^ 64 = 18446744073709551616 := by decide
  omega)
theorem cut_mem {xs : List V} {lo hi : Option Int} {i : Nat} {x : V} (h : (cutV xs lo hi)[i]? = some x) : x ∈ xs := by
  have m := List.mem_of_getElem? h
  unfold cutV at m
  exact List.mem_of_mem_drop (List.mem_of_mem_take m)
theorem cut_ints {ns : List Int} {lo hi : Option Int} {i : Nat} {x : V} (h : (cutV (ns.map V.int) lo hi)[i]? = some x) : ∃ z : Int, x = .int z := by
  obtain ⟨z, _, e⟩ := List.mem_map.mp (cut_mem h)
  exact ⟨z, e.symm⟩
/-! ### new things, the heap a letter -/
section
variable {H : Hp} {Q : VK} {K : PySem.W.Frag} {σ : L2.St} {xs ys : List V} {p : Addr} {c : Bool} {ta tb : TE}
theorem a_tup (hl : xs.length ≤ 1000) (h : ∀ (p : Addr) (H' : Hp), H p = none → Same H H' → H' p = some (.tup xs) → Q (.ref p) H') : NewT xs H Q :=
  ⟨Nat.le_trans hl (by decide), fun p hp => h p _ hp (same_new hp) upd_same⟩
theorem a_lst (hl : xs.length ≤ 1000) (h : ∀ (p : Addr) (H' : Hp), H p = none → Same H H' → H' p = some (.lst xs) → Q (.ref p) H') : NewL xs H Q :=
  ⟨Nat.le_trans hl (by decide), fun p hp => h p _ hp (same_new hp) upd_same⟩
theorem a_slL {lo hi : Option Int} (h : SqL K H p ys) (q : ∀ (l : Addr) (H' : Hp), H l = none → Same H H' → H' l = some (.lst (cutV ys lo hi)) → Q (.ref l) H') : rSlL K (.ref p) lo hi H Q := v_slL h fun l hl => q l _ hl (same_new hl) upd_same
theorem a_tupL (h : SqL K H p ys) (q : ∀ (l : Addr) (H' : Hp), H l = none → Same H H' → H' l = some (.tup ys) → Q (.ref l) H') : rTupOf K [.ref p] H Q := v_tupL h fun l hl => q l _ hl (same_new hl) upd_same
theorem a_cat {q : Addr} {zs : List V} (h : H p = some (.lst xs)) (h2 : H q = some (.lst zs)) (hl : xs.length + zs.length ≤ 100000) (k : ∀ (l : Addr) (H' : Hp), H l = none → Same H H' → H' l = some (.lst (xs ++ zs)) → Q (.ref l) H') : rCat (.ref p) (.ref q) H Q :=
  v_cat h h2 hl fun l hl => k l _ hl (same_new hl) upd_same
/-- two ways to an int -/
theorem v_joinI (ha : c = true → ∀ Q' : VK, (∀ o : Int, Q' (.int o) H) → ta σ H Q') (hb : c = false → ∀ Q' : VK, (∀ o : Int, Q' (.int o) H) → tb σ H Q') (h : ∀ o : Int, Q (.int o) H) : if c = true then ta σ H Q else tb σ H Q := by
  cases c with
  | true => simpa using ha rfl Q h
  | false => simpa using hb rfl Q h
/-- a and b, b only asked where a is so -/
theorem v_andJ {d : Bool} (h : c = true → ∀ Q' : VK, Q' (.bl d) H → tb σ H Q') (q : Q (.bl (c && d)) H) : if c = true then tb σ H Q else Q (.bl false) H := by
  cases c with
  | true => simpa using h rfl Q (by simpa using q)
  | false => simpa using q
theorem v_orJ {d : Bool} (h : c = false → ∀ Q' : VK, Q' (.bl d) H → tb σ H Q') (q : Q (.bl (c || d)) H) : if c = true then Q (.bl true) H else tb σ H Q := by
  cases c with
  | true => simpa using q
  | false => simpa using h rfl Q (by simpa using q)
theorem v_tandJ {t : TT} {QT : Bool → Hp → Prop} {d : Bool} (h : c = true → ∀ Q' : Bool → Hp → Prop, Q' d H → t σ H Q') (q : QT (c && d) H) : if c = true then t σ H QT else QT false H := by
  cases c with
  | true => simpa using h rfl QT (by simpa using q)
  | false => simpa using q
theorem v_torJ {t : TT} {QT : Bool → Hp → Prop} {d : Bool} (h : c = false → ∀ Q' : Bool → Hp → Prop, Q' d H → t σ H Q') (q : QT (c || d) H) : if c = true then QT true H else t σ H QT := by
  cases c with
  | true => simpa using q
  | false => simpa using h rfl QT (by simpa using q)
/-- two ways to a number of a kind -/
theorem v_joinN (P : Nat → Prop) (ha : c = true → ∀ Q' : VK, (∀ o : Nat, P o → Q' (.int o) H) → ta σ H Q') (hb : c = false → ∀ Q' : VK, (∀ o : Nat, P o → Q' (.int o) H) → tb σ H Q') (h : ∀ o : Nat, P o → Q (.int o) H) : if c = true then ta σ H Q else tb σ H Q := by
  cases c with
  | true => simpa using ha rfl Q h
  | false => simpa using hb rfl Q h
end
theorem dp_ints {K : PySem.W.Frag} {H : Hp} : ∀ ns : List Nat, DpAll K H (ns.map fun n : Nat => V.int (n : Int)) (ns.map fun n : Nat => PyData.int (n : Int))
  | [] => .nil
  | _ :: ns => .cons (.int _) (dp_ints ns)
theorem same_sx {W : Addr} {H H1 H2 : Hp} (hW : H W = none) (s1 : Same H H1) (sx : Sx W H1 H2) : Same H H2 := fun b o e => sx b o (ne_of_none e hW) (s1 b o e)
theorem Sx.free {W : Addr} {H H' : Hp} (s : Sx W H H') {l : Addr} (h : H' l = Option.none) (n : l ≠ W) : H l = Option.none := by
  cases z : H l with
  | none => rfl
  | some o =>
    rw [s l o n z] at h
    cases h
theorem Wl.ne {tl : List V} {W p : Addr} {H : Hp} (w : Wl tl H W) (h : H p = none) : p ≠ W := by
  obtain ⟨x, y, u, e⟩ := w
  exact (ne_of_none e h).symm
theorem Wl.ne' {tl : List V} {W p : Addr} {H : Hp} (w : Wl tl H W) (h : H p = none) : W ≠ p := fun e => w.ne h e.symm
theorem tyL {K : PySem.W.Frag} {H : Hp} {p : Addr} {xs : List V} (h : H p = some (.lst xs)) : tyV K "list" (.ref p) H := .inl ⟨rfl, _, sqL_of h⟩
theorem v_allT {K : PySem.W.Frag} {H : Hp} {p : Addr} {n : Nat} {Q : VK} (h : H p = some (.lst (List.replicate n (.bl true)))) (q : Q (.bl true) H) : rAll K [.ref p] H Q :=
  v_all (bs := List.replicate n true) (sqL_of (by rw [List.map_replicate]; exact h)) (by simpa using q)
theorem rep_more {α : Type} (n : Nat) (x : α) : List.replicate n x ++ [x] = List.replicate (n + 1) x := (List.replicate_succ' ..).symm
theorem r_int {K : PySem.W.Frag} {H : Hp} {Q : VK} {i : Int} (h : Leaf (.int i)) (q : Q (.str (PyData.shown (.int i))) H) : rRepr K [.int i] H Q := v_repr (.int i) h.shw q
/-! ### keywords: places -/
def picks {α : Type} (is : List Nat) (xs : List α) : List α := is.filterMap fun i => xs[i]?
def gpick {α : Type} (n m : Nat) (is : List Nat) (us ws : List α) : List α := if us.length = n ∧ ws.length = m then picks is (us ++ ws) else []
theorem picks_rel {xs : List V} {us : List Value} (r : Vals xs us) : ∀ is : List Nat, Vals (picks is xs) (picks is us)
  | [] => .nil
  | i :: is => by
    have ih := picks_rel r is
    unfold picks at ih ⊢
    cases e : xs[i]? with
    | none => rw [List.filterMap_cons_none e, List.filterMap_cons_none (r.none_of e)]; exact ih
    | some x =>
      obtain ⟨u, hu, ru⟩ := r.get e
      rw [List.filterMap_cons_some e, List.filterMap_cons_some hu]
      exact .cons ru ih
theorem gpick_rel (n m : Nat) (is : List Nat) {vs zs : List V} {us ws : List Value} (r : Vals vs us) (rz : Vals zs ws) : Vals (gpick n m is vs zs) (gpick n m is us ws) := by
  unfold gpick
  rw [r.length, rz.length]
  split
  · exact picks_rel (r.append rz) is
  · exact .nil
/-! ### bits of what is not negative -/
theorem bA (a b : Nat) : Builtin.bitAnd (a : Int) (b : Int) = ((a &&& b : Nat) : Int) := by
  rw [bitAnd_pp (Int.natCast_nonneg _) (Int.natCast_nonneg _), Int.toNat_natCast, Int.toNat_natCast]
theorem bO (a b : Nat) : Builtin.bitOr (a : Int) (b : Int) = ((a ||| b : Nat) : Int) := by
  rw [bitOr_nn (Int.natCast_nonneg _) (Int.natCast_nonneg _), Int.toNat_natCast, Int.toNat_natCast]
theorem or_add (a b : Nat) : (a ||| b) + (a &&& b) = a + b := by
  have h := bitOr_and (a : Int) (b : Int)
  rw [bO, bA] at h
  omega
theorem xor_add (a b : Nat) : (a ^^^ b) + 2 * (a &&& b) = a + b := by
  have h1 := or_add (a ^^^ b) (a &&& b)
  have e1 : (a ^^^ b) ||| (a &&& b) = a ||| b := by
    apply Nat.eq_of_testBit_eq
    intro i
    simp only [Nat.testBit_or, Nat.testBit_xor, Nat.testBit_and]
    cases a.testBit i <;> cases b.testBit i <;> rfl
  have e2 : (a ^^^ b) &&& (a &&& b) = 0 := by
    apply Nat.eq_of_testBit_eq
    intro i
    simp only [Nat.testBit_xor, Nat.testBit_and, Nat.zero_testBit]
    cases a.testBit i <;> cases b.testBit i <;> rfl
  have h2 := or_add a b
  rw [e1, e2] at h1
  omega
theorem bX (a b : Nat) : Builtin.bitXor (a : Int) (b : Int) = ((a ^^^ b : Nat) : Int) := by
  have h := xor_add a b
  have h2 := or_add a b
  show Builtin.bitOr (a : Int) (b : Int) - Builtin.bitAnd (a : Int) (b : Int) = _
  rw [bO, bA]
  omega
theorem shl1 (n : Nat) : (1 : Int) * 2 ^ ((n : Int).toNat) = ((2 ^ n : Nat) : Int) := by
  rw [Int.toNat_natCast, Int.one_mul]
  exact (PySem.W.kbt_cast n).symm
theorem natOf {r : Int} (h : 0 ≤ r) : ∃ n : Nat, r = (n : Int) := ⟨r.toNat, (Int.toNat_of_nonneg h).symm⟩
theorem lt_and {a b n : Nat} (h : a < 2 ^ n) : a &&& b < 2 ^ n := Nat.lt_of_le_of_lt Nat.and_le_left h
theorem lt_or {a b n : Nat} (h : a < 2 ^ n) (h2 : b < 2 ^ n) : a ||| b < 2 ^ n := Nat.or_lt_two_pow h h2
theorem lt_xor {a b n : Nat} (h : a < 2 ^ n) (h2 : b < 2 ^ n) : a ^^^ b < 2 ^ n := Nat.xor_lt_two_pow h h2
theorem lt_bit {k n : Nat} (h : k < n) : 2 ^ k < 2 ^ n := Nat.pow_lt_pow_right (by decide) h
theorem bits_ext {a b n : Nat} (ha : a < 2 ^ n) (hb : b < 2 ^ n) (h : ∀ i, i < n → a.testBit i = b.testBit i) : a = b := by
  apply Nat.eq_of_testBit_eq
  intro i
  by_cases hi : i < n
  · exact h i hi
  · have e := Nat.pow_le_pow_right (n := 2) (by decide) (Nat.le_of_not_lt hi)
    rw [Nat.testBit_lt_two_pow (Nat.lt_of_lt_of_le ha e), Nat.testBit_lt_two_pow (Nat.lt_of_lt_of_le hb e)]
theorem bit_high {a n i : Nat} (ha : a < 2 ^ n) (hi : n ≤ i) : a.testBit i = false := Nat.testBit_lt_two_pow (Nat.lt_of_lt_of_le ha (Nat.pow_le_pow_right (by decide) hi))
end Vc
namespace Vc
open PySem PySem.Spec PyProof.Rows L2
/-! ### the binary digits of a number -/
def binS (n : Nat) : PySem.Str := ⟨((Nat.toDigits 2 n).map Char.toNat).toArray⟩
section
open Builtin Builtin.Str Builtin.Int
theorem gives_b (n : Nat) (t u : Tok) : Gives (Builtin.«int.__format__» ⟨[.int (n : Int) t, .str (Str.ofString "b") u], []⟩) (.str (binS n)) := by
  intro prog w A R s hq
  have e0 : (decide ((n : Int) < 0)) = false := decide_eq_false (by omega)
  unfold Builtin.«int.__format__»
  simp only [selfAndOne, noKeywords, Int.intOfSelf, asInt?, asStr?, List.isEmpty_nil, if_true, pure_bind, bind_pure, bind_assoc, Bool.false_eq_true, if_false,
    show (Value.str (Str.ofString "b") u == Value.none) = false from rfl, show ((Str.ofString "b").length == 0) = false by decide]
  refine wpAny_bind (wpAny_typeNameOf (T := "str") (typeIs_str _ _ _) (by decide) fun _ => ?_)
  rw [if_neg (by decide)]
  refine wpAny_bind (wpAny_typeNameOfCut_int ?_)
  obtain ⟨f, hp, ht, hpr, hz, hal, hw, hgr, hsg, hfi⟩ : ∃ f, Float.parseFormatSpec (Str.ofString "b").cps.toList "int" 62 = .ok f ∧ f.type = some 98 ∧ f.precision = none ∧ f.noNeg0 = false ∧ f.alt = false ∧ f.width = none ∧ f.grouping = none ∧ f.sign = none ∧ (f.fill == 48) = false :=
    ⟨_, rfl, rfl, rfl, rfl, rfl, rfl, rfl, rfl, rfl⟩
  rw [hp]
  simp only [ht, Option.getD_some]
  rw [if_pos (by decide)]
  show wpAny _ _ (if _ then _ else _) _ _ _
  rw [if_neg (by simp [hpr])]
  show wpAny _ _ (if _ then _ else _) _ _ _
  rw [if_neg (by simp [hz])]
  show wpAny _ _ (if _ then _ else _) _ _ _
  rw [if_neg (by decide)]
  show wpAny _ _ (if _ then _ else _) _ _ _
  rw [if_neg (by decide)]
  show wpAny _ _ (if _ then _ else _) _ _ _
  rw [if_neg (by simp [hw])]
  have key : intField' f (decide ((n : Int) < 0)) (if f.alt then [] else []) ((Nat.toDigits 2 n).map fun c => (if (98 : Nat) == 88 then c.toUpper else c).toNat) [] 4 = binS n := by
    have hne : ((Nat.toDigits 2 n).map fun c => (if (98 : Nat) == 88 then c.toUpper else c).toNat) = (Nat.toDigits 2 n).map Char.toNat := by simp
    rw [hne, e0, hal]
    unfold intField' binS
    simp only [hw, hgr, hsg, hfi, Bool.false_and, Bool.false_eq_true, if_false]
    split <;> simp_all
  show wpAny _ _ (retStr _) _ _ _
  unfold retStr
  simp only [hal, Bool.false_eq_true, if_false, Int.natAbs_natCast] at key ⊢
  have q1 : (binS n).length ≤ sizeLine := hq.1
  have q2 := hq.2
  rw [← key] at q1 q2
  simp only [intField', hw, hgr, hsg, hfi, Bool.false_and, Bool.false_eq_true, if_false] at q1 q2
  refine wpAny_bind (wpAny_mkStr (wpAny_pure ?_) ?hs2)
  case hs2 =>
    conv => lhs; arg 1; whnf
    simp only [hw, hgr, hsg, hfi, Bool.false_and, Bool.false_eq_true, if_false]
    exact q1
  · dsimp only
    conv => arg 1; arg 1; arg 1; arg 1; whnf
    simp only [hw, hgr, hsg, hfi, Bool.false_and, Bool.false_eq_true, if_false]
    exact q2
end
theorem binS_len (n : Nat) : (binS n).length ≤ n + 1 := by
  show ((Nat.toDigits 2 n).map Char.toNat).toArray.size ≤ _
  rw [List.size_toArray, List.length_map]
  exact tDigits_len_le 2 n
/-- the number of ones among the binary digits -/
def ones : Nat → Nat
  | 0 => 0
  | n + 1 => (n + 1) % 2 + ones ((n + 1) / 2)
decreasing_by omega
theorem ones_eq (n : Nat) : ones n = n % 2 + ones (n / 2) := by
  cases n with
  | zero => simp [ones]
  | succ n => rw [ones]
def oneL (l : List Char) : Nat := (l.filter fun c => c == '1').length
theorem core_ones : ∀ (fuel n : Nat) (ds : List Char), n < fuel → oneL (Nat.toDigitsCore 2 fuel n ds) = ones n + oneL ds
  | 0, n, ds, h => by omega
  | fuel + 1, n, ds, h => by
    rw [Nat.toDigitsCore]
    have hd : oneL ((n % 2).digitChar :: ds) = n % 2 + oneL ds := by
      have h2 : n % 2 = 0 ∨ n % 2 = 1 := by omega
      rcases h2 with e | e
      · rw [e]; simp [oneL, Nat.digitChar]
      · rw [e]; simp [oneL, Nat.digitChar]; omega
    split
    · rename_i hz
      rw [hd, ones_eq n, hz]
      simp [ones]
    · rename_i hz
      rw [core_ones fuel (n / 2) _ (by omega), hd, ones_eq n]
      omega
theorem cnt_map (l : List Char) : cnt 49 (l.map Char.toNat) = (oneL l : Nat) := by
  induction l with
  | nil => rfl
  | cons c r ih =>
    rw [List.map_cons, cnt_cons, ih]
    by_cases h : c = '1'
    · subst h
      simp [oneL]
      omega
    · have hn : ¬ c.toNat = 49 := fun e => h (by
        apply Char.ext
        apply UInt32.toNat_inj.mp
        exact e)
      rw [if_neg hn]
      have : (c == '1') = false := by simpa using h
      simp [oneL, this]
theorem count_bin (n : Nat) : Txt.count (binS n) ⟨#[49]⟩ = (ones n : Nat) := by
  rw [count_is]
  show cnt 49 (binS n).cps.toList = _
  show cnt 49 ((Nat.toDigits 2 n).map Char.toNat) = _
  rw [cnt_map]
  have := core_ones (n + 1) n [] (by omega)
  show ((oneL (Nat.toDigitsCore 2 (n + 1) n []) : Nat) : Int) = _
  rw [this]
  simp [oneL]
end Vc
namespace Vc
open PySem PySem.Spec PyProof.Rows L2
theorem core_len : ∀ (fuel n k : Nat) (ds : List Char), n < 2 ^ k → 1 ≤ k → (Nat.toDigitsCore 2 fuel n ds).length ≤ ds.length + k
  | 0, n, k, ds, _, _ => by rw [Nat.toDigitsCore]; omega
  | fuel + 1, n, k, ds, h, hk => by
    rw [Nat.toDigitsCore]
    split
    · rw [List.length_cons]; omega
    · rename_i hz
      have hk2 : 2 ≤ k := by
        refine Nat.le_of_not_lt fun z => hz ?_
        have e : k = 1 := by omega
        rw [e] at h
        omega
      have h2 : n / 2 < 2 ^ (k - 1) := by
        have e : 2 ^ k = 2 * 2 ^ (k - 1) := by
          rw [← Nat.pow_succ']
          congr 1
          omega
        omega
      have := core_len fuel (n / 2) (k - 1) ((n % 2).digitChar :: ds) h2 (by omega)
      rw [List.length_cons] at this
      omega
theorem binS_le {n k : Nat} (h : n < 2 ^ k) (hk : 1 ≤ k) : (binS n).length ≤ k := by
  show ((Nat.toDigits 2 n).map Char.toNat).toArray.size ≤ _
  rw [List.size_toArray, List.length_map]
  have := core_len (n + 1) n k [] h hk
  show (Nat.toDigitsCore 2 (n + 1) n []).length ≤ k
  simpa using this
/-- the text of a number's binary digits -/
def tBin (te : TE) : TE := fun σ H Q => te σ H fun x H1 => ∃ n : Nat, x = .int (n : Int) ∧ n < 2 ^ 600 ∧ Q (.str (binS n)) H1
def rCount : V → List V → Hp → VK → Prop := fun x xs H Q => ∃ a b, x = .str a ∧ xs = [.str b] ∧ Q (.int (Txt.count a b)) H
section
variable {X : Cx}
theorem pe_fmtB {e : Expr} {te : TE} {k : Nat} {p1 p2 p3 pos : Pos} (he : PE X e te) : PE X (.JoinedStr [.FormattedValue e (-1) (some (.JoinedStr [.Constant (.str (Str.ofString "b")) k p1] p2)) p3] pos) (tBin te) := by
  refine pe_joined1 ⟨fun pins s σ H Q I h => ?_⟩
  refine wpAny_FormattedValue_spec (thn (he.run pins s σ H _ I h) fun u s1 hh => ?_)
  obtain ⟨x, H1, I1, rx, n, rfl, hn, q⟩ := hh
  have sp : PE X (.JoinedStr [.Constant (.str (Str.ofString "b")) k p1] p2) (tC (.str (Str.ofString "b"))) := pe_joined1 pe_str
  refine thn (sp.run pins s1 σ H1 (fun v H2 => v = .str (Str.ofString "b") ∧ H2 = H1) I1 ⟨rfl, rfl⟩) fun r s2 hr => ?_
  obtain ⟨y, H2, I2, ry, rfl, rfl⟩ := hr
  obtain ⟨t2, rfl⟩ := ry
  obtain ⟨t, rfl⟩ := rx
  refine ⟨_, _, rfl, ?_⟩
  refine wpAny_formatField_spec (by decide) (fun s' => typeIs_int s' _ t) PySem.F.slot_int_format PySem.F.entry_int_format PySem.F.args_int_format_2 (fun u => gives_b n t u) ?_ (by decide) ?_
  · exact ⟨.str _, H2, I2.tok _, ⟨_, rfl⟩, q⟩
  · have := binS_le hn (by decide)
    rw [sizeLine_eq]
    omega
theorem mv_count : MtR X "str.count" rCount := mt_count
end
section
variable {σ : L2.St} {H : Hp} {Q : VK} {te : TE}
theorem v_bin (h : te σ H fun x H1 => ∃ n : Nat, x = .int (n : Int) ∧ n < 2 ^ 600 ∧ Q (.str (binS n)) H1) : tBin te σ H Q := h
theorem v_count {n : Nat} (q : Q (.int (ones n : Nat)) H) : rCount (.str (binS n)) [.str (Str.ofString "1")] H Q := ⟨_, _, rfl, rfl, by
  have e : (Str.ofString "1") = ⟨#[49]⟩ := by decide
  rw [e, count_bin]
  exact q⟩
end
/-! ### how many ones -/
theorem ones_le : ∀ (k n : Nat), n < 2 ^ k → ones n ≤ k
  | 0, n, h => by
    have : n = 0 := by simpa using h
    subst this
    simp [ones]
  | k + 1, n, h => by
    have := ones_le k (n / 2) (by rw [Nat.pow_succ] at h; omega)
    rw [ones_eq]
    omega
theorem ones_pos {n : Nat} (h : 0 < n) : 0 < ones n := by
  induction n using Nat.strongRecOn with
  | _ n ih =>
    rw [ones_eq]
    by_cases h2 : n % 2 = 0
    · have := ih (n / 2) (by omega) (by omega)
      omega
    · omega
theorem ones_drop {n : Nat} (h : 0 < n) : ones (n &&& (n - 1)) + 1 = ones n := by
  induction n using Nat.strongRecOn with
  | _ n ih =>
    have hm : ¬ (n &&& (n - 1)) % 2 = 1 := by
      rw [Nat.and_mod_two_eq_one]
      omega
    rw [ones_eq (n &&& (n - 1)), ones_eq n, Nat.and_div_two]
    by_cases ho : n % 2 = 1
    · have e : (n - 1) / 2 = n / 2 := by omega
      rw [e, Nat.and_self]
      omega
    · have e : (n - 1) / 2 = n / 2 - 1 := by omega
      have := ih (n / 2) (by omega) (by omega)
      rw [e]
      omega
theorem and_lt {n : Nat} (h : 0 < n) : n &&& (n - 1) < n := Nat.lt_of_le_of_lt Nat.and_le_right (by omega)
/-- within: as many ones at most, and if as many, then the same -/
theorem ones_sub (a b : Nat) (h : a &&& b = a) : ones a ≤ ones b ∧ (ones a = ones b → a = b) := by
  induction a using Nat.strongRecOn generalizing b with
  | _ a ih =>
    by_cases h0 : a = 0
    · subst h0
      refine ⟨by simp [ones], fun e => ?_⟩
      by_cases hb : b = 0
      · exact hb.symm
      · have := ones_pos (n := b) (by omega)
        simp [ones] at e
        omega
    · have hd : a / 2 &&& b / 2 = a / 2 := by rw [← Nat.and_div_two, h]
      have hm : a % 2 = 1 → b % 2 = 1 := fun e => by
        have e2 : (a &&& b) % 2 = 1 := by rw [h]; exact e
        exact (Nat.and_mod_two_eq_one.mp e2).2
      have := ih (a / 2) (by omega) (b / 2) hd
      rw [ones_eq a, ones_eq b]
      refine ⟨by omega, fun e => ?_⟩
      have e2 := this.2 (by omega)
      omega
/-! ### words that no cut can feign -/
def wholeP (p : Nat) : Prop := p % 1024 = 512 - ones (p / 1024)
def wordD (d : Nat) : Nat := d * 1024 + (512 - ones d)
theorem wordD_div {d : Nat} : wordD d / 1024 = d := by unfold wordD; omega
theorem wordD_mod {d : Nat} : wordD d % 1024 = 512 - ones d := by unfold wordD; omega
theorem wordD_whole (d : Nat) : wholeP (wordD d) := by
  unfold wholeP
  rw [wordD_div, wordD_mod]
theorem wholeP_eq {p : Nat} (h : wholeP p) : p = wordD (p / 1024) := by
  unfold wholeP at h
  unfold wordD
  omega
theorem and_div (a b : Nat) : (a &&& b) / 1024 = a / 1024 &&& b / 1024 := by
  have := Nat.shiftRight_and_distrib (a := a) (b := b) (i := 10)
  simpa [Nat.shiftRight_eq_div_pow] using this
theorem and_mod' (a b : Nat) : (a &&& b) % 1024 = a % 1024 &&& b % 1024 := by
  have := Nat.and_mod_two_pow (a := a) (b := b) (n := 10)
  simpa using this
theorem ones512 {p : Nat} (h : p < 2 ^ 522) : ones (p / 1024) ≤ 512 := ones_le 512 _ (by
  have e : (2 : Nat) ^ 522 = 1024 * 2 ^ 512 := by rw [show (1024 : Nat) = 2 ^ 10 by decide, ← Nat.pow_add]
  rw [e] at h
  exact Nat.div_lt_of_lt_mul h)
/-- of two whole words, one within the other one, both are the same -/
theorem berger {p q : Nat} (hp : wholeP p) (hq : wholeP q) (p2 : p < 2 ^ 522) (q2 : q < 2 ^ 522) (h : p &&& q = p) : p = q := by
  have e1 : p / 1024 &&& q / 1024 = p / 1024 := by rw [← and_div, h]
  have e2 : p % 1024 &&& q % 1024 = p % 1024 := by rw [← and_mod', h]
  have l : p % 1024 ≤ q % 1024 := by
    rw [← e2]
    exact Nat.and_le_right
  have s := ones_sub _ _ e1
  have a := ones512 p2
  have b := ones512 q2
  unfold wholeP at hp hq
  have := s.2 (by omega)
  omega
theorem wordD_lt {d : Nat} (h : d < 2 ^ 512) : wordD d < 2 ^ 522 := by
  have e : (2 : Nat) ^ 522 = 2 ^ 512 * 1024 := by rw [show (1024 : Nat) = 2 ^ 10 by decide, ← Nat.pow_add]
  rw [e]
  have := Nat.mul_le_mul_right 1024 (show d + 1 ≤ 2 ^ 512 by omega)
  unfold wordD
  omega
/-- the word is within what is left: whole exactly if it is the word -/
theorem whole_iff {p x : Nat} (hp : wholeP p) (p2 : p < 2 ^ 522) (x2 : x < 2 ^ 522) (h : p &&& x = p) : wholeP x ↔ x = p := by
  constructor
  · intro hx
    exact (berger hp hx p2 x2 h).symm
  · intro e
    rw [e]
    exact hp
end Vc
namespace Vc
open PySem PySem.Spec PyProof.Rows L2
theorem v_while {c : TT} {tb : TS} {D : Ends} {σ : L2.St} {H : Hp} (h : ∃ W : Nat → L2.St → Hp → Prop, (∃ m, W m σ H) ∧ ∀ m σ H, W m σ H →
  c σ H fun b H1 => if b = true then ∃ N : L2.St → Hp → Prop, (∀ σ' H', N σ' H' → ∃ m', m' < m ∧ W m' σ' H') ∧ tb { D with nx := N, ct := N, bk := D.nx } σ H1 else D.nx σ H1) : tWhile c tb D σ H := h
theorem pylong {i : Int} {k b : Nat} (h : k < 2 ^ b) (h0 : 0 < b) (h9 : b ≤ 9000) : Builtin.divisionGoesByPylong i (k : Int) = false :=
  PyProof.noPylong_of_log2 (Nat.lt_of_lt_of_le (PySem.Flt.log2_lt_of h0 (by rw [Int.natAbs_natCast]; exact h)) h9)
theorem nd (x y : Nat) : decide ((x : Int) = (y : Int)) = decide (x = y) := by simp [Int.natCast_inj]
theorem ndn (x y : Nat) : decide ((x : Int) ≠ (y : Int)) = decide (x ≠ y) := by simp [Int.natCast_inj]
theorem ndl (x y : Nat) : decide ((x : Int) < (y : Int)) = decide (x < y) := by simp
theorem shlN (d k : Nat) : (d : Int) * 2 ^ ((k : Int).toNat) = ((d * 2 ^ k : Nat) : Int) := by
  rw [Int.toNat_natCast, Int.natCast_mul, PySem.W.kbt_cast]
theorem shlP (k : Nat) : (1 : Int) * 2 ^ k = ((2 ^ k : Nat) : Int) := by
  rw [Int.one_mul, PySem.W.kbt_cast]
theorem shl_okN {d j n : Nat} (h : d < 2 ^ n) (hn : n + j ≤ 134217728) : CShl (d : Int) (j : Int) := shl_ok (n := n) (by rw [Int.natAbs_natCast]; exact h) hn
theorem shrN (d k : Nat) : (d : Int) / 2 ^ ((k : Int).toNat) = ((d / 2 ^ k : Nat) : Int) := by
  rw [Int.toNat_natCast, show (2 : Int) ^ k = ((2 ^ k : Nat) : Int) from (PySem.W.kbt_cast k).symm, Int.natCast_ediv]
theorem atI_mem {xs : List V} {i : Nat} (h : i < xs.length) : ∃ x, x ∈ xs ∧ atI xs (i : Int) = some x := ⟨xs[i], List.getElem_mem h, atI_nat (List.getElem?_eq_getElem h)⟩
theorem Same.toSx {W : Addr} {H H' : Hp} (s : Same H H') : Sx W H H' := Sx.of s
/-- the numbers of a row as data -/
def fold (ns : List Nat) : Nat := ns.foldl (fun d x => d * 65536 + x) ns.length
def dataOf (ns : List Nat) : Nat := fold ns * 2 ^ (16 * (31 - ns.length))
theorem foldl_lt : ∀ (ns : List Nat) (d k : Nat), (∀ n ∈ ns, n < 65536) → d < 65536 ^ k → ns.foldl (fun d x => d * 65536 + x) d < 65536 ^ (k + ns.length)
  | [], d, k, _, h => by simpa using h
  | n :: ns, d, k, hn, h => by
    have h1 : n < 65536 := hn n List.mem_cons_self
    have h2 : d * 65536 + n < 65536 ^ (k + 1) := by
      rw [Nat.pow_succ]
      have := Nat.mul_le_mul_right 65536 (show d + 1 ≤ 65536 ^ k by omega)
      omega
    have := foldl_lt ns (d * 65536 + n) (k + 1) (fun m hm => hn m (List.mem_cons_of_mem _ hm)) h2
    rw [List.foldl_cons, List.length_cons, show k + (ns.length + 1) = k + 1 + ns.length by omega]
    exact this
theorem fold_lt {ns : List Nat} (hn : ∀ n ∈ ns, n < 65536) (hl : ns.length ≤ 31) : fold ns < 65536 ^ (1 + ns.length) := foldl_lt ns _ 1 hn (by omega)
theorem dataOf_lt {ns : List Nat} (hn : ∀ n ∈ ns, n < 65536) (hl : ns.length ≤ 31) : dataOf ns < 2 ^ 512 := by
  have h := fold_lt hn hl
  unfold dataOf
  have e : (2 : Nat) ^ 512 = 65536 ^ (1 + ns.length) * 2 ^ (16 * (31 - ns.length)) := by
    rw [show (65536 : Nat) = 2 ^ 16 by decide, ← Nat.pow_mul, ← Nat.pow_add]
    congr 1
    omega
  rw [e]
  exact Nat.mul_lt_mul_of_pos_right h (Nat.pow_pos (by decide))
theorem fold_big {ns : List Nat} (hn : ∀ n ∈ ns, n < 65536) (hl : ns.length ≤ 31) : fold ns < 2 ^ 512 := by
  refine Nat.lt_of_lt_of_le (fold_lt hn hl) ?_
  rw [show (65536 : Nat) = 2 ^ 16 by decide, ← Nat.pow_mul]
  exact Nat.pow_le_pow_right (by decide) (by omega)
end Vc
namespace Vc
open PySem PySem.Spec PyProof.Rows L2
theorem sqT_sx {K : PySem.W.Frag} {tl : List V} {W p : Addr} {H H' : Hp} {xs : List V} (h : SqT K H p xs) (w : Wl tl H W) (s : Sx W H H') : SqT K H' p xs := by
  obtain ⟨a, b, c, e⟩ := w
  rcases h with (h | ⟨o, h⟩) | h
  · exact .inl (.inl (s _ _ (fun z => by rw [z, e] at h; cases h) h))
  · exact .inl (.inr ⟨o, s _ _ (fun z => by rw [z, e] at h; cases h) h⟩)
  · exact .inr h
theorem sqL_sx {K : PySem.W.Frag} {W p : Addr} {H H' : Hp} {xs : List V} (h : SqL K H p xs) (n : p ≠ W) (s : Sx W H H') : SqL K H' p xs := by
  rcases h with (h | ⟨o, h⟩) | h
  · exact .inl (.inl (s _ _ n h))
  · exact .inl (.inr ⟨o, s _ _ n h⟩)
  · exact .inr h
theorem fold_take {ns : List Nat} {i n d : Nat} (h : ns[i]? = some n) : (ns.take (i + 1)).foldl (fun d x => d * 65536 + x) d = (ns.take i).foldl (fun d x => d * 65536 + x) d * 65536 + n := by
  rw [List.take_add_one, h, List.foldl_append]
  rfl
abbrev vN : Nat → V := fun n => V.int (n : Int)
theorem vN_get {ns : List Nat} {i : Nat} {x : V} (h : (ns.map vN)[i]? = some x) : ∃ n, ns[i]? = some n ∧ x = vN n := by
  rw [List.getElem?_map] at h
  cases e : ns[i]? with
  | none => rw [e] at h; cases h
  | some n => rw [e] at h; exact ⟨n, rfl, (Option.some.inj h).symm⟩
theorem small_of {x : V} {m : Nat} {ks : List Nat} (hk : ∀ k ∈ ks, k ≤ m) (h : x ∈ ks.map vN) : ∃ n : Nat, n ≤ m ∧ x = V.int (n : Int) := by
  obtain ⟨n, hn, e⟩ := List.mem_map.mp h
  exact ⟨n, hk n hn, e.symm⟩
end Vc
namespace Vc
open PySem PySem.Spec PyProof.Rows L2
/-- two ways to what P says -/
theorem v_joinP {H : Hp} {Q : VK} {σ : L2.St} {c : Bool} {ta tb : TE} (P : V → Hp → Prop) (ha : c = true → ∀ Q' : VK, (∀ v H', P v H' → Q' v H') → ta σ H Q') (hb : c = false → ∀ Q' : VK, (∀ v H', P v H' → Q' v H') → tb σ H Q') (h : ∀ v H', P v H' → Q v H') : if c = true then ta σ H Q else tb σ H Q := by
  cases c with
  | true => simpa using ha rfl Q h
  | false => simpa using hb rfl Q h
theorem v_neB {a b : Bool} {H : Hp} {Q : VK} (h : Q (.bl (!decide (a = b))) H) : rNotB (.bl a) (.bl b) H Q := ⟨a, b, rfl, rfl, h⟩
theorem v_isB {a b : Bool} {H : Hp} {Q : VK} (h : Q (.bl (decide (a = b))) H) : rIsB (.bl a) (.bl b) H Q := ⟨a, b, rfl, rfl, h⟩
theorem v_notN {x : V} {H : Hp} {Q : VK} (h : Q (.bl (!decide (x = .non))) H) : (fun (x y : V) (H : Hp) (Q : VK) => y = .non ∧ Q (.bl (!decide (x = .non))) H) x .non H Q := ⟨rfl, h⟩
end Vc
namespace Vc
open PySem PySem.Spec PyProof.Rows L2
/-! ### range(i, j, c) as a value -/
def RgO (p : Addr) (i j c : Int) : HO := .ext fun h => ∃ t u v, IsRange h p i j c t u v
theorem rgO_ok {P : Program} {w : World} {H : Hp} {h : Heap} {p : Addr} {i j c : Int} {t u v : Tok} (e : IsRange h p i j c t u v) : ObjOk P w H h p (RgO p i j c) :=
  ⟨⟨t, u, v, e⟩, ⟨_, e⟩, fun _ _ ⟨t, u, v, e⟩ k => ⟨t, u, v, k _ e⟩⟩
def rRange3 : List V → Hp → VK → Prop := fun xs H Q => ∃ i j c, xs = [.int i, .int j, .int c] ∧ c ≠ 0 ∧ c.natAbs < 1073741824 ∧ ∀ p, H p = none → Q (.ref p) (upd H p (RgO p i j c))
def iRgv (te : TE) : TI := fun σ H R => te σ H fun x H1 => ∃ (p : Addr) (i j c : Int) (n : Nat), x = .ref p ∧ H1 p = some (RgO p i j c) ∧ RgC i j c n ∧ R (Itc i c n) H1
section
variable {X : Cx}
theorem cv_range3 : CallR X (.type "range") rRange3 := by
  intro pins s σ H xs us Q I r h
  obtain ⟨i, j, c, rfl, c0, c1, q⟩ := h
  cases r with
  | cons r rr =>
    cases rr with
    | cons r' rr =>
      cases rr with
      | cons r'' rr =>
        cases rr
        obtain ⟨t, rfl⟩ := r
        obtain ⟨t', rfl⟩ := r'
        obtain ⟨t'', rfl⟩ := r''
        refine call_range_3 c0 ?_ (.inl (PyProof.noPylong_small c1))
        exact ⟨.ref s.heap.objs.size, _, I.laid (t' := s.toks) (fun b u e => Heap.get?_push_of_some _ e) (Nat.le_refl _) (rgO_ok (IsRange.new ..)), rfl, q _ (I.hok.fresh (Nat.le_refl _))⟩
theorem pi_rgv {tg e : Expr} {te : TE} (he : PE X e te) : PI X tg e (iRgv te) := by
  refine ⟨fun pins s σ H R I h => ?_⟩
  refine thn (he.run pins s σ H _ I h) fun v s1 ⟨x, H1, I1, r1, q1⟩ => ?_
  obtain ⟨p, i, j, k, n, e1, hp, ⟨c0, c1, c2, c3⟩, q⟩ := q1
  subst e1
  cases r1
  obtain ⟨⟨t, u, v, hr⟩, _⟩ := I1.hok _ _ hp
  refine wpAny_pyIter_range hr c2 ?_
  refine pi_one (tk := s1.toks) I1 _ (turn_rangeC _ i k n) ?_ q
  have e1 : i + ((0 : Nat) : Int) * k = i := by simp
  have e2 : (n : Int) - ((0 : Nat) : Int) = Builtin.Range.rangeSize i j k := by rw [c3]; simp
  show IsRangeIter _ _ (i + ((0 : Nat) : Int) * k) ((n : Int) - ((0 : Nat) : Int)) k
  rw [e1, e2]
  exact Heap.get?_push_size _ rfl
end
theorem v_iRgv {te : TE} {σ : L2.St} {H : Hp} {R : It → Hp → Prop} (h : te σ H fun x H1 => ∃ (p : Addr) (i j c : Int) (n : Nat), x = .ref p ∧ H1 p = some (RgO p i j c) ∧ RgC i j c n ∧ R (Itc i c n) H1) : iRgv te σ H R := h
theorem lc_rangeC {lo c : Int} {n : Nat} {g : TG} {tt : TT} {te : TE} {vs : List Nat} {σ : L2.St} {H1 : Hp} {D : Addr} {Qd : Hp → Prop} (Pv : Nat → Hp → Prop) (h0 : Pv 0 (upd H1 D (.lst [])))
    (hs : ∀ i H, i < n → Pv i H → g (.int (lo + i * c)) (wipe σ vs) H fun σ2 H2 => wipe σ2 vs = wipe σ vs ∧ tt σ2 H2 fun b H3 =>
      if b = true then te σ2 H3 fun y H4 => ∃ acc, H4 D = some (.lst acc) ∧ acc.length < sizeLine ∧ Pv (i + 1) (upd H4 D (.lst (acc ++ [y]))) else Pv (i + 1) H3) (hd : ∀ H, Pv n H → Qd H) :
    ∃ W : Nat → Nat → Hp → Prop, (∃ m, W 0 m (upd H1 D (.lst []))) ∧ ∀ i m H, W i m H →
      ((Itc lo c n).stop i H ∧ Qd H) ∨ ((Itc lo c n).go i H ∧ ∃ Nx : Hp → Prop, (∀ H', Nx H' → ∃ m', m' < m ∧ W (i + 1) m' H') ∧ ∀ x H', (Itc lo c n).yld i H x H' → g x (wipe σ vs) H' fun σ2 H2 => wipe σ2 vs = wipe σ vs ∧ tt σ2 H2 fun b H3 =>
        if b = true then te σ2 H3 fun y H4 => ∃ acc, H4 D = some (.lst acc) ∧ acc.length < sizeLine ∧ Nx (upd H4 D (.lst (acc ++ [y]))) else Nx H3) := by
  refine ⟨fun i m H => m = n - i ∧ i ≤ n ∧ Pv i H, ⟨n, by simp, Nat.zero_le _, h0⟩, ?_⟩
  rintro i m H ⟨rfl, hi, p⟩
  by_cases hlt : i < n
  · refine .inr ⟨hlt, Pv (i + 1), fun H' p' => ⟨n - (i + 1), by omega, rfl, hlt, p'⟩, fun x H' y => ?_⟩
    obtain ⟨e, y⟩ := y
    subst e y
    exact hs i _ hlt p
  · have e : i = n := by omega
    subst e
    exact .inl ⟨Nat.le_refl _, hd H p⟩
/-! ### a, *b = a tuple -/
theorem tuple_from {prog : Program} {w : World} {A : Around} (hh : A.handled = none) (I ax : Addr) (hne : ax ≠ I) (x : Value) (items : List Value) :
    Walks prog w A I [I, ax] [I] items.length (fun i v => items[i]? = some v) (fun i h => h.IsTupleIter I ax (1 + i) ∧ h.IsTuple ax (x :: items).toArray) where
  sub := fun b hb => by simp at hb; simp [hb]
  frame := fun _ _ _ st hk => ⟨st.1.at fun o e => hk I (by simp) o e, st.2.at fun o e => hk ax (by simp) o e⟩
  item := fun i s Q E hi st hQ => by
    refine wpAny_pyNext_tuple_item st.1 st.2 (x := items[i]) (by simp [Nat.add_comm 1 i, hi]) fun h' hit' hs' => ?_
    exact hQ _ h' s.toks (by simp [hi]) ⟨by rw [← Nat.add_assoc]; exact hit', st.2.extBut hs'.extBut hne⟩ fun b o hb e => hs'.extBut b o (fun h => hb (by simp [h])) e
  done := fun s Q E st hQ => wpAny_pyNext_tuple_end hh st.1 st.2 (by simp [Nat.add_comm 1]) fun h' he' => hQ h' s.toks fun b o hb e => he' b o (fun h => hb (by simp [h])) e
  self := fun _ _ _ _ st hQ => wpAny_pyIter_tupleiter st.1 hQ
def gHead (K : PySem.W.Frag) (g1 g2 : TG) : TG := fun v σ H Q => ∃ a x xs, v = .ref a ∧ SqT K H a (x :: xs) ∧ xs.length ≤ 1000 ∧ ∀ l, H l = none → g1 x σ (upd H l (.lst xs)) fun σ1 H1 => g2 (.ref l) σ1 H1 Q
section
variable {X : Cx}
theorem pg_head {t1 t2 : Expr} {p2 pos : Pos} {k : Nat} {g1 g2 : TG} (hc : X.calm = true) (h1 : PG X t1 g1) (h2 : PG X t2 g2)
    (hs : assignEach [t1, .Starred t2 p2] X.env = [(false, assign t1 X.env), (true, assign t2 X.env)] := by rfl) : PG X (.Tuple [t1, .Starred t2 p2] k pos) (gHead X.K g1 g2) := by
  refine ⟨fun pins s σ H v u Q I r hw => ?_⟩
  obtain ⟨a, x, xs, e1, hq, hl, hw⟩ := hw
  subst e1
  cases r
  obtain ⟨its, rv, ht, hz⟩ := I.tuple hq
  cases rv with
  | cons rx rxs =>
    rename_i ux uxs
    have hlt : a ≠ s.heap.objs.size := by obtain ⟨o, ho, _⟩ := ht; exact Nat.ne_of_lt (Heap.lt_size ho)
    rw [assign_Tuple]
    refine wpAny_bind (wpAny_standAt ?_)
    unfold unpack
    rw [hs]
    refine wpAny_bind (wpAny_holding ?_)
    show wpAny _ _ (unpackItems (.ref a) 2 (some 1)) _ _ _
    unfold unpackItems
    refine wpAny_bind ?_
    unfold notIterableAtAll
    refine wpAny_bind (wpAny_specialOf ht.typeIs slot_tuple_iter.lookup ?_)
    refine wpAny_pure ?_
    simp only [Bool.false_eq_true, if_false]
    refine wpAny_bind (wpAny_holding (iter_tuple ht ?_))
    refine wpAny_bind (wpAny_holding (draw_tuple hlt 1 0 _ _ ⟨_, Heap.get?_push_size _ rfl, rfl, rfl⟩ (ht.push _) (by simp) fun h₁ hit₁ hs₁ => ?_))
    have e0 : List.take 1 (List.drop 0 ((ux :: uxs).toArray.toList)) = [ux] := by simp
    rw [e0]
    rw [if_neg (by simp)]
    have ht₁ : IsTup h₁ a (ux :: uxs).toArray := (ht.push _).extBut hs₁.extBut hlt
    have hz1 : s.heap.objs.size < h₁.objs.size := by obtain ⟨o, ho, _⟩ := hit₁; exact Heap.lt_size ho
    refine wpAny_bind (wpAny_holding (wpAny_collect_iter (.inr (.inr (.inr rfl))) (tuple_from (A := X.A.in1) (I.ok.hd hc) s.heap.objs.size a hlt ux uxs).toS (fun _ _ st => Heap.IsTupleIter.typeIs st.1) ⟨hit₁, ht₁⟩ (fun b hb => ?_) (List.mem_cons_self) (fun s' acc hm ha => ?_) ?_))
    · rcases List.mem_cons.mp hb with rfl | hb
      · exact hz1
      · rw [List.mem_singleton.mp hb]
        obtain ⟨o, ho, _⟩ := ht₁
        exact Heap.lt_size ho
    · have ea : acc.toList = uxs := by
        obtain ⟨n1, n2⟩ := ha
        refine List.ext_getElem? fun i => ?_
        cases e : acc[i]? with
        | some y => rw [n2 i y e, Array.getElem?_toList, e]
        | none =>
          have : acc.size ≤ i := by simpa using e
          rw [List.getElem?_eq_none (by simpa using this), List.getElem?_eq_none (by omega)]
      rw [ea]
      rw [if_neg (by simp)]
      have kk : ∀ b o, s.heap.get? b = some o → s'.heap.get? b = some o := fun b o e => hm.heap b o (fun z => by
        rw [List.mem_singleton.mp z] at e
        exact absurd (Heap.lt_size e) (Nat.lt_irrefl _)) (hs₁.extBut b o (Nat.ne_of_lt (Heap.lt_size e)) (Heap.get?_push_of_some _ e))
      rw [show 2 - 1 - 1 = 0 from rfl, Nat.sub_zero, List.take_length, List.drop_length]
      have I1 : Inv X pins σ H s' := by
        have q := I.kept (t' := s'.toks) kk
        obtain ⟨hp', g', d', tk', os'⟩ := s'
        have e2 : g' = s.gens := hm.gens
        have e3 : d' = s.drawn := hm.drawn
        have e4 : os' = s.os := hm.os
        subst e2 e3 e4
        exact q
      refine wpAny_bind (wpAny_newList ?_ ?_)
      · refine wpAny_pure ?_
        have I2 : Inv X pins σ (upd H s'.heap.objs.size (.lst xs)) { s' with heap := s'.heap.push { cls := .type "list", data := .seq uxs.toArray } } :=
          I1.laid (t' := s'.toks) (fun b u e => Heap.get?_push_of_some _ e) (Nat.le_refl _) (show ObjOk X.prog X.w _ _ _ (.lst xs) from ⟨Nat.le_trans hl (by decide), uxs, _, rxs, Heap.get?_push_size _ rfl⟩)
        show wpAny _ _ (assignInOrder [assign t1 X.env, assign t2 X.env] [ux, .ref s'.heap.objs.size]) _ _ _
        refine assignInOrder_cons (thn (h1.run pins _ σ _ x ux _ I2 rx (hw _ (I1.hok.fresh (Nat.le_refl _)))) fun _ s3 ⟨σ3, H3, I3, q3⟩ => ?_)
        refine assignInOrder_cons (thn (h2.run pins s3 σ3 H3 (.ref s'.heap.objs.size) _ _ I3 rfl q3) fun _ s4 ⟨σ4, H4, I4, q4⟩ => ?_)
        exact assignInOrder_nil ⟨σ4, H4, I4, q4⟩
      · rw [← rxs.length]
        exact Nat.le_trans hl (by decide)
    · rw [← rxs.length]
      exact Nat.le_trans hl (by decide)
end
/-! ### any, of ints by their truth -/
def rAnyI (K : PySem.W.Frag) : List V → Hp → VK → Prop := fun vs H Q => ∃ (a : Addr) (ns : List Int), vs = [V.ref a] ∧ SqL K H a (ns.map V.int) ∧ Q (.bl (ns.any (· ≠ 0))) H
section
variable {X : Cx}
theorem truth_ints {prog : Program} {w : World} {A : Around} {ns : List Int} {its : List Value} (e : Vals (ns.map V.int) its) :
    TruthOf prog w A (fun i v => its.toArray[i]? = some v) (fun i => (ns.map fun z => decide (z ≠ 0)).getD i false) := fun i v s Q E hv hq => by
  have hv' : its[i]? = some v := by simpa using hv
  have hi : i < its.length := by
    rcases Nat.lt_or_ge i its.length with h | h
    · exact h
    · rw [List.getElem?_eq_none h] at hv'; cases hv'
  have el := Paired.length e
  rw [List.length_map] at el
  have hn : ns[i]? = some (ns[i]'(by omega)) := List.getElem?_eq_getElem (by omega)
  generalize ns[i]'(by omega) = n at hn
  obtain ⟨w', hw, rw'⟩ := Vals.get e (i := i) (by rw [List.getElem?_map, hn]; rfl)
  rw [hv'] at hw
  cases hw
  obtain ⟨t, rfl⟩ := rw'
  have hg : (ns.map (fun z => decide (z ≠ 0))).getD i false = (n != 0) := by rw [List.getD_eq_getElem?_getD, List.getElem?_map, hn, bne, Option.map_some, Option.getD_some]; by_cases h : n = 0 <;> simp [h]
  have hq' : Q ((ns.map (fun z => decide (z ≠ 0))).getD i false) s := hq
  rw [hg] at hq'
  exact PyProof.Rows.truthy_int hq'
theorem cr_anyI (hc : X.calm = true) : CallR X (.builtin "any") (rAnyI X.K) := by
  intro pins s σ H vs us Q I r h
  obtain ⟨a, ns, rfl, hs, q⟩ := h
  obtain ⟨its, rv, hl, _⟩ := I.list hs
  rw [Vals.ref1 r]
  refine call_any_walk (iter_any hl.isList fun s₂ e2 st hne => ?_)
  subst e2
  refine ⟨_, _, _, _, _, _, _, rfl, Walks.list (A := X.A.in1) (I.ok.hd hc) _ a hne its.toArray, st, truth_ints rv, fun h' tk hk => ?_⟩
  refine ⟨.bl _, H, I.kept fun b o eo => hk b o (fun hmem => ?_) (Heap.get?_push_of_some _ eo), ?_, q⟩
  · rcases List.mem_cons.mp hmem with e1 | hmem
    · exact absurd (e1 ▸ Heap.lt_size eo) (Nat.lt_irrefl _)
    · cases hmem
  · show Value.bool _ = Value.bool _
    have e := rv.length
    rw [List.length_map] at e
    rw [show ns.any (fun z => decide (z ≠ 0)) = (ns.map fun z => decide (z ≠ 0)).any id by rw [List.any_map]; rfl, ← L2.any_range, List.size_toArray, List.length_map, ← e]
end
theorem v_rng3 {i j c : Int} {H : Hp} {Q : VK} (c0 : c ≠ 0) (c1 : c.natAbs < 1073741824) (q : ∀ p, H p = none → Q (.ref p) (upd H p (RgO p i j c))) : rRange3 [.int i, .int j, .int c] H Q := ⟨i, j, c, rfl, c0, c1, q⟩
theorem v_anyI {K : PySem.W.Frag} {H : Hp} {Q : VK} {p : Addr} {ns : List Int} (h : SqL K H p (ns.map V.int)) (q : Q (.bl (ns.any (· ≠ 0))) H) : rAnyI K [.ref p] H Q := ⟨p, ns, rfl, h, q⟩
theorem v_head {K : PySem.W.Frag} {g1 g2 : TG} {a : Addr} {x : V} {xs : List V} {σ : L2.St} {H : Hp} {Q : L2.St → Hp → Prop} (h : SqT K H a (x :: xs)) (hl : xs.length ≤ 1000) (q : ∀ (l : Addr) (H' : Hp), H l = none → Same H H' → H' l = some (.lst xs) → g1 x σ H' fun σ1 H1 => g2 (.ref l) σ1 H1 Q) : gHead K g1 g2 (.ref a) σ H Q :=
  ⟨a, x, xs, rfl, h, hl, fun l hl => q l _ hl (same_new hl) upd_same⟩
/-! ### the units of data -/
theorem fold_split : ∀ (B : List Nat) (d : Nat), B.foldl (fun d x => d * 65536 + x) d = d * 65536 ^ B.length + B.foldl (fun d x => d * 65536 + x) 0
  | [], d => by simp
  | b :: B, d => by
    rw [List.foldl_cons, List.foldl_cons, fold_split B (d * 65536 + b), fold_split B (0 * 65536 + b), List.length_cons, Nat.pow_succ]
    rw [Nat.zero_mul, Nat.zero_add, Nat.add_mul, Nat.mul_assoc, Nat.mul_comm 65536 (65536 ^ B.length)]
    omega
theorem digit {A B : List Nat} {x : Nat} (hx : x < 65536) (hB : ∀ n ∈ B, n < 65536) :
    (A ++ x :: B).foldl (fun d x => d * 65536 + x) 0 / 65536 ^ B.length % 65536 = x := by
  have hb := foldl_lt B 0 0 hB (by decide)
  rw [Nat.zero_add] at hb
  rw [List.foldl_append, List.foldl_cons, fold_split B]
  rw [Nat.add_comm, Nat.add_mul_div_right _ _ (Nat.pow_pos (by decide)), Nat.div_eq_of_lt hb, Nat.zero_add]
  omega
theorem fold_zeros : ∀ (k d : Nat), (List.replicate k 0).foldl (fun d x => d * 65536 + x) d = d * 65536 ^ k
  | 0, d => by simp
  | k + 1, d => by
    rw [List.replicate_succ, List.foldl_cons, fold_zeros k, Nat.add_zero, Nat.pow_succ, Nat.mul_assoc, Nat.mul_comm 65536]
def rowU (ns : List Nat) : List Nat := ns.length :: ns ++ List.replicate (31 - ns.length) 0
theorem dataOf_units (ns : List Nat) : dataOf ns = (rowU ns).foldl (fun d x => d * 65536 + x) 0 := by
  unfold dataOf rowU fold
  rw [List.foldl_append, List.foldl_cons, fold_zeros, Nat.zero_mul, Nat.zero_add, show (65536 : Nat) = 2 ^ 16 by decide, ← Nat.pow_mul]
theorem rowU_lt {ns : List Nat} (hn : ∀ n ∈ ns, n < 65536) (hl : ns.length ≤ 31) : ∀ n ∈ rowU ns, n < 65536 := by
  intro n h
  unfold rowU at h
  rcases List.mem_append.mp h with h | h
  · rcases List.mem_cons.mp h with rfl | h
    · omega
    · exact hn n h
  · rw [(List.mem_replicate.mp h).2]
    decide
theorem rowU_len {ns : List Nat} (hl : ns.length ≤ 31) : (rowU ns).length = 32 := by
  unfold rowU
  rw [List.length_append, List.length_cons, List.length_replicate]
  omega
theorem unit_at {ns : List Nat} (hn : ∀ n ∈ ns, n < 65536) (hl : ns.length ≤ 31) {i x : Nat} (h : (rowU ns)[i]? = some x) : wordD (dataOf ns) / 2 ^ (506 - 16 * i) % 65536 = x := by
  have hi : i < 32 := by
    rw [← rowU_len hl]
    rcases Nat.lt_or_ge i (rowU ns).length with h' | h'
    · exact h'
    · rw [List.getElem?_eq_none h'] at h; cases h
  have hlt := rowU_lt hn hl
  have e : rowU ns = (rowU ns).take i ++ x :: (rowU ns).drop (i + 1) := by
    have hi' : i < (rowU ns).length := by rw [rowU_len hl]; exact hi
    rw [List.getElem?_eq_getElem hi'] at h
    have h2 := Option.some.inj h
    rw [← h2, List.getElem_cons_drop, List.take_append_drop]
  have hB : ((rowU ns).drop (i + 1)).length = 31 - i := by
    rw [List.length_drop, rowU_len hl]
    omega
  have d := digit (A := (rowU ns).take i) (x := x) (B := (rowU ns).drop (i + 1)) (hlt x (List.mem_of_getElem? h)) (fun n hn => hlt n (List.mem_of_mem_drop hn))
  rw [← e, ← dataOf_units, hB] at d
  rw [show 2 ^ (506 - 16 * i) = 1024 * 65536 ^ (31 - i) by
    rw [show (65536 : Nat) = 2 ^ 16 by decide, show (1024 : Nat) = 2 ^ 10 by decide, ← Nat.pow_mul, ← Nat.pow_add]
    congr 1
    omega]
  rw [← Nat.div_div_eq_div_mul, wordD_div]
  exact d
theorem unit_row {ns : List Nat} (hn : ∀ n ∈ ns, n < 65536) (hl : ns.length ≤ 31) : (List.range 32).map (fun i => wordD (dataOf ns) / 2 ^ (506 - 16 * i) % 65536) = rowU ns := by
  refine List.ext_getElem? fun i => ?_
  rw [List.getElem?_map]
  rcases Nat.lt_or_ge i 32 with hi | hi
  · have hi' : i < (rowU ns).length := by rw [rowU_len hl]; exact hi
    rw [List.getElem?_range hi, Option.map_some, List.getElem?_eq_getElem hi', unit_at hn hl (List.getElem?_eq_getElem hi')]
  · rw [List.getElem?_eq_none (by rw [List.length_range]; exact hi), List.getElem?_eq_none (by rw [rowU_len hl]; exact hi), Option.map_none]
theorem cut_from (xs ys : List V) (k : Nat) (h : xs.length = k) : cutV (xs ++ ys) (some (k : Int)) none = ys := by
  have e : HT.sIx (xs ++ ys).length 0 (some (k : Int)) = k := by
    rw [HT.sIx_nat, List.length_append]
    omega
  have e2 : HT.sIx (xs ++ ys).length (xs ++ ys).length none = (xs ++ ys).length := rfl
  unfold cutV
  rw [e, e2, ← h, List.drop_left, List.length_append, List.take_of_length_le (by omega)]
theorem cut_to (xs ys : List V) (k : Nat) (h : xs.length = k) : cutV (xs ++ ys) none (some (k : Int)) = xs := by
  have e : HT.sIx (xs ++ ys).length (xs ++ ys).length (some (k : Int)) = k := by
    rw [HT.sIx_nat, List.length_append]
    omega
  have e2 : HT.sIx (xs ++ ys).length 0 none = 0 := rfl
  unfold cutV
  rw [e, e2, ← h, List.drop_zero, Nat.sub_zero, List.take_left]
end Vc
namespace Vc
open PySem PySem.Spec PyProof.Rows L2
/-! ### enumerate(a tuple) -/
section
variable {prog : Program} {w : World} {A : Around} {E : Value → Shared → Prop} {s : Shared}
theorem tup_next {j a : Addr} {i : Nat} {xs : Array Value} {v : Value} {Q : Value → Shared → Prop} (hj : IsTupIter s.heap j a i) (ha : IsTup s.heap a xs) (hv : xs[i]? = some v)
    (q : ∀ h', IsTupIter h' j a (i + 1) → Heap.SameBut j s.heap h' → Q v { s with heap := h' }) : wpAny (model prog w) A (Builtin.SmallTypes.nextOf (.ref j)) Q E s := by
  obtain ⟨oj, gj, cj, dj⟩ := id hj
  obtain ⟨oa, ga, _, na, da⟩ := ha
  unfold Builtin.SmallTypes.nextOf
  refine wpAny_bind (wpAny_callSpecial?_slot (name := Str.ofString "__next__") hj.typeIs slot_tupleiter_next (wpAny_call_entry slot_tupleiter_next hj.typeIs entry_tupleiter_next ?_ (args_tupleiter_next _)))
  show wpAny _ _ (field (.ref j) 0 >>= _) _ _ s
  refine wpAny_bind (wpAny_field gj dj (x := .ref a) rfl ?_)
  show wpAny _ _ (if (Value.ref a == Value.none) = true then _ else _) _ _ s
  rw [if_neg (show ¬ ((Value.ref a == Value.none) = true) from Bool.false_ne_true)]
  show wpAny _ _ (field (.ref j) 1 >>= _) _ _ s
  refine wpAny_bind (wpAny_field gj dj (x := .int i 0) rfl ?_)
  show wpAny _ _ (seqItems? (.ref a) >>= _) _ _ s
  refine wpAny_bind (wpAny_seqItems ga da ?_)
  simp only [Int.toNat_natCast, hv]
  refine wpAny_bind (wpAny_setField gj dj (by simp) (wpAny_pure ⟨v, rfl, wpAny_pure (q _ ⟨_, Heap.get?_update_self _ gj (Obj.isFreed_of_fields (Obj.data_mapFields dj _)), (Obj.cls_mapFields ..).trans cj, ?_⟩ (Heap.SameBut.update ..))⟩))
  rw [Obj.data_mapFields dj]
  simp [rawInt]
theorem tup_last {j a : Addr} {i : Nat} {xs : Array Value} {Q : Value → Shared → Prop} (hh : A.handled = none) (hj : IsTupIter s.heap j a i) (ha : IsTup s.heap a xs) (hv : xs[i]? = none)
    (q : ∀ h' e, Heap.ExtBut j s.heap h' → (∃ o, h'.get? e = some o ∧ o.cls = .type "StopIteration") → E (.ref e) { s with heap := h' }) : wpAny (model prog w) A (Builtin.SmallTypes.nextOf (.ref j)) Q E s := by
  obtain ⟨oj, gj, cj, dj⟩ := id hj
  obtain ⟨oa, ga, _, na, da⟩ := ha
  unfold Builtin.SmallTypes.nextOf
  refine wpAny_bind (wpAny_callSpecial?_slot (name := Str.ofString "__next__") hj.typeIs slot_tupleiter_next (wpAny_call_entry slot_tupleiter_next hj.typeIs entry_tupleiter_next ?_ (args_tupleiter_next _)))
  show wpAny _ _ (field (.ref j) 0 >>= _) _ _ s
  refine wpAny_bind (wpAny_field gj dj (x := .ref a) rfl ?_)
  show wpAny _ _ (if (Value.ref a == Value.none) = true then _ else _) _ _ s
  rw [if_neg (show ¬ ((Value.ref a == Value.none) = true) from Bool.false_ne_true)]
  show wpAny _ _ (field (.ref j) 1 >>= _) _ _ s
  refine wpAny_bind (wpAny_field gj dj (x := .int i 0) rfl ?_)
  show wpAny _ _ (seqItems? (.ref a) >>= _) _ _ s
  refine wpAny_bind (wpAny_seqItems ga da ?_)
  simp only [Int.toNat_natCast, hv]
  refine wpAny_bind (wpAny_rule (wpAny_bind (wpAny_setField gj dj (by simp) ?_)))
  show wpAny _ _ (newExc (.type "StopIteration") [] >>= _) _ _ _
  refine wpAny_bind ?_
  simp only [newExc, newTuple]
  refine wpAny_bind (wpAny_newObj_type ?_ (by size_fits))
  refine wpAny_bind (m := firstArgMember _ _) (wpAny_of_eq (a := Value.none) (by first | rfl | (simp only [firstArgMember]; rfl)) ?_)
  refine wpAny_newObj_type ?_ (by size_fits)
  simp only [raiseNew]
  refine wpAny_bind (wpAny_handled ?_)
  first | rw [show A.in1.handled = none from hh] | rw [hh]
  refine wpAny_bind (wpAny_pure (wpAny_throw ?_))
  exact q _ _ (((Heap.SameBut.update ..).extBut.push _).push _) ⟨_, Heap.get?_push_size _ rfl, rfl⟩
end
theorem draws_tup {prog : Program} {w : World} {A : Around} (hh : A.handled = none) (j a : Addr) (ne : a ≠ j) (xs : Array Value) :
    Draws prog w A j [j, a] xs.size (fun i v => xs[i]? = some v) (fun i h => IsTupIter h j a i ∧ IsTup h a xs) where
  live := fun _ _ ⟨⟨o, ho, _⟩, _⟩ => ⟨o, ho⟩
  frame := fun _ _ _ ⟨⟨o, ho, r⟩, ⟨o2, ho2, r2⟩⟩ k => ⟨⟨o, k j (by simp) _ ho, r⟩, ⟨o2, k a (by simp) _ ho2, r2⟩⟩
  item := fun i s Q E hi st hQ => tup_next st.1 st.2 (v := xs[i]) (by simp [hi]) fun h' t1 t2 => hQ _ h' s.toks (by simp [hi]) ⟨t1, st.2.extBut t2.extBut ne⟩ t2
  done := fun s Q E st hE => tup_last hh st.1 st.2 (by simp) hE
theorem enum_makes (a : Addr) (xs : Array Value) (n : Nat) (dct : Option Addr) (sl : Array (Option Value)) :
    Meets (Builtin.«enumerate.__new__» ⟨[.type "enumerate", .ref a], []⟩) (fun _ R s => s.heap.get? a = some { cls := .type "tuple", dict := dct, data := .seq xs n, slots := sl } ∧
      R (.ok (.ret (.ref (s.heap.push { cls := .type "tuple_iterator", data := .fields #[.ref a, .int 0 0] }).objs.size)))
        { s with heap := (s.heap.push { cls := .type "tuple_iterator", data := .fields #[.ref a, .int 0 0] }).push { cls := .type "enumerate", data := .fields #[.none, .bool false, .ref s.heap.objs.size, rawInt 0, .none, .none] } }) :=
  .of_wp fun prog w A R s hyp => by
    obtain ⟨hp, gs, dr, tk, os⟩ := s
    obtain ⟨ha, hyp⟩ := hyp
    have se := sub_enumerate
    have isT : IsTup (Shared.heap ⟨hp, gs, dr, tk, os⟩) a xs := ⟨_, ha, rfl, n, rfl⟩
    wp_walk using AutoSeq1.wpAny_loadPart' ha
    refine wpAny_stack_any fun _ => wpAny_pure ?_
    split
    · rename_i c _ _ _ _ _
      cases (c == Value.type "enumerate") <;> wp_walk using AutoSeq1.wpAny_loadPart' ha, iter_tuple isT <;> exact ⟨_, rfl, hyp⟩
    · wp_walk using AutoSeq1.wpAny_loadPart' ha, iter_tuple isT
      exact ⟨_, rfl, hyp⟩
end Vc
namespace Vc
open PySem PySem.Spec PyProof.Rows L2
theorem enum_tup {prog : Program} {w : World} {A : Around} {E : Value → Shared → Prop} {s : Shared} {a : Addr} {xs : Array Value} {Q : Value → Shared → Prop} (ha : IsTup s.heap a xs)
    (h : ∀ h', IsEnum h' (s.heap.objs.size + 1) s.heap.objs.size 0 .none → IsTupIter h' s.heap.objs.size a 0 → (∀ b o, s.heap.get? b = some o → h'.get? b = some o) → Q (.ref (s.heap.objs.size + 1)) { s with heap := h' }) :
    wpAny (model prog w) A (call (.type "enumerate") [.ref a]) Q E s := by
  obtain ⟨⟨c, dct, dt, sl⟩, ga, gc, n, gd⟩ := ha
  replace gc : c = .type "tuple" := gc
  replace gd : dt = .seq xs n := gd
  subst gc gd
  refine callType_new F.called_enumerate (by decide) (F.typeCall_enumerate_1 _) (F.newCall_enumerate_1 _) (fun ob => F.args_object_init_2 ob _) F.entry_enumerate_new (enum_makes a xs n dct sl) ⟨ga, ?_⟩
  have z : (s.heap.push { cls := .type "tuple_iterator", data := .fields #[.ref a, .int 0 0] }).objs.size = s.heap.objs.size + 1 := Heap.size_push ..
  have g := Heap.get?_push_size (s.heap.push { cls := .type "tuple_iterator", data := .fields #[.ref a, .int 0 0] })
    (o := { cls := .type "enumerate", data := .fields #[.none, .bool false, .ref s.heap.objs.size, rawInt 0, .none, .none] }) rfl
  show _ ∧ _
  rw [z] at g ⊢
  exact ⟨⟨_, g, rfl⟩, h _ g ⟨_, Heap.get?_push_of_some _ (Heap.get?_push_size _ rfl), rfl, rfl⟩ fun b o x => Heap.get?_push_of_some _ (Heap.get?_push_of_some _ x)⟩
theorem draws_end {prog : Program} {w : World} {A : Around} (hh : A.handled = none) (j a : Addr) (ne : a ≠ j) (xs : Array Value) (i : Nat) (hn : xs[i]? = none) :
    Draws prog w A j [j, a] i (fun _ _ => True) (fun k h => k = i ∧ IsTupIter h j a i ∧ IsTup h a xs) where
  live := fun _ _ st => let ⟨_, ⟨o, ho, _⟩, _⟩ := st; ⟨o, ho⟩
  frame := fun _ _ _ st k => let ⟨e, ⟨o, ho, r⟩, ⟨o2, ho2, r2⟩⟩ := st; ⟨e, ⟨o, k j (by simp) _ ho, r⟩, ⟨o2, k a (by simp) _ ho2, r2⟩⟩
  item := fun k s Q E hi st hQ => absurd st.1 (Nat.ne_of_lt hi)
  done := fun s Q E st hE => tup_last hh st.2.1 st.2.2 hn hE
/-- the tuple at a, each item in a new pair -/
def Itq (K : PySem.W.Frag) (a : Addr) : It :=
  ⟨fun i H => ∃ (xs : List V) (x : V), SqT K H a xs ∧ xs[i]? = some x, fun i H v H' => ∃ T x, v = .ref T ∧ H T = none ∧ H' = upd H T (.tup [.int (i : Nat), x]) ∧ ∀ xs, SqT K H a xs → xs[i]? = some x, fun i H => ∃ xs : List V, SqT K H a xs ∧ xs.length ≤ i⟩
theorem turn_q {P : Program} {w : World} {K : PySem.W.Frag} {elts : List Expr} {kk : Nat} {tpos : Pos} (a e it : Addr) :
    Turn P w K (.Tuple elts kk tpos) (Itq K a) [e, it] e (fun i h => (∃ old, IsEnum h e it ((i : Nat) : Int) old) ∧ IsTupIter h it a i ∧ e ≠ it ∧ a ≠ it ∧ a ≠ e) where
  mem := List.mem_cons_self
  obj := fun i h st b hb => by
    obtain ⟨⟨old, he⟩, ⟨o, ho, hc, hd⟩, hr⟩ := st
    rcases List.mem_cons.mp hb with z | z
    · subst z
      exact ⟨_, he, fun v q => nomatch q⟩
    · rw [List.mem_singleton.mp z]
      exact ⟨o, ho, fun v q => by rw [hd] at q; cases q⟩
  keep := fun i h h' st k => let ⟨⟨old, he⟩, ⟨o, ho, r⟩, ne⟩ := st; ⟨⟨old, k e (by simp) _ he⟩, ⟨o, k it (by simp) _ ho, r⟩, ne⟩
  item := by
    intro X hP hw hK hc i pins s σ H E I hf st hg
    subst hP hw hK
    obtain ⟨⟨old, he⟩, hit, ne, na, ne2⟩ := st
    obtain ⟨xs, x, hq, hx⟩ := hg
    obtain ⟨its, rv, p, hz⟩ := I.tuple hq
    obtain ⟨u, hu, ru⟩ := rv.get hx
    have lt_e : e < s.heap.objs.size := Heap.lt_size he
    have lt_i : it < s.heap.objs.size := by obtain ⟨_, g, _⟩ := hit; exact Heap.lt_size g
    have hui : its.toArray[i]? = some u := by simpa using hu
    have hlt : i < its.toArray.size := by
      rcases Nat.lt_or_ge i its.toArray.size with z | z
      · exact z
      · rw [Array.getElem?_eq_none z] at hui; cases hui
    refine wpAny_pyNext_enum_itemD (draws_tup (A := X.A.in1) (I.ok.hd hc) it a na its.toArray) he ⟨hit, p⟩ hlt ne (by simp [ne, Ne.symm ne2]) fun x' h' tk hx' ho st' hT hsz hk => ?_
    have ex : x' = u := by
      have hx' : its.toArray[i]? = some x' := hx'
      rw [hui] at hx'
      exact (Option.some.inj hx').symm
    subst ex
    refine ⟨_, rfl, wpAny_letOwnedTupleGo_enum (s := { s with heap := h', toks := tk + 1 }) ho fun h2 he2 sb => ?_⟩
    have hT2 := (sb.2 _ (Nat.ne_of_gt lt_e)).trans hT
    have I1 : Inv X pins σ (upd H s.heap.objs.size (.tup [.int (i : Nat), x])) { s with heap := h2, toks := tk + 1 } :=
      I.turnedNew (ch := [e, it]) (fun b ob hb q => (sb.2 b (fun z => hb (by simp [z]))).trans (hk b ob (fun z => hb (by simp [z])) (fun z => hb (by simp [z])) q)) hf (Nat.le_refl _)
        (show ObjOk X.prog X.w _ h2 _ (.tup _) from ⟨by show 2 ≤ sizeLine; decide, [.int i tk, x'], .cons ⟨_, rfl⟩ (.cons ru .nil), ⟨_, hT2, rfl, _, rfl⟩⟩)
    refine ⟨.ref s.heap.objs.size, _, I1, rfl, ⟨_, x, rfl, I.hok.fresh (Nat.le_refl _), rfl, fun ys hy => ?_⟩, ⟨⟨x', by rw [show ((i + 1 : Nat) : Int) = (i : Int) + 1 by omega]; exact he2⟩, ?_, ne, na, ne2⟩, fun b hb => ?_⟩
    · rw [I.tuple_inj hy hq]
      exact hx
    · obtain ⟨o, g, r⟩ := st'.1
      exact ⟨o, (sb.2 it (Ne.symm ne)).trans g, r⟩
    · have hb' : b < s.heap.objs.size := by
        rcases List.mem_cons.mp hb with z | z
        · rw [z]; exact lt_e
        · rw [List.mem_singleton.mp z]; exact lt_i
      rw [upd_ne (Nat.ne_of_lt hb')]
      exact (hf b hb).1
  done := by
    intro X hP hw hK hc i pins s σ H E I hf st hg
    subst hP hw hK
    obtain ⟨⟨old, he⟩, hit, ne, na, ne2⟩ := st
    obtain ⟨xs, hq, hx⟩ := hg
    obtain ⟨its, rv, p, hz⟩ := I.tuple hq
    obtain ⟨f0, f1, f2, f3, f4, f5⟩ := hf it (by simp)
    have hn : its.toArray[i]? = none := by
      have := rv.length
      simp
      omega
    exact wpAny_pyNext_enum_endD (draws_end (A := X.A.in1) (I.ok.hd hc) it a na its.toArray i hn) he ⟨rfl, hit, p⟩ fun h' eb => ⟨rfl, I.turned (t' := s.toks) (fun b o hb q => eb b o hb q) f0 f1 f3 f4 f5⟩
  self := fun A i s Q E st h => let ⟨⟨_, he⟩, _⟩ := st; wpAny_pyIter_enum he h
def iEnq (K : PySem.W.Frag) (ta : TA) : TI := fun σ H R => ta σ H fun vs H1 => ∃ a xs, vs = [.ref a] ∧ SqT K H1 a xs ∧ R (Itq K a) H1
theorem v_iEnq {K : PySem.W.Frag} {ta : TA} {σ : L2.St} {H : Hp} {R : It → Hp → Prop} (h : ta σ H fun vs H1 => ∃ a xs, vs = [.ref a] ∧ SqT K H1 a xs ∧ R (Itq K a) H1) : iEnq K ta σ H R := h
theorem pi_enq {X : Cx} {e : Expr} {ta : TA} {p pos tpos : Pos} {elts : List Expr} {kk : Nat} (hg : Gl X "enumerate") (hm : X.mg "enumerate" = none) (ha : PA X [e] ta) (hs : starEach [e] X.env = [(false, eval e X.env)] := by rfl) :
    PI X (.Tuple elts kk tpos) (.Call (.Name "enumerate" p) [e] [] pos) (iEnq X.K ta) := by
  refine ⟨fun pins s σ H R I h => Call_ (ld_blt I hg hm boot_enumerate (PyProof.Rows.callWith_type1 (thn (ha.run pos pins s σ H _ I h) fun us s1 ⟨vs, H1, I1, r1, q1⟩ => ?_) hs rfl))⟩
  obtain ⟨a, xs, rfl, hq, q⟩ := q1
  obtain ⟨u, rfl, ru⟩ := vals1 r1
  cases ru
  obtain ⟨its, rv, p', hz⟩ := I1.tuple hq
  have la : a < s1.heap.objs.size := by obtain ⟨o, ho, _⟩ := p'; exact Heap.lt_size ho
  refine enum_tup p' fun h' he hit hk => wpAny_pyIter_enum he ⟨s1.heap.objs.size + 1, [s1.heap.objs.size + 1, s1.heap.objs.size], _, _, H1, rfl, I1.kept (t' := s1.toks) hk, turn_q a (s1.heap.objs.size + 1) s1.heap.objs.size,
    ⟨⟨.none, he⟩, hit, Nat.succ_ne_self _, Nat.ne_of_lt la, Nat.ne_of_lt (Nat.lt_succ_of_lt la)⟩, fun b hb => ?_, q⟩
  have hle : s1.heap.objs.size ≤ b := by
    rcases List.mem_cons.mp hb with z | z
    · rw [z]; exact Nat.le_add_right _ _
    · rw [List.mem_singleton.mp z]; exact Nat.le_refl _
  exact I1.fpOk hle (I1.hok.fresh hle)
theorem for_enq {K : PySem.W.Frag} {a : Addr} {xs : List V} {g : TG} {tb : TS} {D : Ends} {σ : L2.St} {H : Hp} (Pv : Nat → L2.St → Hp → Prop) (h0 : Pv 0 σ H) (ht : ∀ i σ H, i ≤ xs.length → Pv i σ H → SqT K H a xs)
    (hs : ∀ i x σ H T H', xs[i]? = some x → Pv i σ H → H T = none → Same H H' → H' T = some (.tup [.int (i : Nat), x]) → g (.ref T) σ H' fun σ2 H2 => tb { D with nx := Pv (i + 1), ct := Pv (i + 1), bk := D.nx } σ2 H2) (hd : ∀ σ H, Pv xs.length σ H → D.nx σ H) :
    ∃ W : Nat → Nat → L2.St → Hp → Prop, (∃ m, W 0 m σ H) ∧ ∀ i m σ H, W i m σ H →
      ((Itq K a).stop i H ∧ D.nx σ H) ∨ ((Itq K a).go i H ∧ ∃ N : L2.St → Hp → Prop, (∀ σ' H', N σ' H' → ∃ m', m' < m ∧ W (i + 1) m' σ' H') ∧ ∀ x H', (Itq K a).yld i H x H' → g x σ H' fun σ2 H2 => tb { D with nx := N, ct := N, bk := D.nx } σ2 H2) := by
  refine ⟨fun i m σ H => m + i = xs.length ∧ Pv i σ H, ⟨xs.length, Nat.add_zero _, h0⟩, ?_⟩
  rintro i m σ H ⟨hm, p⟩
  have t := ht i σ H (by omega) p
  cases m with
  | zero =>
    have e : i = xs.length := by omega
    subst e
    exact .inl ⟨⟨xs, t, Nat.le_refl _⟩, hd σ H p⟩
  | succ m =>
    have hi : xs[i]? = some (xs[i]'(by omega)) := List.getElem?_eq_getElem (by omega)
    refine .inr ⟨⟨xs, _, t, hi⟩, Pv (i + 1), fun σ' H' p' => ⟨m, Nat.lt_succ_self _, by omega, p'⟩, ?_⟩
    rintro x H' ⟨T, y, rfl, hT, rfl, hy⟩
    exact hs i y σ H T _ (hy xs t) p hT (same_new hT) upd_same
/-! ### a local name that holds a def -/
theorem pe_callVG {X : Cx} {k i : Nat} {f : Addr} {fd : FuncData} {ps : List Str} {ds : List Value} {dvs : List V} {sp : Sp} {x : Str} {e : Expr} {es : List Expr} {t : TA} {p pos : Pos}
    (F : FnG X.prog X.w X.K X.mg X.base k f fd ps sp) (hgd : X.A.guards = some []) (hr : Room k X.A) (hk : PySem.W.keepIn X.K (.ref f) = true) (hb : Binds X.K fd ps ds) (hd : Vals dvs ds) (hN : X.N[i]? = some x) (hv : Vis X.env.scope x) (ha : PA X (e :: es) t)
    (h1 : (x == ("__debug__" : Str)) = false := by decide) (h2 : (x == ("__classdict__" : Str)) = false := by decide)
    (he : starEach (e :: es) X.env = (false, eval e X.env) :: starEach es X.env := by rfl) (hpl : (backTo pos (starEach es X.env)).any (·.1) = false := by rfl) :
    PE X (.Call (.Name x p) (e :: es) [] pos) (fun σ H Q => σ[i]? = some (some (.ref f)) ∧ tCall sp dvs E0 t σ H Q) := by
  refine ⟨fun pins s σ H Q I h => ?_⟩
  obtain ⟨hs, h⟩ := h
  refine wpAny_Call_Name_kw (thn ((pe_var (pos := p) (i := i) hN hv h1 h2).run pins s σ H (fun v H1 => v = .ref f ∧ H1 = H) I ⟨.ref f, hs, rfl, rfl⟩) fun u s1 ⟨v, H1, I1, r1, ev, eH⟩ => ?_)
  subst ev eH
  cases r1
  exact PySem.W.callWith_K (h₀ := X.base) I.ok.mod.kin hk (thn (ha.run pos pins s1 σ _ _ I1 h) fun us s2 hh => by obtain ⟨vs, H2, I2, r, q⟩ := hh; exact ⟨I2.kIn, runG F hgd hr hb hd I2 r q⟩) he hpl
/-! ### the type of a tuple -/
theorem ty_tup {K : PySem.W.Frag} {H : Hp} {p : Addr} {xs : List V} (h : SqT K H p xs) : TyX K H (.ref p) (.type "tuple") := by
  rcases h with (h | ⟨o, h⟩) | ⟨o, its, n, e, c, _⟩
  · exact .base (.tup h)
  · exact .fTuple h
  · exact .kTuple e c
theorem v_isTup {K : PySem.W.Frag} {H : Hp} {Q : VK} {p : Addr} {xs : List V} (h : SqT K H p xs) (q : Q (.bl true) H) : rIsi K [.ref p, .ty "tuple"] H Q := ⟨_, _, _, _, true, rfl, .ty _, ty_tup h, kit_ty (by decide +kernel), q⟩
theorem v_star {K : PySem.W.Frag} {te : TE} {t : TA} {σ : L2.St} {H : Hp} {QA : List V → Hp → Prop} (h : te σ H fun x H1 => ∃ p xs, x = V.ref p ∧ (SqT K H1 p xs ∨ SqL K H1 p xs) ∧ t σ H1 fun ys H2 => QA (xs ++ ys) H2) : StX.tStar K te t σ H QA := h
theorem v_aug {i : Nat} {te : TE} {ti : TIp} {D : Ends} {σ : L2.St} {H : Hp} {x : V} (e : σ[i]? = some (some x)) (h : te σ H fun y H1 => ti x y H1 fun z H2 => D.nx (σ.set i (some z)) H2) : tAug i te ti D σ H := ⟨x, e, h⟩
/-! ### numbers set side by side -/
theorem or_side {a b n : Nat} (h : b < 2 ^ n) : a * 2 ^ n ||| b = a * 2 ^ n + b := by
  have := Nat.shiftLeft_add_eq_or_of_lt h a
  rw [Nat.shiftLeft_eq] at this
  exact this.symm
end Vc
namespace Vc
open PySem PySem.Spec PyProof.Rows L2
/-! ### data of any kind, the empty dict too; lists and tuples of it lie outside M -/
inductive D where
  | non
  | bl (b : Bool)
  | int (i : Int)
  | str (s : PySem.Str)
  | lst (xs : List D)
  | tup (xs : List D)
  | dic
mutual
inductive Is (M : Addr → Prop) (H : Hp) : V → D → Prop
  | non : Is M H .non .non
  | bl (b : Bool) : Is M H (.bl b) (.bl b)
  | int (i : Int) : Is M H (.int i) (.int i)
  | str (s : PySem.Str) : Is M H (.str s) (.str s)
  | lst {a : Addr} {xs : List V} {ds : List D} (e : H a = some (.lst xs)) (n : ¬ M a) (h : IsAll M H xs ds) : Is M H (.ref a) (.lst ds)
  | tup {a : Addr} {xs : List V} {ds : List D} (e : H a = some (.tup xs)) (n : ¬ M a) (h : IsAll M H xs ds) : Is M H (.ref a) (.tup ds)
  | dic {a : Addr} (e : H a = some (.dK [])) (n : ¬ M a) : Is M H (.ref a) .dic
inductive IsAll (M : Addr → Prop) (H : Hp) : List V → List D → Prop
  | nil : IsAll M H [] []
  | cons {v : V} {vs : List V} {d : D} {ds : List D} (h : Is M H v d) (t : IsAll M H vs ds) : IsAll M H (v :: vs) (d :: ds)
end
def Fr (M : Addr → Prop) (H H' : Hp) : Prop := ∀ b o, ¬ M b → H b = some o → H' b = some o
section
variable {M M' : Addr → Prop} {H H' : Hp}
mutual
theorem Is.to (f : ∀ b o, ¬ M b → H b = some o → H' b = some o ∧ ¬ M' b) : ∀ (d : D) (v : V), Is M H v d → Is M' H' v d
  | .non, _, h => by cases h; exact .non
  | .bl _, _, h => by cases h; exact .bl _
  | .int _, _, h => by cases h; exact .int _
  | .str _, _, h => by cases h; exact .str _
  | .lst ds, _, h => by
    cases h with
    | lst e n h => exact .lst (f _ _ n e).1 (f _ _ n e).2 (IsAll.to f ds _ h)
  | .tup ds, _, h => by
    cases h with
    | tup e n h => exact .tup (f _ _ n e).1 (f _ _ n e).2 (IsAll.to f ds _ h)
  | .dic, _, h => by
    cases h with
    | dic e n => exact .dic (f _ _ n e).1 (f _ _ n e).2
theorem IsAll.to (f : ∀ b o, ¬ M b → H b = some o → H' b = some o ∧ ¬ M' b) : ∀ (ds : List D) (vs : List V), IsAll M H vs ds → IsAll M' H' vs ds
  | [], _, h => by cases h; exact .nil
  | d :: ds, _, h => by
    cases h with
    | cons h t => exact .cons (Is.to f d _ h) (IsAll.to f ds _ t)
end
theorem Is.fr {v : V} {d : D} (h : Is M H v d) (f : Fr M H H') : Is M H' v d := Is.to (fun b o n e => ⟨f b o n e, n⟩) d v h
theorem IsAll.fr {vs : List V} {ds : List D} (h : IsAll M H vs ds) (f : Fr M H H') : IsAll M H' vs ds := IsAll.to (fun b o n e => ⟨f b o n e, n⟩) ds vs h
theorem Is.same {v : V} {d : D} (h : Is M H v d) (s : Same H H') : Is M H' v d := h.fr fun b o _ e => s b o e
theorem IsAll.same {vs : List V} {ds : List D} (h : IsAll M H vs ds) (s : Same H H') : IsAll M H' vs ds := h.fr fun b o _ e => s b o e
theorem Is.weak {v : V} {d : D} (h : Is M H v d) (f : ∀ b, M' b → M b) : Is M' H v d := Is.to (fun b o n e => ⟨e, fun m => n (f b m)⟩) d v h
theorem IsAll.weak {vs : List V} {ds : List D} (h : IsAll M H vs ds) (f : ∀ b, M' b → M b) : IsAll M' H vs ds := IsAll.to (fun b o n e => ⟨e, fun m => n (f b m)⟩) ds vs h
theorem IsAll.len {vs : List V} : ∀ {ds : List D}, IsAll M H vs ds → vs.length = ds.length
  | [], h => by cases h; rfl
  | _ :: ds, h => by
    cases h with
    | cons _ t => rw [List.length_cons, List.length_cons, t.len]
theorem IsAll.get {x : V} : ∀ {vs : List V} {ds : List D} {i : Nat}, IsAll M H vs ds → vs[i]? = some x → ∃ d, ds[i]? = some d ∧ Is M H x d
  | [], [], i, _, e => by simp at e
  | v :: vs, d :: ds, 0, h, e => by
    cases h with
    | cons h t =>
      rw [List.getElem?_cons_zero] at e
      cases e
      exact ⟨d, rfl, h⟩
  | v :: vs, d :: ds, i + 1, h, e => by
    cases h with
    | cons h t =>
      rw [List.getElem?_cons_succ] at e ⊢
      exact t.get e
theorem IsAll.mem {x : V} {vs : List V} {ds : List D} (h : IsAll M H vs ds) (m : x ∈ vs) : ∃ d, d ∈ ds ∧ Is M H x d := by
  obtain ⟨i, hi⟩ := List.getElem?_of_mem m
  obtain ⟨d, hd, r⟩ := h.get hi
  exact ⟨d, List.mem_of_getElem? hd, r⟩
theorem IsAll.app {vs ws : List V} {ds es : List D} (h : IsAll M H vs ds) (t : IsAll M H ws es) : IsAll M H (vs ++ ws) (ds ++ es) := by
  induction vs generalizing ds with
  | nil => cases h; exact t
  | cons v vs ih =>
    cases h with
    | cons a b => exact .cons a (ih b)
theorem IsAll.take : ∀ {vs : List V} {ds : List D} (k : Nat), IsAll M H vs ds → IsAll M H (vs.take k) (ds.take k)
  | [], [], k, _ => by simp; exact .nil
  | _ :: _, _ :: _, 0, _ => .nil
  | v :: vs, d :: ds, k + 1, h => by
    cases h with
    | cons a b => exact .cons a (b.take k)
theorem IsAll.drop : ∀ {vs : List V} {ds : List D} (k : Nat), IsAll M H vs ds → IsAll M H (vs.drop k) (ds.drop k)
  | [], [], k, _ => by simp; exact .nil
  | _ :: _, _ :: _, 0, h => h
  | v :: vs, d :: ds, k + 1, h => by
    cases h with
    | cons a b => exact b.drop k
theorem IsAll.rev {vs : List V} {ds : List D} (h : IsAll M H vs ds) : IsAll M H vs.reverse ds.reverse := by
  induction vs generalizing ds with
  | nil => cases h; exact .nil
  | cons v vs ih =>
    cases h with
    | cons a b => rw [List.reverse_cons, List.reverse_cons]; exact (ih b).app (.cons a .nil)
theorem IsAll.rep {v : V} {d : D} (h : Is M H v d) : ∀ k : Nat, IsAll M H (List.replicate k v) (List.replicate k d)
  | 0 => .nil
  | k + 1 => .cons h (IsAll.rep h k)
end
/-! ### its kinds -/
def D.ty : D → String
  | .non => "NoneType"
  | .bl _ => "bool"
  | .int _ => "int"
  | .str _ => "str"
  | .lst _ => "list"
  | .tup _ => "tuple"
  | .dic => "dict"
theorem Is.tyx {K : PySem.W.Frag} {M : Addr → Prop} {H : Hp} {v : V} {d : D} (h : Is M H v d) : TyX K H v (.type d.ty) := by
  cases h with
  | non => exact .base .non
  | bl b => exact .base (.bl b)
  | int i => exact .base (.int i)
  | str s => exact .base (.str s)
  | lst e n h => exact .base (.lst e)
  | tup e n h => exact .base (.tup e)
  | dic e n => exact .base (.dK e)
def D.isInt : D → Bool
  | .int _ => true
  | .bl _ => true
  | _ => false
def D.isBl : D → Bool
  | .bl _ => true
  | _ => false
def D.isStr : D → Bool
  | .str _ => true
  | _ => false
def D.isTup : D → Bool
  | .tup _ => true
  | _ => false
def D.num : D → Option Int
  | .int i => some i
  | _ => none
section
variable {K : PySem.W.Frag} {M : Addr → Prop} {H : Hp} {v : V} {d : D} {Q : VK}
theorem d_isInt (h : Is M H v d) (q : Q (.bl d.isInt) H) : rIsi K [v, .ty "int"] H Q :=
  ⟨_, _, _, _, d.isInt, rfl, .ty _, h.tyx, kit_ty (by cases d <;> (simp only [D.ty, D.isInt, D.isBl, D.isStr, D.isTup]; decide +kernel)), q⟩
theorem d_isBl (h : Is M H v d) (q : Q (.bl d.isBl) H) : rIsi K [v, .ty "bool"] H Q :=
  ⟨_, _, _, _, d.isBl, rfl, .ty _, h.tyx, kit_ty (by cases d <;> (simp only [D.ty, D.isInt, D.isBl, D.isStr, D.isTup]; decide +kernel)), q⟩
theorem d_isStr (h : Is M H v d) (q : Q (.bl d.isStr) H) : rIsi K [v, .ty "str"] H Q :=
  ⟨_, _, _, _, d.isStr, rfl, .ty _, h.tyx, kit_ty (by cases d <;> (simp only [D.ty, D.isInt, D.isBl, D.isStr, D.isTup]; decide +kernel)), q⟩
theorem d_isTup (h : Is M H v d) (q : Q (.bl d.isTup) H) : rIsi K [v, .ty "tuple"] H Q :=
  ⟨_, _, _, _, d.isTup, rfl, .ty _, h.tyx, kit_ty (by cases d <;> (simp only [D.ty, D.isInt, D.isBl, D.isStr, D.isTup]; decide +kernel)), q⟩
end
/-- a whole number from j up to k -/
def D.btw (j k : Int) : D → Bool
  | .int i => decide (j ≤ i ∧ i ≤ k)
  | _ => false
def D.whole : D → Bool
  | .int _ => true
  | _ => false
/-! ### displays of data -/
def Old (H : Hp) (b : Addr) : Prop := H b ≠ none
def tD (d : D) : TE := fun _ H Q => ∀ v H', Same H H' → Is (Old H) H' v d → Q v H'
def tDs (ds : List D) : TA := fun _ H Q => ∀ vs H', Same H H' → IsAll (Old H) H' vs ds → Q vs H'
theorem old_same {H H' : Hp} (s : Same H H') : ∀ b, Old H b → Old H' b := fun b h => by
  unfold Old at h ⊢
  cases e : H b with
  | none => exact absurd e h
  | some o => rw [s b o e]; exact fun z => nomatch z
theorem new_old {H H' : Hp} {p : Addr} (s : Same H H') (h : H' p = none) : ¬ Old H p := fun z => (old_same s p z) h
section
variable {X : Cx} {e : Expr} {es : List Expr} {t : TE} {d : D} {ds : List D} {pos : Pos}
theorem pd_of (he : PE X e t) (h : ∀ σ H Q, tD d σ H Q → t σ H Q) : PE X e (tD d) := ⟨fun pins s σ H Q I q => he.run pins s σ H Q I (h σ H Q q)⟩
theorem pd_int {i : Int} {j} : PE X (.Constant (.int i) j pos) (tD (.int i)) := pd_of pe_int fun σ H Q h => h _ H (fun _ _ e => e) (.int i)
theorem pd_bl {b : Bool} {j} : PE X (.Constant (.bool b) j pos) (tD (.bl b)) := pd_of pe_bl fun σ H Q h => h _ H (fun _ _ e => e) (.bl b)
theorem pd_non {j} : PE X (.Constant .none j pos) (tD .non) := pd_of pe_non fun σ H Q h => h _ H (fun _ _ e => e) .non
theorem pd_str {x : PySem.Str} {j} : PE X (.Constant (.str x) j pos) (tD (.str x)) := pd_of pe_str fun σ H Q h => h _ H (fun _ _ e => e) (.str x)
theorem pd_neg {i : Int} {j} {p1 : Pos} : PE X (.UnaryOp .USub (.Constant (.int i) j p1) pos) (tD (.int (-i))) := pd_of (pe_un un_neg pe_int) fun σ H Q h => ⟨i, rfl, h _ H (fun _ _ e => e) (.int _)⟩
theorem pd_dic : PE X (.Dict [] [] pos) (tD .dic) := pd_of pe_dnewK fun σ H Q h p hp => h _ _ (same_new hp) (.dic upd_same fun z => z hp)
theorem pd_pow {i k : Int} {j1 j2} {p1 p2 : Pos} (h : 0 ≤ k ∧ k ≤ 1000000) (h2 : i.natAbs < 2 ^ 64) : PE X (.BinOp (.Constant (.int i) j1 p1) .Pow (.Constant (.int k) j2 p2) pos) (tD (.int (i ^ k.toNat))) := pd_of (pe_op op_pow pe_int pe_int) fun σ H Q q => ⟨i, k, rfl, rfl, ⟨h.1, h.2, h2⟩, q _ H (fun _ _ e => e) (.int _)⟩
theorem pds_nil : PA X [] (tDs []) := ⟨fun p pins s σ H Q I h => pa_nil.run p pins s σ H Q I (h _ H (fun _ _ e => e) .nil)⟩
theorem pds_cons (ha : PE X e (tD d)) (hr : PA X es (tDs ds)) (hs : starEach (e :: es) X.env = (false, eval e X.env) :: starEach es X.env := by rfl) : PA X (e :: es) (tDs (d :: ds)) :=
  ⟨fun p pins s σ H Q I h => (pa_cons ha hr hs).run p pins s σ H Q I fun v H1 s1 i1 vs H2 s2 i2 => h _ H2 (fun b o e => s2 _ _ (s1 _ _ e)) (.cons (i1.same s2) (i2.weak (old_same s1)))⟩
theorem pd_tup {x1} (h : PA X es (tDs ds)) (hl : ds.length ≤ 1000) : PE X (.Tuple es x1 pos) (tD (.tup ds)) := pd_of (pe_tup h) fun σ H Q q vs H1 s1 i1 =>
  ⟨by rw [i1.len]; exact Nat.le_trans hl (by decide), fun p hp => q _ _ (fun b o e => same_new hp _ _ (s1 _ _ e)) (.tup upd_same (new_old s1 hp) (i1.same (same_new hp)))⟩
theorem pd_lst (h : PA X es (tDs ds)) (hl : ds.length ≤ 1000) : PE X (.List es pos) (tD (.lst ds)) := pd_of (pe_lst h) fun σ H Q q vs H1 s1 i1 =>
  ⟨by rw [i1.len]; exact Nat.le_trans hl (by decide), fun p hp => q _ _ (fun b o e => same_new hp _ _ (s1 _ _ e)) (.lst upd_same (new_old s1 hp) (i1.same (same_new hp)))⟩
theorem pd_rep {e2 : Expr} {k : Nat} {d : D} (h : PE X e (tD (.tup [d]))) (h2 : PE X e2 (tC (.int (k : Int)))) (h0 : 2 ≤ k) (h1 : k ≤ 1000) : PE X (.BinOp e .Mult e2 pos) (tD (.tup (List.replicate k d))) := pd_of (pe_op op_repT h h2) fun σ H Q q v H1 s1 i1 => by
  cases i1 with
  | tup e n i =>
    cases i with
    | @cons v vs d ds i t =>
      cases t
      refine ⟨_, _, _, rfl, rfl, sqT_of e, by simp, by omega, by omega, by simp, fun p hp => q _ _ (fun b o e => same_new hp _ _ (s1 _ _ e)) (.tup upd_same (new_old s1 hp) ?_)⟩
      rw [Int.toNat_natCast, show (List.replicate k [v]).flatten = List.replicate k v by simp]
      exact IsAll.rep (i.same (same_new hp)) k
end
theorem v_D {d : D} {σ : L2.St} {H : Hp} {Q : VK} (h : ∀ v H', Same H H' → Is (Old H) H' v d → Q v H') : tD d σ H Q := h

/-! ### the same as the library's data -/
mutual
def D.toP : D → PyData
  | .non => .none
  | .bl b => .bool b
  | .int i => .int i
  | .str s => .str s
  | .lst ds => .list (D.toPs ds)
  | .tup ds => .tuple (D.toPs ds)
  | .dic => .dict []
def D.toPs : List D → List PyData
  | [] => []
  | d :: ds => d.toP :: D.toPs ds
end
mutual
def D.nod : D → Bool
  | .lst ds => D.nods ds
  | .tup ds => D.nods ds
  | .dic => false
  | _ => true
def D.nods : List D → Bool
  | [] => true
  | d :: ds => d.nod && D.nods ds
end
section
variable {K : PySem.W.Frag} {M : Addr → Prop} {H : Hp}
mutual
theorem Is.dp : ∀ (d : D) (v : V), d.nod = true → Is M H v d → Dp K H v d.toP
  | .non, _, _, h => by cases h; exact .non
  | .bl _, _, _, h => by cases h; exact .bl _
  | .int _, _, _, h => by cases h; exact .int _
  | .str _, _, _, h => by cases h; exact .str _
  | .lst ds, _, g, h => by
    cases h with
    | lst e n h => exact .lst (sqL_of e) (IsAll.dp ds _ (by simpa only [D.nod] using g) h)
  | .tup ds, _, g, h => by
    cases h with
    | tup e n h => exact .tup (sqT_of e) (IsAll.dp ds _ (by simpa only [D.nod] using g) h)
  | .dic, _, g, _ => by simp [D.nod] at g
theorem IsAll.dp : ∀ (ds : List D) (vs : List V), D.nods ds = true → IsAll M H vs ds → DpAll K H vs (D.toPs ds)
  | [], _, _, h => by cases h; exact .nil
  | d :: ds, _, g, h => by
    simp only [D.nods, Bool.and_eq_true] at g
    cases h with
    | cons h t => exact .cons (Is.dp d _ g.1 h) (IsAll.dp ds _ g.2 t)
end
end
theorem toPs_len : ∀ ds : List D, (D.toPs ds).length = ds.length
  | [] => rfl
  | d :: ds => by simp only [D.toPs, List.length_cons, toPs_len ds]
theorem toPs_mem : ∀ {ds : List D} {x : PyData}, x ∈ D.toPs ds → ∃ d, d ∈ ds ∧ x = d.toP
  | d :: ds, x, h => by
    simp only [D.toPs, List.mem_cons] at h
    rcases h with h | h
    · exact ⟨d, List.mem_cons_self, h⟩
    · obtain ⟨e, m, r⟩ := toPs_mem h
      exact ⟨e, List.mem_cons_of_mem _ m, r⟩
theorem nods_all : ∀ {ds : List D}, (∀ d ∈ ds, d.nod = true) → D.nods ds = true
  | [], _ => by simp [D.nods]
  | d :: ds, h => by
    simp only [D.nods, Bool.and_eq_true]
    exact ⟨h d List.mem_cons_self, nods_all fun x hx => h x (List.mem_cons_of_mem _ hx)⟩
/-- a number, a truth, a text of few signs, or a list of truths -/
def Cell (d : D) : Prop := (∃ i : Int, d = .int i ∧ i.natAbs < 2 ^ 1920) ∨ ∃ bs : List Bool, d = .lst (bs.map D.bl) ∧ bs.length ≤ 8
theorem Cell.nod {d : D} (h : Cell d) : d.nod = true := by
  rcases h with ⟨i, rfl, _⟩ | ⟨bs, rfl, _⟩
  · rfl
  · simp only [D.nod]
    exact nods_all fun d hd => by obtain ⟨b, _, rfl⟩ := List.mem_map.mp hd; rfl
theorem Cell.mix {d : D} (h : Cell d) : shb d.toP = true ∧ nsz d.toP ≤ 200 ∧ d.toP.depth ≤ 1 := by
  rcases h with ⟨i, rfl, hi⟩ | ⟨bs, rfl, hb⟩
  · have := leaf_int hi
    exact ⟨this.1, Nat.le_trans this.2.1 (by decide), by rw [show (D.int i).toP = .int i from rfl, this.2.2]; decide⟩
  · have lf : ∀ x ∈ D.toPs (bs.map D.bl), Leaf x := fun x hx => by
      obtain ⟨d, hd, rfl⟩ := toPs_mem hx
      obtain ⟨b, _, rfl⟩ := List.mem_map.mp hd
      exact leaf_bool b
    have a := nszs_all (n := 20) fun x hx => (lf x hx).2.1
    have b := depth_all (n := 0) fun x hx => Nat.le_of_eq (lf x hx).2.2
    rw [toPs_len, List.length_map] at a
    simp only [D.toP]
    exact ⟨by simpa only [shb] using shbs_all fun x hx => (lf x hx).1, by simp only [nsz]; omega, by simp only [PyData.depth]; omega⟩
theorem shw_cells {ds : List D} (h : ∀ d ∈ ds, Cell d) (hl : ds.length ≤ 39) : Shw (.list (D.toPs ds)) := by
  have m : ∀ x ∈ D.toPs ds, shb x = true ∧ nsz x ≤ 200 ∧ x.depth ≤ 1 := fun x hx => by
    obtain ⟨d, hd, rfl⟩ := toPs_mem hx
    exact (h d hd).mix
  have a := nszs_all (n := 200) fun x hx => (m x hx).2.1
  have b := depth_all (n := 1) fun x hx => (m x hx).2.2
  rw [toPs_len] at a
  exact ⟨by simpa only [shb] using shbs_all fun x hx => (m x hx).1, by simp only [nsz]; omega, by simp only [PyData.depth]; omega⟩
/-! ### how great it is: the longest text or row, how deep -/
mutual
def D.mx : D → Nat
  | .str s => s.length
  | .lst ds => max ds.length (D.mxs ds)
  | .tup ds => max ds.length (D.mxs ds)
  | _ => 0
def D.mxs : List D → Nat
  | [] => 0
  | d :: ds => max d.mx (D.mxs ds)
end
mutual
def D.dep : D → Nat
  | .lst ds => D.deps ds + 1
  | .tup ds => D.deps ds + 1
  | _ => 0
def D.deps : List D → Nat
  | [] => 0
  | d :: ds => max d.dep (D.deps ds)
end
end Vc
namespace Vc
open PySem PySem.Spec PyProof.Rows L2
/-! ### two lists that grow side by side, and the drawn numbers' list W -/
def M3 (T U W : Addr) (b : Addr) : Prop := b = T ∨ b = U ∨ b = W
def Apt (T U W : Addr) : Prop := T ≠ U ∧ T ≠ W ∧ U ≠ W
structure TDx (T U W : Addr) (tv uv : List V) (ds es : List D) (H : Hp) : Prop where
  t : H T = some (.lst tv)
  u : H U = some (.lst uv)
  w : Wl [] H W
  ap : Apt T U W
  ti : IsAll (M3 T U W) H tv ds
  ui : IsAll (M3 T U W) H uv es
section
variable {T U W : Addr} {tv uv : List V} {ds es : List D} {H H' : Hp}
theorem fr_T {o : HO} : Fr (M3 T U W) H (upd H T o) := fun b u n e => by rw [upd_ne fun z => n (.inl z)]; exact e
theorem fr_U {o : HO} : Fr (M3 T U W) H (upd H U o) := fun b u n e => by rw [upd_ne fun z => n (.inr (.inl z))]; exact e
theorem fr_W (s : Sx W H H') : Fr (M3 T U W) H H' := fun b u n e => s b u (fun z => n (.inr (.inr z))) e
theorem fr_S {M : Addr → Prop} (s : Same H H') : Fr M H H' := fun b u _ e => s b u e
theorem TDx.same (h : TDx T U W tv uv ds es H) (s : Same H H') : TDx T U W tv uv ds es H' := ⟨s _ _ h.t, s _ _ h.u, h.w.of s, h.ap, h.ti.fr (fr_S s), h.ui.fr (fr_S s)⟩
theorem TDx.sx (h : TDx T U W tv uv ds es H) (s : Sx W H H') (w : Wl [] H' W) : TDx T U W tv uv ds es H' := ⟨s _ _ h.ap.2.1 h.t, s _ _ h.ap.2.2 h.u, w, h.ap, h.ti.fr (fr_W s), h.ui.fr (fr_W s)⟩
theorem TDx.addT {v : V} {d : D} (h : TDx T U W tv uv ds es H) (i : Is (M3 T U W) H v d) : TDx T U W (tv ++ [v]) uv (ds ++ [d]) es (upd H T (.lst (tv ++ [v]))) :=
  ⟨upd_same, by rw [upd_ne h.ap.1.symm]; exact h.u, by obtain ⟨a, b, c, e⟩ := h.w; exact ⟨a, b, c, by rw [upd_ne h.ap.2.1.symm]; exact e⟩, h.ap, (h.ti.app (.cons i .nil)).fr fr_T, h.ui.fr fr_T⟩
theorem TDx.addU {v : V} {d : D} (h : TDx T U W tv uv ds es H) (i : Is (M3 T U W) H v d) : TDx T U W tv (uv ++ [v]) ds (es ++ [d]) (upd H U (.lst (uv ++ [v]))) :=
  ⟨by rw [upd_ne h.ap.1]; exact h.t, upd_same, by obtain ⟨a, b, c, e⟩ := h.w; exact ⟨a, b, c, by rw [upd_ne h.ap.2.2.symm]; exact e⟩, h.ap, h.ti.fr fr_U, (h.ui.app (.cons i .nil)).fr fr_U⟩
theorem TDx.free {p : Addr} (h : TDx T U W tv uv ds es H) (e : H p = none) : ¬ M3 T U W p := by
  rintro (rfl | rfl | rfl)
  · rw [h.t] at e; cases e
  · rw [h.u] at e; cases e
  · exact h.w.ne e rfl
theorem TDx.old (h : TDx T U W tv uv ds es H) : ∀ b, M3 T U W b → Old H b := fun b m z => h.free z m
theorem TDx.old' (h : TDx T U W tv uv ds es H) (s : Sx W H H') {v : V} {d : D} (i : Is (Old H) H' v d) : Is (M3 T U W) H' v d := i.weak h.old
end
theorem old_sx {W : Addr} {H H' : Hp} (s : Sx W H H') (w : Wl [] H' W) : ∀ b, Old H b → Old H' b := fun b h => by
  unfold Old at h ⊢
  by_cases e : b = W
  · subst e
    obtain ⟨_, _, _, z⟩ := w
    rw [z]
    exact fun z => nomatch z
  · cases q : H b with
    | none => exact absurd q h
    | some o => rw [s b o e q]; exact fun z => nomatch z
theorem wl_old {W : Addr} {H : Hp} (w : Wl [] H W) : Old H W := by
  obtain ⟨_, _, _, z⟩ := w
  unfold Old
  rw [z]
  exact fun z => nomatch z
theorem Is.sx {W : Addr} {H H1 H2 : Hp} {v : V} {d : D} (h : Is (Old H) H1 v d) (w : Wl [] H W) (s : Sx W H1 H2) : Is (Old H) H2 v d := h.fr fun b o n e => s b o (fun z => n (z ▸ wl_old w)) e
theorem all_of {α : Type} {P : α → Prop} [DecidablePred P] {xs : List α} (h : (xs.all fun x => decide (P x)) = true) (x : α) (hx : x ∈ xs) : P x := of_decide_eq_true (List.all_eq_true.mp h x hx)
end Vc
namespace Vc
open PySem PySem.Spec PyProof.Rows L2
theorem a_rep {l : Addr} {v : V} {H : Hp} {Q : VK} {k : Nat} (h : H l = some (.lst [v])) (hk : k ≤ 1000) (q : ∀ (p : Addr) (H' : Hp), H p = none → Same H H' → H' p = some (.lst (List.replicate k v)) → Q (.ref p) H') : rRep (.ref l) (.int (k : Int)) H Q := by
  refine ⟨l, k, [v], rfl, rfl, h, by omega, by omega, by rw [Int.toNat_natCast]; simp; exact Nat.le_trans hk (by decide), fun p hp => ?_⟩
  have := q p _ hp (same_new hp) upd_same
  rw [Int.toNat_natCast, show (List.replicate k [v]).flatten = List.replicate k v by simp]
  exact this
end Vc
namespace Vc
open PySem PySem.Spec PyProof.Rows L2
/-! ### a lambda of one parameter a, handed to a def as its second argument -/
structure Lam1 (sc scope : Scope) (a : Str) : Prop where
  kind : scope.kind = .function
  co : scope.isCoroutine = false
  gen : scope.isGenerator = false
  own : ∀ y ∈ scope.names, y.2 ≠ .cell ∧ (y.2 = .local → y.1 = a)
  par : scope.names.lookup a = some .local
  free : ∀ y ∈ scope.names, y.2 = .free → sc.names.lookup y.1 = some .cell ∨ sc.names.lookup y.1 = some .free
def lam1B (sc scope : Scope) (a : Str) : Bool :=
  decide (scope.kind = .function) && !scope.isCoroutine && !scope.isGenerator && (decide (scope.names.lookup a = some .local)) && scope.names.all fun y => !decide (y.2 = .cell) && (!decide (y.2 = .local) || decide (y.1 = a)) && (!decide (y.2 = .free) || decide (sc.names.lookup y.1 = some .cell) || decide (sc.names.lookup y.1 = some .free))
theorem lam1_by {sc scope : Scope} {a : Str} (h : lam1B sc scope a = true) : Lam1 sc scope a := by
  unfold lam1B at h
  simp only [Bool.and_eq_true, Bool.or_eq_true, Bool.not_eq_true', decide_eq_true_eq, decide_eq_false_iff_not, List.all_eq_true] at h
  obtain ⟨⟨⟨⟨h1, h2⟩, h3⟩, h5⟩, h4⟩ := h
  refine ⟨h1, h2, h3, fun y hy => ⟨(h4 y hy).1.1, fun e => ?_⟩, h5, fun y hy e => ?_⟩
  · rcases (h4 y hy).1.2 with z | z
    · exact absurd e z
    · exact z
  · rcases (h4 y hy).2 with (z | z) | z
    · exact absurd e z
    · exact .inl z
    · exact .inr z
theorem Lam1.has {X : Cx} {scope : Scope} {a : Str} (L : Lam1 X.env.scope scope a) (ok : X.Ok) : ∀ y ∈ scope.names, y.2 = .free → ∃ c, X.env.cells.lookup y.1 = some c := fun y hy e => by
  rcases L.free y hy e with k | k
  · exact ok.has _ (.inl k)
  · exact ok.has _ (.inr k)
def lamCx1 (X : Cx) (a : Str) (A : Around) (outer : List Env) (s : Shared) (H : Hp) (scope : Scope) (f c' : Addr) : Cx where
  prog := X.prog
  w := X.w
  K := X.K
  mg := X.mg
  base := X.base
  A := A.deeper (LamX.lamEnv X scope s.heap.objs.size f c')
  N := X.N ++ [a]
  s_0 := s
  H_0 := H
  env := LamX.lamEnv X scope s.heap.objs.size f c'
  outer := outer
  stack := LamX.lamEnv X scope s.heap.objs.size f c' :: outer
  ex := []
  fn := fun _ => false
  calm := true
  pn := []
  xe := fun _ _ => False
section
variable {X : Cx} {pins : List (Addr × Obj)} {σ : L2.St} {H HZ : Hp} {s s1 : Shared}
theorem lam_start1 {A : Around} {outer : List Env} {scope : Scope} {f c' : Addr} {h₁ : Heap} {tk : Nat} {a : Str} {v : V} {u : Value} (I : Inv X pins σ H s) (L : Lam1 X.env.scope scope a) (hna : a ∉ X.N) (e0 : Env0 X.prog X.w X.K X.mg X.base A outer s1 HZ) (hd : A.handled = none)
    (un : Un (frs X.stack) [] H HZ s.heap s1.heap) (rv : RelV v u) (hns : h₁.Ns s1.heap.objs.size fun y => ([(a, u)] : List (Str × Value)).reverse.lookup y) (kp : ∀ b o, s1.heap.get? b = some o → h₁.get? b = some o) :
    Inv (lamCx1 X a A outer s1 HZ scope f c') [] (σ ++ [some v]) HZ { s1 with heap := h₁, toks := tk } := by
  have hfree := L.has I.ok
  have cm : ∀ {y c}, (cloFrom X.env.cells scope.names []).lookup y = some c → X.env.cells.lookup y = some c := fun {y c} e => by
    rcases cloFrom_mem (PySem.mem_of_lookup e) with hm | ⟨h1, h2⟩
    · cases hm
    · obtain ⟨c1, hc⟩ := hfree _ h1 rfl
      have hc : X.env.cells.lookup y = some c1 := hc
      have e2 : c = c1 := by
        rw [h2, hc] <;> rfl
      rw [e2]
      exact hc
  have look : ∀ {y}, scope.names.lookup y = some .free → ∃ c, (cloFrom X.env.cells scope.names []).lookup y = some c := fun {y} hl => by
    have hy : (y, NameKind.free) ∈ scope.names := PySem.mem_of_lookup hl
    exact mem_lookup (cloFrom_has (cells := X.env.cells) (acc := []) hy)
  have cellK : ∀ {c : Addr} {v : Option Value}, H c = none → s.heap.IsCell c v → h₁.IsCell c v := fun {c v} n ⟨o, ho, hd⟩ => by
    obtain ⟨sl, q⟩ := un.any ho n (by simp)
    exact ⟨_, kp _ _ q, hd⟩
  have noA : ∀ b : Addr, b ∉ (lamCx1 X a A outer s1 HZ scope f c').ex := fun b z => absurd (show b ∈ ([] : List Addr) from z) (by simp)
  refine ⟨⟨e0.mod, L.kind, rfl, rfl, Nat.le_refl _, fun y z c e1 e2 => I.ok.inj y z c (cm e1) (cm e2), fun y hy => ?_, fun y c z _ => ?_, fun _ => hd, Around.frames_deeper e0.frames, .inr ⟨rfl, rfl⟩, fun b z => absurd z (noA b), e0.bs, e0.bsz, fun b _ _ => noA b,
      fun b z => absurd z (noA b), e0.funs, e0.frf⟩,
    rfl, e0.bare, Un.kept kp, ⟨_, hns, fun i y v e1 e2 e3 => ?_⟩, fun y c e => ?_, e0.hok.fresh (Nat.le_refl _), fun y c e => ?_, fun q hq => absurd (show q ∈ ([] : List (Addr × Obj)) ++ [] from hq) (by simp), e0.hok.kept kp, ?_⟩
  · have hy : scope.names.lookup y = some .cell ∨ scope.names.lookup y = some .free := hy
    rcases hy with hy | hy
    · exact absurd rfl (L.own _ (PySem.mem_of_lookup hy)).1
    · exact look hy
  · have z : false = true := z
    cases z
  · have e1 : (X.N ++ [a])[i]? = some y := e1
    have e3 : Vis scope y := e3
    rcases Nat.lt_or_ge i X.N.length with hi | hi
    · rw [List.getElem?_append_left hi] at e1
      rw [List.getElem?_append_left (by rw [I.len]; exact hi)] at e2
      have ya : y ≠ a := fun z => hna (z ▸ List.mem_of_getElem? e1)
      rcases e3 with k | k | k
      · exact absurd ((L.own _ (PySem.mem_of_lookup k)).2 rfl) ya
      · exact absurd rfl (L.own _ (PySem.mem_of_lookup k)).1
      · obtain ⟨m, hn, hl⟩ := I.loc
        have hvis : Vis X.env.scope y := (L.free _ (PySem.mem_of_lookup k) rfl).elim (fun k => .inr (.inl k)) (fun k => .inr (.inr k))
        obtain ⟨w', r, q⟩ := hl i y v e1 e2 hvis
        obtain ⟨c2, h2⟩ := look k
        refine ⟨w', r, .inr ⟨.inr k, c2, h2, ?_⟩⟩
        have c1 := cm h2
        rcases q with ⟨k', _⟩ | ⟨_, c3, e', z⟩
        · have k' : X.env.scope.names.lookup y = some .local := k'
          rcases L.free _ (PySem.mem_of_lookup k) rfl with k2 | k2 <;> rw [show X.env.scope.names.lookup y = _ from k2] at k' <;> cases k'
        · rw [c1] at e'
          cases e'
          exact cellK (I.freeC y _ c1) z
    · rw [List.getElem?_append_right hi] at e1
      rw [List.getElem?_append_right (by rw [I.len]; exact hi), I.len] at e2
      have h0 : i - X.N.length = 0 := by
        rcases Nat.eq_zero_or_pos (i - X.N.length) with z | z
        · exact z
        · rw [List.getElem?_eq_none (by simp; omega)] at e1
          cases e1
      rw [h0] at e1 e2
      cases e1
      cases e2
      exact ⟨u, rv, .inl ⟨L.par, by simp⟩⟩
  · obtain ⟨w', z⟩ := I.cell y c (cm e)
    exact ⟨w', cellK (I.freeC y c (cm e)) z⟩
  · obtain ⟨v, o, ho, hd⟩ := I.cell y c (cm e)
    exact un.free c o ho (I.freeC y c (cm e)) (by simp)
  · show (σ ++ [some v]).length = (X.N ++ [a]).length
    rw [List.length_append, List.length_append, I.len]
    rfl
/-- x(e), in the def that got the lambda: Z is that def's context, entered at s -/
theorem pe_act1 {Ng : List Str} {qg : Str} {sg : Scope} {g f c' : Addr} {cdg pm ctv : Value} {params : Arguments} {body : Expr} {scope : Scope} {k i : Nat} {a b : Str} {tb te : TE} {e : Expr} {p1 p2 : Pos}
    (I : Inv X pins σ H s) (L : Lam1 X.env.scope scope a) (hna : a ∉ X.N) (hf : s.heap.get? f = some (PySem.W.kla_obj "<lambda>" (X.env.qual ++ "<lambda>") params body scope (cloFrom X.env.cells scope.names []) pm c' ctv)) (hfn : H f = none) (hfr : f ∉ frs X.stack)
    (hbind : ∀ u, bindArgs (PySem.W.kla_fn "<lambda>" (X.env.qual ++ "<lambda>") params body scope (cloFrom X.env.cells scope.names []) pm (.ref c') ctv) ⟨[u], []⟩ = pure [(a, u)])
    (hgd : X.A.guards = some []) (hr : Room (k + 1) (X.A.deeper (envOfC qg sg s.heap.objs.size g cdg)))
    (hbody : ∀ (A : Around) (outer : List Env) (s : Shared) (H : Hp), (A.deeper (LamX.lamEnv X scope s.heap.objs.size f c')).guards = some [] → Room k (A.deeper (LamX.lamEnv X scope s.heap.objs.size f c')) → PE (lamCx1 X a A outer s H scope f c') body tb)
    (hN : Ng[i]? = some b) (hv : Vis sg b) (he : PE (cxOf CX0 X.prog X.w X.K X.mg X.base Ng qg sg g cdg X.A X.stack s H E0).nox e te) (hd : (b == ("__debug__" : Str)) = false := by decide) (hcd : (b == ("__classdict__" : Str)) = false := by decide)
    (hse : starEach [e] (envOfC qg sg s.heap.objs.size g cdg) = [(false, eval e (envOfC qg sg s.heap.objs.size g cdg))] := by rfl) :
    PE (cxOf CX0 X.prog X.w X.K X.mg X.base Ng qg sg g cdg X.A X.stack s H E0).nox (.Call (.Name b p1) [e] [] p2)
      (fun σZ HZ Q => σZ[i]? = some (some (.ref f)) ∧ te σZ HZ fun v H1 => H1 c' = some (LamX.CodeO c' (X.env.qual ++ "<lambda>")) ∧ tb (σ ++ [some v]) H1 Q) := by
  refine ⟨fun pinsZ sZ σZ HZ Q IZ h => ?_⟩
  obtain ⟨hs, ht⟩ := h
  refine wpAny_Call_Name_kw (thn ((pe_var (pos := p1) (i := i) hN hv hd hcd).run pinsZ sZ σZ HZ (fun v H1 => v = .ref f ∧ H1 = HZ) IZ ⟨.ref f, hs, rfl, rfl⟩) fun u s1 ⟨v, H1, I1, r1, q1⟩ => ?_)
  obtain ⟨ev, eH⟩ := q1
  subst ev
  rw [eH] at I1
  obtain rfl : u = Value.ref f := r1
  have at_ : ∀ {p : List (Addr × Obj)} {σ : L2.St} {H' : Hp} {s' : Shared}, Inv (cxOf CX0 X.prog X.w X.K X.mg X.base Ng qg sg g cdg X.A X.stack s H E0).nox p σ H' s' → s'.heap.get? f = some (PySem.W.kla_obj "<lambda>" (X.env.qual ++ "<lambda>") params body scope (cloFrom X.env.cells scope.names []) pm c' ctv) :=
    fun J => J.base.keep f _ hf hfn hfr (fun z => nomatch (show f ∈ ([] : List Addr) from z))
  refine PySem.W.callWith_F ⟨_, _, _, _, at_ I1⟩ (thn ((pa_cons he pa_nil hse).run p2 pinsZ s1 σZ HZ (fun vs H1 => match vs with | [v] => H1 c' = some (LamX.CodeO c' (X.env.qual ++ "<lambda>")) ∧ tb (σ ++ [some v]) H1 Q | _ => False) I1 ht) fun us s2 hh => ?_) hse rfl
  obtain ⟨vs, H2, I2, r2, q2⟩ := hh
  obtain ⟨v, u, rfl, rfl, ru, hc, hb⟩ : ∃ v u, vs = [v] ∧ us = [u] ∧ RelV v u ∧ H2 c' = some (LamX.CodeO c' (X.env.qual ++ "<lambda>")) ∧ tb (σ ++ [some v]) H2 Q := by
    cases r2 with
    | nil => exact q2.elim
    | cons a r =>
      cases r with
      | nil => exact ⟨_, _, rfl, rfl, a, q2.1, q2.2⟩
      | cons _ _ => exact q2.elim
  refine ⟨⟨_, _, _, _, at_ I2⟩, ?_⟩
  have un : Un (frs X.stack) [] H H2 s.heap s2.heap := I2.base
  obtain ⟨⟨oc, vs, t, hoc, hdc, hvc⟩, _, _⟩ := I2.hok c' _ hc
  have rc : codeAny (model X.prog X.w) (X.A.deeper (envOfC qg sg s.heap.objs.size g cdg)) (.call (.ref f) ⟨[u], []⟩) (CR CX0 (envOfC qg sg s.heap.objs.size g cdg :: X.stack) X.prog X.w H2 s2 Q E0) s2 := by
    refine PySem.W.kla_callFunE hr.depth (at_ I2) rfl L.co L.gen rfl ⟨c', oc, vs, t, rfl, hoc, hdc, hvc⟩ ?_
    rw [hbind]
    refine wpAny_pure (wpAny_newFunctionEnv (fun y hy => (L.own y hy).1) (fun y hy => by rw [List.mem_singleton.mp hy]; exact L.par) (fun h₁ hns hsb => ⟨I2.nolimit.fresh _ hsb, ?_⟩) L.kind)
    show codeAny _ _ (.expr body (LamX.lamEnv X scope s2.heap.objs.size f c')) _ _
    have kp : ∀ b o, s2.heap.get? b = some o → h₁.get? b = some o := fun b o e => hsb.extBut b o (Nat.ne_of_lt (Heap.lt_size e)) (Heap.get?_push_of_some _ e)
    have J := lam_start1 (A := X.A.deeper (envOfC qg sg s.heap.objs.size g cdg)) (outer := envOfC qg sg s.heap.objs.size g cdg :: X.stack) (f := f) (c' := c') (tk := s2.toks + ([(a, u)] : List (Str × Value)).length) I L hna I2.env0 hr.hd un ru hns kp
    refine PySem.W.kla_codeExpr (wpAny_mono ((hbody (X.A.deeper (envOfC qg sg s.heap.objs.size g cdg)) _ s2 H2 hgd (hr.deeper _)).run [] _ _ H2 Q J hb) (fun v s' hq => ?_) fun e s' hq => (show False from hq).elim)
    obtain ⟨w', H', J', rv, q⟩ := hq
    exact ⟨w', H', J'.os, J'.bare, J'.base, J'.hok, rv, q⟩
  refine wpAny_call (codeAny_mono rc fun r s' hq => ?_)
  cases r with
  | error e => exact (show False from hq).elim
  | ok fl =>
    cases fl with
    | ret u => exact I2.after hq
    | next => exact False.elim hq
    | brk => exact False.elim hq
    | cont => exact False.elim hq
end
/-- what the def that got it makes of the lambda's reading -/
def Gives2 (P : Program) (w : World) (K : PySem.W.Frag) (mg : Str → Option Value) (base : Heap) (A : Around) (stk : List Env) (Ng : List Str) (x : Str) (sg : Scope) (g : Addr) (cdg : Value) (bg : List Stmt) (b : Str) (q : Str) (TT : (V → Hp → VK → Prop) → V → Hp → VK → Prop) : Prop :=
  ∀ (f c' : Addr) (s : Shared) (H : Hp) (v0 : V) (Q : VK) (tl : V → Hp → VK → Prop),
    (∀ (e : Expr) (te : TE) (p1 p2 : Pos), PE (cxOf CX0 P w K mg base Ng x sg g cdg A stk s H E0).nox e te → starEach [e] (envOfC x sg s.heap.objs.size g cdg) = [(false, eval e (envOfC x sg s.heap.objs.size g cdg))] →
      PE (cxOf CX0 P w K mg base Ng x sg g cdg A stk s H E0).nox (.Call (.Name b p1) [e] [] p2) (fun σZ HZ Q => σZ[1]? = some (some (.ref f)) ∧ te σZ HZ fun v H1 => H1 c' = some (LamX.CodeO c' q) ∧ tl v H1 Q)) →
    H c' = some (LamX.CodeO c' q) → TT tl v0 H Q →
    ∃ t, PSs (cxOf CX0 P w K mg base Ng x sg g cdg A stk s H E0).nox bg t ∧ t { nx := fun _ H' => Q .non H', rt := Q } (L2.start Ng [v0, .ref f]) H
def tLam2 (T : List (Addr × Str)) (TT : (V → Hp → VK → Prop) → V → Hp → VK → Prop) (te tb : TE) : TE := fun σ H Q =>
  te σ H fun v0 H1 => LamX.Tabs T H1 ∧ ∀ H2, LamX.ExtN H1 H2 → LamX.Tabs T H2 → TT (fun v H' Q' => tb (σ ++ [some v]) H' Q') v0 H2 Q
section
variable {X : Cx}
theorem pe_lamcall2 {T : List (Addr × Str)} {TT : (V → Hp → VK → Prop) → V → Hp → VK → Prop} {x a b : Str} {x0 : Str} {g c P : Addr} {k : Nat} {st : Stmt} {fd : FuncData} {Ng : List Str}
    {params : Arguments} {body e0 : Expr} {scope : Scope} {te tb : TE} {p lpos pos : Pos} (hg : Gl X x) (hm : X.mg x = some (.ref g)) (F : Fun X.K x x st g fd) (hb : L2.Binds X.K fd [x0, b] []) (Sg : FnScope Ng [x0, b] (defScope st)) (hNg : Ng[1]? = some b) (hva : Vis (defScope st) b)
    (hG : ∀ cdv, Gives2 X.prog X.w X.K X.mg X.base X.A X.stack Ng x (defScope st) g cdv (defBody st) b (X.env.qual ++ "<lambda>") TT)
    (TB : LamX.TabB X.base X.mg c P) (hcode : X.env.code = .ref c) (hmT : (P, X.env.qual ++ "<lambda>") ∈ T) (hu : ∀ p ∈ T, p.1 = P → p.2 = X.env.qual ++ "<lambda>") (hgd : X.A.guards = some []) (hr : Room (k + 2) X.A) (L : Lam1 X.env.scope scope a) (hna : a ∉ X.N) (hdef : defaultsOf params X.env = ([], []))
    (hbind : ∀ (q : Str) (cl : List (Str × Addr)) (pm cv ctv u : Value), bindArgs (PySem.W.kla_fn "<lambda>" q params body scope cl pm cv ctv) ⟨[u], []⟩ = pure [(a, u)])
    (he : PE X e0 te)
    (hbody : ∀ (A : Around) (outer : List Env) (s : Shared) (H : Hp) (f c' : Addr), (A.deeper (LamX.lamEnv X scope s.heap.objs.size f c')).guards = some [] → Room k (A.deeper (LamX.lamEnv X scope s.heap.objs.size f c')) → PE (lamCx1 X a A outer s H scope f c') body tb)
    (hdb : (x == ("__debug__" : Str)) = false := by decide) (hd : (b == ("__debug__" : Str)) = false := by decide) (hcd : (b == ("__classdict__" : Str)) = false := by decide)
    (hs1 : starEach (e0 :: [.Lambda params body scope lpos]) X.env = (false, eval e0 X.env) :: starEach [.Lambda params body scope lpos] X.env := by rfl) :
    PE X (.Call (.Name x p) [e0, .Lambda params body scope lpos] [] pos) (tLam2 T TT te tb) := by
  obtain ⟨oc, od, kV, doc, pm, an, cdv, ct, osl, rfl, lk, hcg⟩ := F.ex
  refine ⟨fun pins s σ H Q I h => ?_⟩
  refine wpAny_Call_Name_kw (ld_glob I hg hm ?_ hdb)
  refine PySem.W.callWith_K (h₀ := X.base) I.ok.mod.kin F.kp ?_ hs1 (by rfl)
  rw [hs1]
  show wpAny _ _ (spliced ((false, _) :: backTo pos (starEach [.Lambda params body scope lpos] X.env))) _ _ s
  refine Calls.spliced_cons (thn (he.run pins s σ H _ I h) fun u0 s1 ⟨v0, H1, I1, r0, hT, h⟩ => ?_)
  refine Calls.spliced_cons (LamX.lam_make2 I1 TB hcode hmT hu hT hdef (L.has I.ok) fun f c' pm' ctv H2 s' I2 eN T1 hf hfn hfr hco => ?_)
  refine Calls.spliced_nil ⟨I2.kIn, ?_⟩
  have rc : codeAny (model X.prog X.w) X.A (.call (.ref g) ⟨[u0, .ref f], []⟩) (CR CX0 X.stack X.prog X.w H2 s' Q E0) s' := by
    refine LamX.run_ofS (N := Ng) (ps := [x0, b]) (us := [u0, .ref f]) (vs := [v0, .ref f]) lk hcg Sg hr I2.env0 (hb s' [u0, .ref f] I2.kIn rfl) (.cons r0 (.cons rfl .nil)) rfl fun hr' => ?_
    obtain ⟨t', ht', hq'⟩ := hG cdv f c' s' H2 v0 Q (fun v H' Q' => tb (σ ++ [some v]) H' Q') (fun e te p1 p2 he hse => pe_act1 (i := 1) I2 L hna hf hfn hfr (hbind _ _ _ _ _) hgd hr' (fun A outer s H hg2 hr2 => hbody A outer s H f c' hg2 hr2) hNg hva he hd hcd hse) hco (h H2 eN T1)
    exact ⟨t', ht'.nox, hq'⟩
  refine wpAny_call (codeAny_mono rc fun r s2 hq => ?_)
  cases r with
  | error e => exact (show False from hq).elim
  | ok fl =>
    cases fl with
    | ret u => exact I2.after hq
    | next => exact False.elim hq
    | brk => exact False.elim hq
    | cont => exact False.elim hq
end

/-! ### first_wrong, by the truths that its test tells -/
def fwV : Nat → List Bool → V
  | _, [] => .non
  | i, true :: r => fwV (i + 1) r
  | i, false :: _ => .int (i : Nat)
theorem fwV_all {i n : Nat} : fwV i (List.replicate n true) = .non := by
  induction n generalizing i with
  | zero => rfl
  | succ n ih => rw [List.replicate_succ]; exact ih
def TTfw (K : PySem.W.Frag) (tl : V → Hp → VK → Prop) (v0 : V) (H : Hp) (Q : VK) : Prop := ∃ (p : Addr) (xs : List V) (bs : List Bool), v0 = .ref p ∧ SqT K H p xs ∧ bs.length = xs.length ∧
  (∀ (i : Nat) x b H', xs[i]? = some x → bs[i]? = some b → Same H H' → ∀ Q' : VK, (∀ H'', Same H' H'' → Q' (.bl b) H'') → tl x H' Q') ∧ ∀ H', Same H H' → Q (fwV 0 bs) H'
theorem fw_step {bs : List Bool} {i : Nat} {b : Bool} (h : bs[i]? = some b) : fwV i (bs.drop i) = if b then fwV (i + 1) (bs.drop (i + 1)) else .int (i : Nat) := by
  have hi : i < bs.length := (List.getElem?_eq_some_iff.mp h).1
  rw [List.drop_eq_getElem_cons hi, show bs[i] = b from (List.getElem?_eq_some_iff.mp h).2]
  cases b <;> rfl
theorem v_lam {T : List (Addr × Str)} {TT : (V → Hp → VK → Prop) → V → Hp → VK → Prop} {te tb : TE} {σ : L2.St} {H : Hp} {Q : VK} (h : te σ H fun v0 H1 => LamX.Tabs T H1 ∧ ∀ H2, LamX.ExtN H1 H2 → LamX.Tabs T H2 → TT (fun v H' Q' => tb (σ ++ [some v]) H' Q') v0 H2 Q) : tLam2 T TT te tb σ H Q := h
end Vc
namespace Vc
open PySem PySem.Spec PyProof.Rows L2
/-! ### defs that make code: their code objects and tables -/
abbrev Cds := List (Addr × Addr × Str)
def Tb (cs : Cds) (H : Hp) : Prop := ∀ p ∈ cs, LamX.TabS H p.2.1 p.2.2
/-- all but the tables stays, and they go on telling their own code -/
def Ex (cs : Cds) (H H' : Hp) : Prop := LamX.ExtN H H' ∧ (Tb cs H → Tb cs H')
theorem Ex.refl {cs : Cds} {H : Hp} : Ex cs H H := ⟨fun _ _ e _ => e, fun t => t⟩
theorem Ex.trans {cs : Cds} {H H1 H2 : Hp} (a : Ex cs H H1) (b : Ex cs H1 H2) : Ex cs H H2 := ⟨fun c o e n => b.1 c o (a.1 c o e n) n, fun t => b.2 (a.2 t)⟩
theorem Tb.same {cs : Cds} {H H' : Hp} (t : Tb cs H) (s : Same H H') : Tb cs H' := fun p hp => (t p hp).ext s
theorem Ex.of {cs : Cds} {H H' : Hp} (s : Same H H') : Ex cs H H' := ⟨fun c o e _ => s c o e, fun t => t.same s⟩
theorem Ex.tup {cs : Cds} {H H' : Hp} {p : Addr} {xs : List V} (x : Ex cs H H') (h : H p = some (.tup xs)) : H' p = some (.tup xs) := x.1 _ _ h fun _ z => nomatch z
theorem Ex.lst {cs : Cds} {H H' : Hp} {p : Addr} {xs : List V} (x : Ex cs H H') (h : H p = some (.lst xs)) : H' p = some (.lst xs) := x.1 _ _ h fun _ z => nomatch z
theorem Ex.seqT {cs : Cds} {K : PySem.W.Frag} {H H' : Hp} {p : Addr} {xs : List V} (x : Ex cs H H') (h : SqT K H p xs) : SqT K H' p xs := by
  rcases h with (h | ⟨o, h⟩) | h
  · exact .inl (.inl (x.tup h))
  · exact .inl (.inr ⟨o, x.1 _ _ h fun _ z => nomatch z⟩)
  · exact .inr h
theorem Ex.seqL {cs : Cds} {K : PySem.W.Frag} {H H' : Hp} {p : Addr} {xs : List V} (x : Ex cs H H') (h : SqL K H p xs) : SqL K H' p xs := by
  rcases h with (h | ⟨o, h⟩) | h
  · exact .inl (.inl (x.lst h))
  · exact .inl (.inr ⟨o, x.1 _ _ h fun _ z => nomatch z⟩)
  · exact .inr h
/-- all but W and the tables stays -/
def Sy (cs : Cds) (W : Addr) (H H' : Hp) : Prop := (∀ b o, b ≠ W → H b = some o → (∀ ps, o ≠ .tbl ps) → H' b = some o) ∧ (Tb cs H → Tb cs H')
theorem Sy.trans {cs : Cds} {W : Addr} {H H1 H2 : Hp} (a : Sy cs W H H1) (b : Sy cs W H1 H2) : Sy cs W H H2 := ⟨fun c o n e t => b.1 c o n (a.1 c o n e t) t, fun t => b.2 (a.2 t)⟩
theorem Sy.ex {cs : Cds} {W : Addr} {H H' : Hp} (x : Ex cs H H') : Sy cs W H H' := ⟨fun b o _ e t => x.1 b o e t, x.2⟩
/-- the drawn numbers' list is no table -/
theorem tb_sx {cs : Cds} {tl : List V} {W : Addr} {H H' : Hp} (w : Wl tl H W) (s : Sx W H H') (t : Tb cs H) : Tb cs H' := fun p hp => by
  obtain ⟨ps, h1, h2, h3⟩ := t p hp
  obtain ⟨a, b, c, eW⟩ := w
  have nW : ∀ {b : Addr} {o : HO}, H b = some o → (∀ xs, o ≠ .lst xs) → b ≠ W := fun e n z => by
    rw [z, eW] at e
    exact n _ (Option.some.inj e).symm
  refine ⟨ps, s _ _ (nW h1 fun _ z => nomatch z) h1, h2, fun pos cv hc => ?_⟩
  obtain ⟨c, e1, e2⟩ := h3 pos cv hc
  exact ⟨c, e1, s _ _ (nW e2 fun _ z => by unfold LamX.CodeO at z; cases z) e2⟩
theorem Sy.sx {cs : Cds} {tl : List V} {W : Addr} {H H' : Hp} (w : Wl tl H W) (s : Sx W H H') : Sy cs W H H' := ⟨fun b o n e _ => s b o n e, tb_sx w s⟩
theorem Wl.ex {cs : Cds} {tl : List V} {W : Addr} {H H' : Hp} (w : Wl tl H W) (x : Ex cs H H') : Wl tl H' W := by
  obtain ⟨a, b, c, e⟩ := w
  exact ⟨a, b, c, x.lst e⟩
structure FunC (K : PySem.W.Frag) (x qual : Str) (st : Stmt) (f : Addr) (fd : FuncData) (c : Addr) : Prop where
  ex : ∃ (oc : Value) (od : Option Addr) (kV doc pm : Value) (an : Option Addr) (ct : Value) (osl : Array (Option Value)),
    fd = PySem.W.fnOf x qual (defArgs st) (defBody st) (defScope st) .none kV doc pm an (.ref c) ct ∧ K.lookup f = some ⟨oc, od, .func fd, osl⟩ ∧ PySem.W.codeIn K (.ref c) qual = true
section
variable {P : Program} {w : World} {K : PySem.W.Frag} {mg : Str → Option Value} {base : Heap}
theorem func_mk {x qual : Str} {st : Stmt} {f c : Addr} {oc : Value} {od an : Option Addr} {osl : Array (Option Value)} {kV doc pm ct : Value} (l : K.lookup f = some ⟨oc, od, .func (PySem.W.fnOf x qual (defArgs st) (defBody st) (defScope st) .none kV doc pm an (.ref c) ct), osl⟩)
    (h : PySem.W.codeIn K (.ref c) qual = true) : FunC K x qual st f (PySem.W.fnOf x qual (defArgs st) (defBody st) (defScope st) .none kV doc pm an (.ref c) ct) c := ⟨oc, od, kV, doc, pm, an, ct, osl, rfl, l, h⟩
theorem okC {x qual : Str} {st : Stmt} {f c : Addr} {fd : FuncData} {N ps : List Str} {k : Nat} {sp : Sp} (F : FunC K x qual st f fd c) (S : FnScope N ps (defScope st)) (len : ∀ vs H Q E, sp vs H Q E → vs.length = ps.length)
    (hbody : ∀ (A : Around) (outer : List Env) (s : Shared) (H : Hp) (vs : List V) (Q : VK), (A.deeper (envOfC qual (defScope st) s.heap.objs.size f (.ref c))).guards = some [] → Room k (A.deeper (envOfC qual (defScope st) s.heap.objs.size f (.ref c))) → sp vs H Q E0 →
      ∃ t, PSs (cxOf CX0 P w K mg base N qual (defScope st) f (.ref c) A outer s H E0).nox (defBody st) t ∧ t { nx := fun _ H' => Q .non H', rt := Q } (start N vs) H) : FnG P w K mg base (k + 1) f fd ps sp := by
  obtain ⟨oc, od, kV, doc, pm, an, ct, osl, rfl, lk, hcd⟩ := F.ex
  refine ⟨len, fun A outer s H args us vs Q hgd hr e0 hb r hsp => ?_⟩
  have kin : K.In s.heap := e0.mod.kin.keeps fun b o e => (e0.bs b o e).1
  have lim := e0.mod.nolimit.keeps fun b o e => (e0.bs b o e).1
  refine codeAny_call_function hr.depth (kin _ _ lk) rfl S.co S.gen rfl (PySem.W.codeRec_of kin hcd) (hb _ _ _ _ ?_)
  refine wpAny_newFunctionEnv_cells S.kind (fun y hy => ?_) fun env he s1 xx => ?_
  · rcases S.par y.1 (List.of_mem_zip hy).1 with z | z
    · exact Or.inl z
    · exact Or.inr ⟨z, PySem.W.cellsFrom_some _ _ _ (Or.inl z)⟩
  · subst he
    refine ⟨lim.keeps xx.toInCall.keep, codeAny_func ?_⟩
    obtain ⟨t, ht0, hq⟩ := hbody A outer s H vs Q hgd (hr.deeper _) hsp
    have I := inv_start (CX := CX0) (E := E0) (w := w) (P := P) S hr.hd e0 (len _ _ _ _ hsp) r xx
    refine wpAny_mono (ht0.nox.run [] s1 (start N vs) H _ I hq) (fun fl s' hs => ?_) fun e s' hs => hs
    cases fl with
    | ret u => obtain ⟨v, σ', H', J, rv, q⟩ := hs; exact ⟨v, H', J.os, J.bare, J.base, J.hok, rv, q⟩
    | next => obtain ⟨σ', H', J, q⟩ := hs; exact ⟨V.non, H', J.os, J.bare, J.base, J.hok, rfl, q⟩
    | brk => obtain ⟨_, _, _, q⟩ := hs; exact q.elim
    | cont => obtain ⟨_, _, _, q⟩ := hs; exact q.elim
end
/-! ### the end of a law whose defs make code -/
section
variable {P : Program} {w : World} {K : PySem.W.Frag} {mg mb : Str → Option Value} {k : Nat} {fa a : Addr} {fd : FuncData} {x : Str} {sp : Sp} {s : Shared} {vs : List Value} {ns : List Int} {cs : Cds}
/-- the tables' places -/
abbrev tabs (cs : Cds) : List Addr := cs.map (·.2.1)
theorem fromTopT (H : Hp) (hTab : ∀ p ∈ cs, H p.2.1 = some (.tbl #[])) (hA : ∀ b o, H b = some o → b = a ∨ b ∈ tabs cs) (hK : ∀ o, H a = some o → K.lookup a = none) (hO : ∀ b o, H b = some o → (∃ ob xs, o = .frz ob (.lst xs)) ∨ b ∈ tabs cs) (hS : SqL K H a (ns.map V.int)) (hok : HOk P w H s.heap)
    (tT : ∀ p ∈ cs, s.heap.get? p.2.1 = some (PySem.W.tabObj #[])) (tK : ∀ p ∈ cs, K.lookup p.2.1 = none) (tC : ∀ p ∈ cs, PySem.W.CodeHd s.heap p.1 p.2.1)
    (tM : ∃ (bm : Addr) (ob : Obj), mg "__builtins__" = some (.ref bm) ∧ bm ≠ builtinsNs ∧ s.heap.get? bm = some ob ∧ ob.cls = .type "module" ∧ ob.dict = some builtinsNs ∧ ob.data = .plain)
    (kin : K.In s.heap) (hns : s.heap.Ns mainGlobals mg) (hb : s.heap.Ns builtinsNs mb) (hbb : ∀ y : Str, y ≠ "__name__" → mb y = bootBuiltins y) (lim : s.heap.NoLimit) (hg : s.gens = #[])
    (ha : s.heap.get? a = some { cls := .type "list", data := .seq vs.toArray }) (hi : IntsAre vs ns) (hr : Room k callerA)
    (F : ∀ base : Heap, K.In base → base.Ns mainGlobals mg → (∀ p ∈ cs, LamX.TabB base mg p.1 p.2.1) → FnG P w K mg base k fa fd [x] sp) (hbind : ∀ (s : Shared) (u : Value), BindsTo s fd ⟨[u], []⟩ [(x, u)]) (hsp : sp [.ref a] H (fun v _ => v = .bl true) E0) :
    codeAny (model P w) callerA (.call (.ref fa) ⟨[.ref a], []⟩) (fun r s' => r = .ok (.ret (.bool true)) ∧ OldK s.heap s'.heap ∧ s'.os = s.os ∧ AllBare s'.gens) s := by
  have isT : ∀ b ∈ tabs cs, s.heap.get? b = some (PySem.W.tabObj #[]) := fun b z => by
    obtain ⟨p, hp, rfl⟩ := List.mem_map.mp z
    exact tT p hp
  have isK : ∀ b ∈ tabs cs, K.lookup b = none := fun b z => by
    obtain ⟨p, hp, rfl⟩ := List.mem_map.mp z
    exact tK p hp
  -- what is neither the script nor a table is not tracked
  have free : ∀ {b : Addr} {o : Obj}, s.heap.get? b = some o → (b = a → H a = none) → b ∉ tabs cs → H b = none := fun {b o} e q n => by
    cases z : H b with
    | none => rfl
    | some u =>
      rcases hA b u z with eb | eb
      · subst eb
        rw [q rfl] at z
        cases z
      · exact absurd eb n
  have free2 : ∀ {b : Addr} {o : Obj}, s.heap.get? b = some o → (∀ us m, o.data ≠ .seq us m) → o.data ≠ .fields #[] → H b = none := fun {b o} e n1 n2 => by
    refine free e (fun eb => ?_) fun z => ?_
    · subst eb
      rw [ha] at e
      cases e
      exact absurd rfl (n1 _ _)
    · rw [isT b z] at e
      cases e
      exact absurd rfl n2
  have dict : ∀ {b : Addr} {m : Str → Option Value}, s.heap.Ns b m → (hidT s.heap H).Ns b m := fun {b m} z => by
    obtain ⟨o, es, ep, e, d, r⟩ := z
    exact ⟨o, es, ep, hidT_get e (free2 e (fun us m z => by rw [d] at z; cases z) fun z => by rw [d] at z; cases z), d, r⟩
  have kin' : K.In (hidT s.heap H) := fun b o e => hidT_get (kin b o e) (free (kin b o e) (fun eb => by
    subst eb
    cases z : H b with
    | none => rfl
    | some u =>
      rw [hK u z] at e
      cases e) fun z => by
    rw [isK b z] at e
    cases e)
  obtain ⟨mc, c1, c2⟩ := lim
  have md : Mod K mg (hidT s.heap H) := ⟨kin', dict hns, ⟨mb, dict hb, hbb⟩, mc, dict c1, c2⟩
  have TB : ∀ p ∈ cs, LamX.TabB (hidT s.heap H) mg p.1 p.2.1 := fun p hp => by
    refine ⟨?_, ?_, fun z => ?_⟩
    · obtain ⟨o, us, f1, f2, f3, f4, f5, f6, f7, e1, r1, r2, r3, r⟩ := tC p hp
      refine ⟨o, us, f1, f2, f3, f4, f5, f6, f7, hidT_get e1 (free2 e1 (fun us m z => by rw [r2] at z; cases z) fun z => ?_), r1, r2, r3, r⟩
      rw [r2] at z
      cases z
      simp at r3
    · obtain ⟨bm, ob, b1, b2, b3, b4, b5, b6⟩ := tM
      refine ⟨bm, ob, b1, b2, fun q => ?_, fun q => ?_, hidT_get b3 (free2 b3 (fun us m z => by rw [b6] at z; cases z) fun z => by rw [b6] at z; cases z), b4, b5, b6⟩
      · obtain ⟨o, es, ep, e, hd, _⟩ := hns
        rw [q, e] at b3
        cases b3
        rw [hd] at b6
        cases b6
      · rw [q, tT p hp] at b3
        cases b3
        cases b6
    · obtain ⟨o, es, ep, e, hd, _⟩ := hns
      rw [z, tT p hp] at e
      cases e
      cases hd
  have nil : ∀ b : Addr, b ∉ ([] : List Addr) := fun _ z => nomatch z
  have e0 : Env0 P w K mg (hidT s.heap H) callerA [] s H := ⟨rfl, md, fun _ _ e => of_hidT e, Nat.le_of_eq (hidT_size _ _), trivial, fun b z => (nil b z).elim, hok, .of_eq hg⟩
  have main := (F _ kin' (dict hns) TB).run callerA [] s H ⟨[.ref a], []⟩ [.ref a] [.ref a] (fun v _ => v = .bl true) rfl hr e0 (hbind s _) (.cons rfl .nil) hsp
  refine codeAny_mono main fun r s' h => ?_
  cases r with
  | error _ => exact (show False from h).elim
  | ok fl => cases fl with
    | next => exact (show False from h).elim
    | brk => exact (show False from h).elim
    | cont => exact (show False from h).elim
    | ret u =>
      obtain ⟨v, H', os, bare, un, hok', rv, q⟩ := (show CE [] P w H s (fun v _ => v = .bl true) u s' from h)
      subst q
      have eu : u = Value.bool true := rv
      subst eu
      have stays : ∀ b o, b ∉ tabs cs → s.heap.get? b = some o → s'.heap.get? b = some o := fun b o n e => by
        cases q : H b with
        | none => exact un.keep b o e q (nil b) (nil b)
        | some t =>
          rcases hO b t q with ⟨ob, xs, z⟩ | z
          · subst z
            have e1 := (hok b _ q).1
            rw [e] at e1
            cases e1
            exact (hok' b _ (un.frzs b _ _ q)).1
          · exact absurd z n
      have grows : ∀ p ∈ cs, ∃ more : Array Value, s'.heap.get? p.2.1 = some (PySem.W.tabObj more) := fun p hp => by
        obtain ⟨more, z⟩ := un.tbls p.2.1 #[] (hTab p hp)
        exact ⟨_, hok' p.2.1 _ z⟩
      refine ⟨rfl, ⟨fun b o e => ?_, fun b o e => ?_⟩, os, bare⟩
      · by_cases z : b ∈ tabs cs
        · obtain ⟨p, hp, rfl⟩ := List.mem_map.mp z
          obtain ⟨more, hm⟩ := grows p hp
          rw [tT p hp] at e
          cases e
          exact .inr (.inl ⟨((tC p hp).tab (tT p hp)).isCodeTable, rfl, #[], more, rfl, by rw [Array.empty_append]; exact hm⟩)
        · exact .inl (stays b o z e)
      · by_cases z : b ∈ tabs cs
        · obtain ⟨p, hp, rfl⟩ := List.mem_map.mp z
          obtain ⟨more, hm⟩ := grows p hp
          exact ⟨_, hm⟩
        · exact ⟨o, stays b o z e⟩
theorem walkGT {l : PySem.W.OpenLaw} {n : Nat} {q : Program} {loose : List Str} {XP : (Str → Option Value) → Heap → Prop} {YP : World → Heap → Prop} {d : DefRec} {KK : Params → PySem.W.Frag} {sp : PySem.W.Frag → Cds → Sp}
    (hn : l.most = some n) (hn2 : n ≤ sizeLine) (hdf : d.params.defaults = []) (hr : Room k callerA) (hY : ∀ (w : World) (h : Heap), YP w h → (KK w.params).In h)
    (F : ∀ (w : World) (mg : Str → Option Value) (fa : Addr) (h : Heap), YP w h → (KK w.params).In h → h.Ns mainGlobals mg → mg d.name = some (.ref fa) →
      ∃ (fd : FuncData) (cs : Cds), (∀ p ∈ cs, h.get? p.2.1 = some (PySem.W.tabObj #[])) ∧ (∀ p ∈ cs, (KK w.params).lookup p.2.1 = none) ∧ (∀ p ∈ cs, PySem.W.CodeHd h p.1 p.2.1) ∧ (∀ (s : Shared) (u : Value), BindsTo s fd ⟨[u], []⟩ [(x, u)]) ∧
        ∀ base : Heap, (KK w.params).In base → base.Ns mainGlobals mg → (∀ p ∈ cs, LamX.TabB base mg p.1 p.2.1) → FnG l.prog w (KK w.params) mg base k fa fd [x] (sp (KK w.params) cs))
    (hsp : ∀ (K : PySem.W.Frag) (cs : Cds) (H : Hp) (a : Addr) (ns : List Int), ns.length ≤ n → SqL K H a (ns.map V.int) → Tb cs H → sp K cs [.ref a] H (fun v _ => v = .bl true) E0) :
    PySem.W.WalkO q loose XP YP l.row.toRowW d [] (fun f vs => PySem.call f vs) :=
  Att.attach_call hn hdf fun w s0 s mg mb fa o pm cd doc a vs ns G Y ho hd hcd hmg hobj hints hlen hg => by
    have kin := hY w _ Y
    obtain ⟨fd, cs, tT, tK, tC, hb, hF⟩ := F w mg fa _ Y kin G.T.g hmg
    have hl : vs.length ≤ sizeLine := Nat.le_trans (Nat.le_of_eq hints.length) (Nat.le_trans hlen hn2)
    have isT : ∀ b ∈ tabs cs, s.heap.get? b = some (PySem.W.tabObj #[]) := fun b z => by
      obtain ⟨p, hp, rfl⟩ := List.mem_map.mp z
      exact tT p hp
    have aT : a ∉ tabs cs := fun z => by
      have e := isT a z
      rw [hobj] at e
      have e2 : Data.seq vs.toArray _ = Data.fields #[] := congrArg Obj.data (Option.some.inj e)
      cases e2
    have toTb : ∀ H : Hp, (∀ p ∈ cs, H p.2.1 = some (.tbl #[])) → Tb cs H := fun H z p hp => LamX.TabS.nil (z p hp)
    cases hk : (KK w.params).lookup a with
    | some ob =>
      have e := kin a ob hk
      rw [hobj] at e
      cases e
      let H0 : Hp := fun b => if b ∈ tabs cs then some (.tbl #[]) else none
      have inT : ∀ {b u}, H0 b = some u → b ∈ tabs cs ∧ u = .tbl #[] := fun {b u} z => by
        by_cases y : b ∈ tabs cs
        · exact ⟨y, (Option.some.inj ((if_pos y).symm.trans z)).symm⟩
        · have z2 := (if_neg y).symm.trans z
          cases z2
      have hTab : ∀ p ∈ cs, H0 p.2.1 = some (.tbl #[]) := fun p hp => if_pos (List.mem_map.mpr ⟨p, hp, rfl⟩)
      have S : SqL (KK w.params) H0 a (ns.map V.int) := Or.inr ⟨_, vs.toArray, _, hk, rfl, rfl, rfl, by rw [List.size_toArray]; exact hl, by simpa using vals_ints hints⟩
      refine fromTopT H0 hTab (fun _ _ z => .inr (inT z).1) (fun o z => absurd (inT z).1 aT) (fun _ _ z => .inr (inT z).1) S (fun b u z => ?_) tT tK tC G.T.bmain kin G.T.g G.T.b G.T.builtins G.T.nolimit hg hobj hints hr hF hb (hsp _ _ _ _ _ hlen S (toTb _ hTab))
      obtain ⟨z1, rfl⟩ := inT z
      exact isT b z1
    | none =>
      let H0 : Hp := fun b => if b = a then some (HO.frz { cls := .type "list", data := .seq vs.toArray } (.lst (ns.map V.int))) else if b ∈ tabs cs then some (.tbl #[]) else none
      have one : ∀ {b u}, H0 b = some u → (b = a ∧ u = HO.frz { cls := .type "list", data := .seq vs.toArray } (.lst (ns.map V.int))) ∨ (b ∈ tabs cs ∧ u = .tbl #[]) := fun {b u} z => by
        by_cases eb : b = a
        · exact .inl ⟨eb, (Option.some.inj ((if_pos eb).symm.trans z)).symm⟩
        · have z1 := (if_neg eb).symm.trans z
          by_cases y : b ∈ tabs cs
          · exact .inr ⟨y, (Option.some.inj ((if_pos y).symm.trans z1)).symm⟩
          · have z2 := (if_neg y).symm.trans z1
            cases z2
      have hTab : ∀ p ∈ cs, H0 p.2.1 = some (.tbl #[]) := fun p hp => (if_neg (show ¬ p.2.1 = a from fun z => aT (by rw [← z]; exact List.mem_map.mpr ⟨p, hp, rfl⟩))).trans (if_pos (List.mem_map.mpr ⟨p, hp, rfl⟩))
      have S : SqL (KK w.params) H0 a (ns.map V.int) := Or.inl (Or.inr ⟨{ cls := .type "list", data := .seq vs.toArray }, if_pos rfl⟩)
      refine fromTopT H0 hTab (fun _ _ z => (one z).elim (fun y => .inl y.1) fun y => .inr y.1) (fun _ _ => hk) (fun _ _ z => (one z).elim (fun y => .inl ⟨_, _, y.2⟩) fun y => .inr y.1) S (fun b u z => ?_) tT tK tC G.T.bmain kin G.T.g G.T.b G.T.builtins G.T.nolimit hg hobj hints hr hF hb (hsp _ _ _ _ _ hlen S (toTb _ hTab))
      rcases one z with ⟨rfl, rfl⟩ | ⟨z1, rfl⟩
      · exact ⟨hobj, by rw [List.length_map, ← hints.length]; exact hl, vs, _, vals_ints hints, hobj⟩
      · exact isT b z1
end
/-! ### the head's facts -/
def tabOf (K : PySem.W.Frag) (c : Addr) : Addr := match K.lookup c with
  | some ⟨_, _, .fields vs, _⟩ => (match (vs[11]? : Option Value) with | some (.ref p) => p | _ => 0)
  | _ => 0
def cdOk (K : PySem.W.Frag) (c : Addr) : Bool := PySem.W.codeHdIn K c (tabOf K c)
theorem codeHd_of {K : PySem.W.Frag} {h : Heap} {c : Addr} (X : K.In h) (e : cdOk K c = true) : PySem.W.CodeHd h c (tabOf K c) := PySem.W.codeHd_of_K X e
theorem mem_of {b : Addr} {l : List Addr} (h : decide (b ∈ l) = true) : b ∈ l := of_decide_eq_true h
theorem none_of {K : PySem.W.Frag} {b : Addr} (h : (K.lookup b).isNone = true) : K.lookup b = none := Option.isNone_iff_eq_none.mp h
theorem v_lamE {c P : Addr} {q : Str} {H1 : Hp} {G : Hp → Prop} (tb : Tb [(c, P, q)] H1) (h : ∀ H2, Ex [(c, P, q)] H1 H2 → G H2) : LamX.Tabs [(P, q)] H1 ∧ ∀ H2, LamX.ExtN H1 H2 → LamX.Tabs [(P, q)] H2 → G H2 := by
  have to : ∀ {H}, LamX.Tabs [(P, q)] H → Tb [(c, P, q)] H := fun t p hp => by
    rw [List.mem_singleton.mp hp]
    exact t (P, q) List.mem_cons_self
  refine ⟨fun p hp => ?_, fun H2 e t => h H2 ⟨e, fun _ => to t⟩⟩
  rw [List.mem_singleton.mp hp]
  exact tb (c, P, q) List.mem_cons_self
end Vc
namespace Vc
open PySem PySem.Spec PyProof.Rows L2
/-! ### len(set(xs)), xs a list of ints -/
def dist (ns : List Int) : Nat := (PyProof.Rows.firstMet (fun i => ns.getD i 0) ns.length).length
def tLenSetG (K : PySem.W.Frag) (ta : TE) : TE := fun σ H Q => ta σ H fun x H1 => ∃ (l : Addr) (ns : List Int), x = V.ref l ∧ SqL K H1 l (ns.map V.int) ∧ ns.length ≤ 1000 ∧ Q (.int (dist ns : Nat)) H1
theorem v_lenSet {K : PySem.W.Frag} {ta : TE} {σ : L2.St} {H : Hp} {Q : VK} (h : ta σ H fun x H1 => ∃ (l : Addr) (ns : List Int), x = V.ref l ∧ SqL K H1 l (ns.map V.int) ∧ ns.length ≤ 1000 ∧ Q (.int (dist ns : Nat)) H1) : tLenSetG K ta σ H Q := h
theorem pe_lenSetG {X : Cx} {a : Expr} {ta : TE} {p p2 q pos : Pos} (hg : Gl X "len") (hm : X.mg "len" = none) (hg2 : Gl X "set") (hm2 : X.mg "set" = none) (ha : PE X a ta) (hc : X.calm = true)
    (na : starEach [a] X.env = (false, eval a X.env) :: starEach [] X.env := by rfl) : PE X (.Call (.Name "len" p) [.Call (.Name "set" p2) [a] [] q] [] pos) (tLenSetG X.K ta) := by
  refine ⟨fun pins s σ H Q I h => Call_ (ld_blt I hg hm PySem.boot_len (PyProof.Rows.callWith_builtin1 (PyProof.Rows.args_cons ?_ rfl) rfl rfl))⟩
  refine Call_ (ld_blt I hg2 hm2 PyProof.Rows.boot_set (PyProof.Rows.callWith_type1 (PyProof.Rows.args_cons (thn (ha.run pins s σ H _ I h) fun v s1 ⟨x, H1, I1, r1, q1⟩ => PyProof.Rows.args_nil ?_) na) na rfl))
  obtain ⟨l, ns, rfl, hq, hl, q1⟩ := q1
  cases r1
  obtain ⟨its, r, pl, hz⟩ := I1.list hq
  have hs : its.toArray.size = ns.length := by rw [List.size_toArray, ← r.length, List.length_map]
  refine call_set_list (I1.ok.hd hc) pl.isList (ns := ns) (by simpa using r.ints) (by unfold scanBound; omega) fun h' tk hS hk => PyProof.Rows.args_nil ?_
  rw [hs] at hS
  obtain ⟨o, es, ep, t, ho, hex, hd, _, _, _, hf, hn⟩ := hS
  have I2 : Inv X pins σ H1 { s1 with heap := h', toks := tk } := I1.kept fun b o e => hk b o (Heap.lt_size e) e
  have hle := PyProof.Rows.firstMet_length_le (fun i => ns.getD i 0) ns.length
  exact call_len_set ho hex hd hf (by rw [hn]; omega) ⟨.int (dist ns : Nat), H1, I2.tok _, ⟨_, by rw [hn]; rfl⟩, q1⟩
/-- an if behind which both ways are so -/
theorem v_ifC {t : TT} {ts us : TS} {D : Ends} {σ : L2.St} {H : Hp} (P : L2.St → Hp → Prop) (g : ∀ N : L2.St → Hp → Prop, (∀ σ' H', P σ' H' → N σ' H') → tIfS t ts us { D with nx := N } σ H) (h : ∀ σ' H', P σ' H' → D.nx σ' H') : tIfS t ts us D σ H := g D.nx h
/-- what was made since H1, and by the way W: all else stays -/
theorem ex_sy {cs : Cds} {W : Addr} {H H1 H2 : Hp} (hW : H W = none) (s : Same H H1) (y : Sy cs W H1 H2) : Ex cs H H2 :=
  ⟨fun b o e t => y.1 b o (ne_of_none e hW) (s b o e) t, fun t => y.2 (t.same s)⟩
theorem ex_own {cs : Cds} {p : Addr} {H H' : Hp} {o : HO} (x : Ex cs H H') (h : H p = none) (tb : Tb cs H') (hl : ∃ xs, H' p = some (.lst xs)) : Ex cs H (upd H' p o) := by
  refine ⟨fun b u e t => by rw [upd_ne (ne_of_none e h)]; exact x.1 b u e t, fun _ q hq => ?_⟩
  obtain ⟨xs, hx⟩ := hl
  obtain ⟨ps, h1, h2, h3⟩ := tb q hq
  have nP : ∀ {b : Addr} {u : HO}, H' b = some u → (∀ xs, u ≠ .lst xs) → b ≠ p := fun e n z => by
    rw [z, hx] at e
    exact n _ (Option.some.inj e).symm
  refine ⟨ps, by rw [upd_ne (nP h1 fun _ z => nomatch z)]; exact h1, h2, fun pos cv hc => ?_⟩
  obtain ⟨c, e1, e2⟩ := h3 pos cv hc
  exact ⟨c, e1, by rw [upd_ne (nP e2 fun _ z => by unfold LamX.CodeO at z; cases z)]; exact e2⟩
end Vc

namespace K08
open PySem PySem.Spec PyProof.Rows L2 Vc
local macro_rules | `(tactic| walk_at "v") => `(tactic| first
  | (with_reducible refine v_seq ?_)
  | (with_reducible refine v_asg ?_)
  | ((with_reducible refine v_var (v := ?vv) ?hv ?_); (case hv => exact rfl))
  | ((with_reducible refine v_name ?_); try dsimp only [List.set_cons_zero, List.set_cons_succ])
  | (with_reducible refine v_c ?_)
  | (with_reducible refine v_op ?_)
  | (with_reducible refine v_cons ?_)
  | (with_reducible refine v_nil ?_)
  | (with_reducible refine v_call ?_)
  | (with_reducible refine v_callK ?_)
  | (with_reducible refine v_cb ?_)
  | (with_reducible refine v_I0 ?_)
  | (with_reducible refine v_ret ?_)
  | (with_reducible refine v_retN ?_)
  | (with_reducible refine v_drop ?_)
  | (with_reducible refine v_if ?_)
  | (with_reducible refine v_ifE ?_)
  | (with_reducible refine v_test ?_)
  | (with_reducible refine v_B ?_)
  | (with_reducible refine v_bl ?_)
  | (with_reducible refine v_and ?_)
  | (with_reducible refine v_or ?_)
  | (with_reducible refine v_not ?_)
  | (with_reducible refine v_andV ?_)
  | (with_reducible refine v_orV ?_)
  | (with_reducible refine v_notV ?_)
  | (with_reducible refine v_chain ?_)
  | (with_reducible refine v_eqI ?_)
  | (with_reducible refine v_neI ?_)
  | (with_reducible refine v_eqS0 ?_)
  | (with_reducible refine v_neS0 ?_)
  | (with_reducible refine v_par ?_)
  | (with_reducible refine v_par3 ?_)
  | ((with_reducible refine v_two ?_); try dsimp only [List.set_cons_zero, List.set_cons_succ])
  | ((with_reducible refine v_three ?_); try dsimp only [List.set_cons_zero, List.set_cons_succ])
  | (with_reducible refine v_un ?_)
  | (with_reducible refine v_U ?_)
  | (with_reducible refine v_isInt ?_)
  | (with_reducible refine v_isBool ?_)
  | (with_reducible refine v_int1 ?_)
  | (with_reducible refine v_abs ?_)
  | (with_reducible refine v_max ?_)
  | (with_reducible refine v_min ?_)
  | (with_reducible refine v_for ?_)
  | (with_reducible refine v_rng1 ?_)
  | (with_reducible refine v_iList ?_)
  | (with_reducible refine v_iTup ?_)
  | (with_reducible refine v_ref ?_)
  | (with_reducible refine v_sl ?_)
  | (with_reducible refine v_noPart ?_)
  | (with_reducible refine v_part ?_)
  | (with_reducible refine v_pInt ?_)
  | (with_reducible refine v_lc ?_)
  | (with_reducible refine v_yes ?_)
  | (with_reducible refine v_if0 ?_)
  | (with_reducible refine v_if1 ?_)
  | (with_reducible refine v_ifn ?_)
  | (with_reducible refine v_gsub ?_)
  | (with_reducible refine v_gcons ?_)
  | (with_reducible refine v_gnil ?_)
  | (with_reducible refine v_tup ?_)
  | (with_reducible refine v_lst ?_)
  | (with_reducible refine v_bmL ?_)
  | ((with_reducible refine v_next ?_); try dsimp only)
  | ((with_reducible refine v_I ?hc ?_); (case hc => first | exact Or.inl (by decide) | exact Or.inr (by decide) | exact cm_r (by decide) (by decide) (by decide) | (show (_ : Int) ≠ _; decide) | (show (0 : Int) < _; decide) | (show _ ∧ _; decide))))
local macro_rules | `(tactic| walk_at "vv") => `(tactic| repeat walk_at "v")
def gN (ns : List Nat) (i : Nat) : Nat := ns.getD i 0
theorem gN_at {ns : List Nat} {i n : Nat} (h : ns[i]? = some n) : gN ns i = n := by
  unfold gN
  rw [List.getD_eq_getElem?_getD, h]
  rfl
/-- i lies within j, and the check of i within that of j -/
def clB (ns : List Nat) (i j : Nat) : Bool := decide (i &&& j = i) && decide (gN ns i &&& gN ns j = gN ns i)
def inn (ns : List Nat) (o n : Nat) : Option Nat := (List.range n).find? fun i => clB ns i o
def srch (ns : List Nat) (n : Nat) : Option (Nat × Nat) := (List.range n).findSome? fun o => (inn ns o o).map fun i => (i, o)
theorem inn_succ (ns : List Nat) (o n : Nat) : inn ns o (n + 1) = (inn ns o n).or (if clB ns n o = true then some n else none) := by
  unfold inn
  rw [List.range_succ, List.find?_append]
  congr 1
  simp only [List.find?_cons, List.find?_nil]
  cases clB ns n o <;> rfl
theorem srch_succ (ns : List Nat) (n : Nat) : srch ns (n + 1) = (srch ns n).or ((inn ns n n).map fun i => (i, n)) := by
  unfold srch
  rw [List.range_succ, List.findSome?_append]
  congr 1
  simp only [List.findSome?_cons, List.findSome?_nil]
  cases inn ns n n <;> rfl
theorem inn_some {ns : List Nat} {o n i : Nat} (h : inn ns o n = some i) : i < n ∧ clB ns i o = true :=
  ⟨List.mem_range.mp (List.mem_of_find?_eq_some h), by simpa using List.find?_some h⟩
theorem inn_none {ns : List Nat} {o n : Nat} (h : inn ns o n = none) : ∀ i, i < n → clB ns i o = false := fun i hi => by
  have := List.find?_eq_none.mp h i (List.mem_range.mpr hi)
  simpa using this
theorem srch_some {ns : List Nat} : ∀ {n i o : Nat}, srch ns n = some (i, o) → i < o ∧ o < n ∧ clB ns i o = true
  | 0, i, o, h => by simp [srch] at h
  | n + 1, i, o, h => by
    rw [srch_succ] at h
    cases e : srch ns n with
    | some z =>
      rw [e] at h
      cases h
      have := srch_some e
      exact ⟨this.1, by omega, this.2.2⟩
    | none =>
      rw [e] at h
      cases e2 : inn ns n n with
      | none => rw [e2] at h; cases h
      | some k =>
        rw [e2] at h
        cases h
        exact ⟨(inn_some e2).1, by omega, (inn_some e2).2⟩
theorem srch_none {ns : List Nat} : ∀ {n : Nat}, srch ns n = none → ∀ o, o < n → ∀ i, i < o → clB ns i o = false
  | 0, _, o, h, _, _ => by omega
  | n + 1, h, o, ho, i, hi => by
    rw [srch_succ] at h
    obtain ⟨h1, h2⟩ := Option.or_eq_none_iff.mp h
    rcases Nat.lt_or_ge o n with z | z
    · exact srch_none h1 o z i hi
    · have e : o = n := by omega
      subst e
      exact inn_none (Option.map_eq_none_iff.mp h2) i hi
theorem srch_no {ns : List Nat} : ∀ {n : Nat}, (∀ o, o < n → ∀ i, i < o → clB ns i o = false) → srch ns n = none
  | 0, _ => rfl
  | n + 1, h => by
    rw [srch_succ, srch_no fun o ho => h o (by omega)]
    have e : inn ns n n = none := List.find?_eq_none.mpr fun i hi => by rw [h n (by omega) i (List.mem_range.mp hi)]; decide
    rw [e]
    rfl
/-- the search stops where both walks stand -/
theorem srch_at {ns : List Nat} {n i o : Nat} (hn : srch ns o = none) (ho : o < n) (hi : i < o) (hc : clB ns i o = true) (hin : inn ns o i = none) : srch ns n = some (i, o) := by
  have a : inn ns o (i + 1) = some i := by rw [inn_succ, hin, hc]; rfl
  have up : ∀ k, inn ns o (i + 1 + k) = some i := fun k => by
    induction k with
    | zero => exact a
    | succ k ih => rw [← Nat.add_assoc, inn_succ, ih]; rfl
  have io := up (o - (i + 1))
  rw [show i + 1 + (o - (i + 1)) = o by omega] at io
  have so : srch ns (o + 1) = some (i, o) := by rw [srch_succ, hn, io]; rfl
  have up2 : ∀ k, srch ns (o + 1 + k) = some (i, o) := fun k => by
    induction k with
    | zero => exact so
    | succ k ih => rw [← Nat.add_assoc, srch_succ, ih]; rfl
  have fin := up2 (n - (o + 1))
  rw [show o + 1 + (n - (o + 1)) = n by omega] at fin
  exact fin
/-! ### unlike checks -/
theorem nodup_len : ∀ {xs ys : List Int}, xs.Nodup → (∀ x ∈ xs, x ∈ ys) → xs.length ≤ ys.length
  | [], _, _, _ => Nat.zero_le _
  | x :: xs, ys, h, hs => by
    rw [List.nodup_cons] at h
    have hx := hs x List.mem_cons_self
    have := nodup_len (ys := ys.erase x) h.2 fun z hz => (List.mem_erase_of_ne fun e => h.1 (by rw [← e]; exact hz)).mpr (hs z (List.mem_cons_of_mem _ hz))
    rw [List.length_erase_of_mem hx] at this
    have := List.length_pos_of_mem hx
    rw [List.length_cons]
    omega
theorem ones_in {a b : Nat} (h : a ≤ b) : (2 ^ a - 1) &&& (2 ^ b - 1) = 2 ^ a - 1 := by
  apply Nat.eq_of_testBit_eq
  intro i
  rw [Nat.testBit_and, Nat.testBit_two_pow_sub_one, Nat.testBit_two_pow_sub_one]
  by_cases z : i < a
  · rw [decide_eq_true z, decide_eq_true (show i < b by omega)]; rfl
  · rw [decide_eq_false z]; rfl
theorem dist_le {ns : List Nat} {m : Nat} (hl : ns.length = 2 ^ m) (h : srch ns ns.length = none) : m + 1 ≤ dist (ns.map fun n : Nat => (n : Int)) := by
  have pw : ∀ a b, a < b → b ≤ m → (2 : Nat) ^ a - 1 < 2 ^ b - 1 ∧ (2 : Nat) ^ b - 1 < 2 ^ m := fun a b h1 h2 => by
    have e1 := Nat.pow_lt_pow_right (show 1 < 2 by decide) h1
    have e2 := Nat.pow_le_pow_right (show 0 < 2 by decide) h2
    have e3 := Nat.pow_pos (a := 2) (n := a) (by decide)
    omega
  have ne : ∀ a b, a < b → b ≤ m → gN ns (2 ^ a - 1) ≠ gN ns (2 ^ b - 1) := fun a b h1 h2 e => by
    have z := srch_none h (2 ^ b - 1) (by rw [hl]; exact (pw a b h1 h2).2) (2 ^ a - 1) (pw a b h1 h2).1
    unfold clB at z
    rw [ones_in (by omega), e, Nat.and_self] at z
    simp at z
  have nd : ((List.range (m + 1)).map fun k => ((gN ns (2 ^ k - 1) : Nat) : Int)).Nodup := by
    rw [List.nodup_iff_pairwise_ne, List.pairwise_map]
    refine List.Pairwise.imp_of_mem (R := fun a b => a < b) (fun {a b} ha hb hab e => ?_) List.pairwise_lt_range
    have := List.mem_range.mp hb
    exact ne a b hab (by omega) (by exact_mod_cast e)
  have := nodup_len nd (ys := PyProof.Rows.firstMet (fun i => (ns.map fun n : Nat => (n : Int)).getD i 0) (ns.map fun n : Nat => (n : Int)).length) fun x hx => by
    obtain ⟨k, hk, rfl⟩ := List.mem_map.mp hx
    have hk2 := List.mem_range.mp hk
    have lt : 2 ^ k - 1 < ns.length := by
      rw [hl]
      have e2 := Nat.pow_le_pow_right (show 0 < 2 by decide) (show k ≤ m by omega)
      have e3 := Nat.pow_pos (a := 2) (n := k) (by decide)
      omega
    have e := PyProof.Rows.firstMet_any (fun i => (ns.map fun n : Nat => (n : Int)).getD i 0) (ns.map fun n : Nat => (n : Int)).length ((gN ns (2 ^ k - 1) : Nat) : Int)
    have z : ((List.range (ns.map fun n : Nat => (n : Int)).length).map (fun i => (ns.map fun n : Nat => (n : Int)).getD i 0)).any (· == ((gN ns (2 ^ k - 1) : Nat) : Int)) = true := by
      rw [List.any_eq_true]
      refine ⟨((gN ns (2 ^ k - 1) : Nat) : Int), List.mem_map.mpr ⟨2 ^ k - 1, List.mem_range.mpr (by rw [List.length_map]; exact lt), ?_⟩, by simp⟩
      unfold gN
      rw [List.getD_eq_getElem?_getD, List.getD_eq_getElem?_getD, List.getElem?_map]
      cases ns[2 ^ k - 1]? <;> rfl
    rw [z] at e
    obtain ⟨y, hy, ey⟩ := List.any_eq_true.mp e
    rw [← beq_iff_eq.mp ey]
    exact hy
  rw [List.length_map, List.length_range] at this
  exact this
/-! ### how many bits are 0 -/
def nou (n k : Nat) : Nat := ((List.range k).map fun a => 1 - n / 2 ^ a % 2).sum
theorem nou_succ (n k : Nat) : nou n (k + 1) = nou n k + (1 - n / 2 ^ k % 2) := by
  unfold nou
  rw [List.range_succ, List.map_append, List.sum_append]
  simp
theorem bit_of (n a : Nat) : n / 2 ^ a % 2 = if n.testBit a = true then 1 else 0 := by
  have h := Nat.testBit_eq_decide_div_mod_eq (x := n) (i := a)
  have h2 : n / 2 ^ a % 2 < 2 := Nat.mod_lt _ (by decide)
  rw [h]
  by_cases z : n / 2 ^ a % 2 = 1
  · rw [decide_eq_true z, if_pos rfl, z]
  · rw [decide_eq_false z, if_neg (by decide)]; omega
theorem nou_le {i j : Nat} (h : i &&& j = i) : ∀ k, nou j k ≤ nou i k ∧ (nou j k = nou i k → ∀ a, a < k → i.testBit a = j.testBit a)
  | 0 => ⟨Nat.le_refl _, fun _ a ha => by omega⟩
  | k + 1 => by
    obtain ⟨h1, h2⟩ := nou_le h k
    have b : i.testBit k = true → j.testBit k = true := fun z => by
      rw [← h, Nat.testBit_and] at z
      simp at z
      exact z.2
    rw [nou_succ, nou_succ, bit_of, bit_of]
    cases ei : i.testBit k with
    | true =>
      rw [b ei]
      refine ⟨by simpa using h1, fun e a ha => ?_⟩
      rcases Nat.lt_or_ge a k with z | z
      · exact h2 (by simpa using e) a z
      · rw [show a = k by omega, ei, b ei]
    | false =>
      cases ej : j.testBit k with
      | true =>
        refine ⟨by simp; omega, fun e => ?_⟩
        simp at e
        omega
      | false =>
        refine ⟨by simpa using h1, fun e a ha => ?_⟩
        rcases Nat.lt_or_ge a k with z | z
        · exact h2 (by simpa using e) a z
        · rw [show a = k by omega, ei, ej]
theorem nou_lt {i j k : Nat} (h : i &&& j = i) (hn : i ≠ j) (hi : i < 2 ^ k) (hj : j < 2 ^ k) : nou j k < nou i k := by
  obtain ⟨h1, h2⟩ := nou_le h k
  rcases Nat.lt_or_ge (nou j k) (nou i k) with z | z
  · exact z
  · exact absurd (bits_ext hi hj (h2 (by omega))) hn
theorem nou_book (m : Nat) : srch ((List.range (2 ^ m)).map fun n => nou n m) (2 ^ m) = none := by
  refine srch_no fun o ho i hi => ?_
  have at_ : ∀ n, n < 2 ^ m → gN ((List.range (2 ^ m)).map fun n => nou n m) n = nou n m := fun n hn => gN_at (by rw [List.getElem?_map, List.getElem?_range hn]; rfl)
  unfold clB
  rw [at_ o ho, at_ i (by omega)]
  by_cases z : i &&& o = i
  · have lt := nou_lt z (by omega) (show i < 2 ^ m by omega) ho
    rw [decide_eq_true z, Bool.true_and]
    exact decide_eq_false fun e => by have := Nat.and_le_right (n := nou i m) (m := nou o m); omega
  · rw [decide_eq_false z, Bool.false_and]
theorem nou_bound (n k : Nat) : nou n k ≤ k := by
  induction k with
  | zero => exact Nat.le_refl _
  | succ k ih => rw [nou_succ]; omega
/-! ### the text by places -/
def topS (i : Nat) : Stmt := PySem.Challenge.pw_flashtrees_k08_books_and_what_clashes_in.main.body.getD i (.Pass ⟨0, 0, 0, 0⟩)
abbrev s_Ldraw : Stmt := topS 14
abbrev N_Ldraw : List Str := ["_law_well_here", "_law_many", "_law_figure", "_law_seed"]
theorem sc_Ldraw : FnScope N_Ldraw ["_law_well_here", "_law_many"] (defScope s_Ldraw) := ⟨rfl, rfl, rfl, by decide +kernel, rfl, by decide +kernel, by decide +kernel⟩
abbrev s_first_wrong : Stmt := topS 6
abbrev N_first_wrong : List Str := ["values", "is_right", "index", "value"]
theorem sc_first_wrong : FnScope N_first_wrong ["values", "is_right"] (defScope s_first_wrong) := ⟨rfl, rfl, rfl, by decide +kernel, rfl, by decide +kernel, by decide +kernel⟩
abbrev s_is_whole : Stmt := topS 4
abbrev N_is_whole : List Str := ["value"]
theorem sc_is_whole : FnScope N_is_whole ["value"] (defScope s_is_whole) := ⟨rfl, rfl, rfl, by decide +kernel, rfl, by decide +kernel, by decide +kernel⟩
abbrev s_is_from : Stmt := topS 5
abbrev N_is_from : List Str := ["value", "least"]
theorem sc_is_from : FnScope N_is_from ["value", "least"] (defScope s_is_from) := ⟨rfl, rfl, rfl, by decide +kernel, rfl, by decide +kernel, by decide +kernel⟩
abbrev s_require_checks : Stmt := topS 10
abbrev N_require_checks : List Str := ["checks", "wrong"]
theorem sc_require_checks : FnScope N_require_checks ["checks"] (defScope s_require_checks) := ⟨rfl, rfl, rfl, by decide +kernel, rfl, by decide +kernel, by decide +kernel⟩
abbrev s_lies_within : Stmt := topS 9
abbrev N_lies_within : List Str := ["inner", "outer"]
theorem sc_lies_within : FnScope N_lies_within ["inner", "outer"] (defScope s_lies_within) := ⟨rfl, rfl, rfl, by decide +kernel, rfl, by decide +kernel, by decide +kernel⟩
abbrev s_clash : Stmt := topS 11
abbrev N_clash : List Str := ["checks", "outer", "outer_check", "inner"]
theorem sc_clash : FnScope N_clash ["checks"] (defScope s_clash) := ⟨rfl, rfl, rfl, by decide +kernel, rfl, by decide +kernel, by decide +kernel⟩
abbrev s_Lis_some : Stmt := topS 19
abbrev N_Lis_some : List Str := ["_law_book_here", "_law_two", "_law_one"]
theorem sc_Lis_some : FnScope N_Lis_some ["_law_book_here"] (defScope s_Lis_some) := ⟨rfl, rfl, rfl, by decide +kernel, rfl, by decide +kernel, by decide +kernel⟩
abbrev s_Lclashes : Stmt := topS 18
abbrev N_Lclashes : List Str := ["_law_book_here", "_law_one", "_law_two"]
theorem sc_Lclashes : FnScope N_Lclashes ["_law_book_here", "_law_one", "_law_two"] (defScope s_Lclashes) := ⟨rfl, rfl, rfl, by decide +kernel, rfl, by decide +kernel, by decide +kernel⟩
abbrev s_Lis_index : Stmt := topS 20
abbrev N_Lis_index : List Str := ["_law_thing", "_law_many"]
theorem sc_Lis_index : FnScope N_Lis_index ["_law_thing", "_law_many"] (defScope s_Lis_index) := ⟨rfl, rfl, rfl, by decide +kernel, rfl, by decide +kernel, by decide +kernel⟩
abbrev s_Lholds : Stmt := topS 21
abbrev N_Lholds : List Str := ["_law_book_here", "_law_many", "_law_told", "_law_due", "_law_each"]
theorem sc_Lholds : FnScope N_Lholds ["_law_book_here", "_law_many"] (defScope s_Lholds) := ⟨rfl, rfl, rfl, by decide +kernel, rfl, by decide +kernel, by decide +kernel⟩
abbrev s_Lnoughts : Stmt := topS 16
abbrev N_Lnoughts : List Str := ["_law_number", "_law_many", "_law_at"]
theorem sc_Lnoughts : FnScope N_Lnoughts ["_law_number", "_law_many"] (defScope s_Lnoughts) := ⟨rfl, rfl, rfl, by decide +kernel, rfl, by decide +kernel, by decide +kernel⟩
abbrev s_Lbook : Stmt := topS 17
abbrev N_Lbook : List Str := ["_law_well_here", "_law_many", "_law_size", "_law_branch", "_law_number", "_law_made", "_law_spot", "_law_few"]
theorem sc_Lbook : FnScope N_Lbook ["_law_well_here", "_law_many"] (defScope s_Lbook) := ⟨rfl, rfl, rfl, by decide +kernel, rfl, by decide +kernel, by decide +kernel⟩
abbrev s_Lright : Stmt := topS 22
abbrev N_Lright : List Str := ["_law_well_here", "_law_turn", "_law_many", "_law_number"]
theorem sc_Lright : FnScope N_Lright ["_law_well_here"] (defScope s_Lright) := ⟨rfl, rfl, rfl, by decide +kernel, rfl, by decide +kernel, by decide +kernel⟩
abbrev s_Lwell : Stmt := topS 13
abbrev N_Lwell : List Str := ["_law_script", "_law_turn", "_law_mixed", "_law_cell", "_law_own"]
theorem sc_Lwell : FnScope N_Lwell ["_law_script", "_law_turn"] (defScope s_Lwell) := ⟨rfl, rfl, rfl, by decide +kernel, rfl, by decide +kernel, by decide +kernel⟩
abbrev s_law : Stmt := topS 23
abbrev N_law : List Str := ["_law_script", "_law_turn"]
theorem sc_law : FnScope N_law ["_law_script"] (defScope s_law) := ⟨rfl, rfl, rfl, by decide +kernel, rfl, by decide +kernel, by decide +kernel⟩
abbrev gp_clash_0_checks {α : Type} : List α → List α → List α := gpick 0 1 [0]
theorem kb_clash_0_checks {K : PySem.W.Frag} {f : Addr} {fd : FuncData} (F : Fun K "clash" "clash" s_clash f fd) : KBinds K fd ["checks"] ["checks"] gp_clash_0_checks gp_clash_0_checks := by
  obtain ⟨oc, od, kV, doc, pm, an, cdv, ct, osl, rfl, lk, hcd⟩ := F.ex
  refine ⟨fun s us ws kin hl => ?_, fun r rz => gpick_rel _ _ _ r rz⟩
  by_cases hc : us.length = 0 ∧ ws.length = 1
  · match us, ws, hc with
    | [], [z0], _ => exact .of_eq rfl
  · rw [show gp_clash_0_checks us ws = [] from if_neg hc] at hl
    simp at hl
/-! ### what the top has left -/
abbrev q_require_checks : Str := (envOfC "require_checks" (defScope s_require_checks) 0 0 .none).qual ++ "<lambda>"
structure Txt (K : PySem.W.Frag) (mg : Str → Option Value) (base : Heap) where
  C_require_checks : Addr
  P_require_checks : Addr
  TB_require_checks : LamX.TabB base mg C_require_checks P_require_checks
  f_Ldraw : Addr
  fd_Ldraw : FuncData
  F_Ldraw : Fun K "_law_draw" "_law_draw" s_Ldraw f_Ldraw fd_Ldraw
  g_Ldraw : mg "_law_draw" = some (.ref f_Ldraw)
  bi_Ldraw : Binds K fd_Ldraw ["_law_well_here", "_law_many"] []
  f_first_wrong : Addr
  fd_first_wrong : FuncData
  F_first_wrong : Fun K "first_wrong" "first_wrong" s_first_wrong f_first_wrong fd_first_wrong
  g_first_wrong : mg "first_wrong" = some (.ref f_first_wrong)
  bi_first_wrong : Binds K fd_first_wrong ["values", "is_right"] []
  f_is_whole : Addr
  fd_is_whole : FuncData
  F_is_whole : Fun K "is_whole" "is_whole" s_is_whole f_is_whole fd_is_whole
  g_is_whole : mg "is_whole" = some (.ref f_is_whole)
  bi_is_whole : Binds K fd_is_whole ["value"] []
  f_is_from : Addr
  fd_is_from : FuncData
  F_is_from : Fun K "is_from" "is_from" s_is_from f_is_from fd_is_from
  g_is_from : mg "is_from" = some (.ref f_is_from)
  bi_is_from : Binds K fd_is_from ["value", "least"] []
  f_require_checks : Addr
  fd_require_checks : FuncData
  F_require_checks : Fun K "require_checks" "require_checks" s_require_checks f_require_checks fd_require_checks
  g_require_checks : mg "require_checks" = some (.ref f_require_checks)
  bi_require_checks : Binds K fd_require_checks ["checks"] []
  FC_require_checks : FunC K "require_checks" "require_checks" s_require_checks f_require_checks fd_require_checks C_require_checks
  f_lies_within : Addr
  fd_lies_within : FuncData
  F_lies_within : Fun K "lies_within" "lies_within" s_lies_within f_lies_within fd_lies_within
  g_lies_within : mg "lies_within" = some (.ref f_lies_within)
  bi_lies_within : Binds K fd_lies_within ["inner", "outer"] []
  f_clash : Addr
  fd_clash : FuncData
  F_clash : Fun K "clash" "clash" s_clash f_clash fd_clash
  g_clash : mg "clash" = some (.ref f_clash)
  bi_clash : Binds K fd_clash ["checks"] []
  f_Lis_some : Addr
  fd_Lis_some : FuncData
  F_Lis_some : Fun K "_law_is_some" "_law_is_some" s_Lis_some f_Lis_some fd_Lis_some
  g_Lis_some : mg "_law_is_some" = some (.ref f_Lis_some)
  bi_Lis_some : Binds K fd_Lis_some ["_law_book_here"] []
  f_Lclashes : Addr
  fd_Lclashes : FuncData
  F_Lclashes : Fun K "_law_clashes" "_law_clashes" s_Lclashes f_Lclashes fd_Lclashes
  g_Lclashes : mg "_law_clashes" = some (.ref f_Lclashes)
  bi_Lclashes : Binds K fd_Lclashes ["_law_book_here", "_law_one", "_law_two"] []
  f_Lis_index : Addr
  fd_Lis_index : FuncData
  F_Lis_index : Fun K "_law_is_index" "_law_is_index" s_Lis_index f_Lis_index fd_Lis_index
  g_Lis_index : mg "_law_is_index" = some (.ref f_Lis_index)
  bi_Lis_index : Binds K fd_Lis_index ["_law_thing", "_law_many"] []
  f_Lholds : Addr
  fd_Lholds : FuncData
  F_Lholds : Fun K "_law_holds" "_law_holds" s_Lholds f_Lholds fd_Lholds
  g_Lholds : mg "_law_holds" = some (.ref f_Lholds)
  bi_Lholds : Binds K fd_Lholds ["_law_book_here", "_law_many"] []
  f_Lnoughts : Addr
  fd_Lnoughts : FuncData
  F_Lnoughts : Fun K "_law_noughts" "_law_noughts" s_Lnoughts f_Lnoughts fd_Lnoughts
  g_Lnoughts : mg "_law_noughts" = some (.ref f_Lnoughts)
  bi_Lnoughts : Binds K fd_Lnoughts ["_law_number", "_law_many"] []
  f_Lbook : Addr
  fd_Lbook : FuncData
  F_Lbook : Fun K "_law_book" "_law_book" s_Lbook f_Lbook fd_Lbook
  g_Lbook : mg "_law_book" = some (.ref f_Lbook)
  bi_Lbook : Binds K fd_Lbook ["_law_well_here", "_law_many"] []
  f_Lright : Addr
  fd_Lright : FuncData
  F_Lright : Fun K "_law_right" "_law_right" s_Lright f_Lright fd_Lright
  g_Lright : mg "_law_right" = some (.ref f_Lright)
  bi_Lright : Binds K fd_Lright ["_law_well_here"] []
  f_Lwell : Addr
  fd_Lwell : FuncData
  F_Lwell : Fun K "_law_well" "_law_well" s_Lwell f_Lwell fd_Lwell
  g_Lwell : mg "_law_well" = some (.ref f_Lwell)
  bi_Lwell : Binds K fd_Lwell ["_law_script", "_law_turn"] []
  f_law : Addr
  fd_law : FuncData
  F_law : Fun K "law" "law" s_law f_law fd_law
  g_law : mg "law" = some (.ref f_law)
  bi_law : Binds K fd_law ["_law_script"] []
  kb_clash_0_checks : KBinds K fd_clash ["checks"] ["checks"] gp_clash_0_checks gp_clash_0_checks
  b_abs : mg "abs" = none
  b_all : mg "all" = none
  b_bool : mg "bool" = none
  b_divmod : mg "divmod" = none
  b_enumerate : mg "enumerate" = none
  b_int : mg "int" = none
  b_isinstance : mg "isinstance" = none
  b_len : mg "len" = none
  b_max : mg "max" = none
  b_min : mg "min" = none
  b_range : mg "range" = none
  b_repr : mg "repr" = none
  b_set : mg "set" = none
  b_sum : mg "sum" = none
  b_tuple : mg "tuple" = none
  v_BOOK_SIZES : Addr
  c_BOOK_SIZES : mg "BOOK_SIZES" = some (.ref v_BOOK_SIZES)
  q_BOOK_SIZES : ∀ H : Hp, SqT K H v_BOOK_SIZES (([1, 2, 4, 8, 16, 32, 64, 128, 256] : List Int).map V.int)
abbrev Txt.cs {K : PySem.W.Frag} {mg : Str → Option Value} {base : Heap} (T : Txt K mg base) : Cds := [(T.C_require_checks, T.P_require_checks, q_require_checks)]
section
variable {P : Program} {w : World} {K : PySem.W.Frag} {mg : Str → Option Value} {base : Heap}
def spo_Ldraw (K : PySem.W.Frag) (cs : Cds) : Sp := sp2 fun v m H Q => ∃ (W : Addr) (k : Nat), v = .ref W ∧ m = .int k ∧ Wl [.int 3] H W ∧ 0 < k ∧ k < 1073741824 ∧ ∀ (r : Nat) (H' : Hp), r < k → Sx W H H' → Wl [.int 3] H' W → Q (.int r) H'
abbrev sp_Ldraw (K : PySem.W.Frag) (cs : Cds) : Sp := spo_Ldraw K cs
theorem ok_Ldraw (T : Txt K mg base) : FnG P w K mg base 1 T.f_Ldraw T.fd_Ldraw ["_law_well_here", "_law_many"] (sp_Ldraw K T.cs) := by
  refine okG T.F_Ldraw sc_Ldraw len2 (fun cdv A outer s H vs Q hgd hr h => ?_)
  obtain ⟨a0, a1, rfl, h⟩ := h
  refine ⟨_, (pss_cons (ps_if (pt_cmpR op_gt (pe_ix ix_list (pv 0) pe_int (fun _ _ => rfl)) pe_int (nomark _)) (pss_cons (ps_asg (pe_callB cv_divmod (by rfl) T.b_divmod (by decide +kernel) (pa_cons (pe_ix ix_list (pv 0) pe_int (fun _ _ => rfl)) (pa_cons (pv 1) pa_nil))) (pg_tup (by rfl) (pgs_cons (pg_sub (pv 0) pe_int set_list) (pgs_cons (pg_name (i := 2) sc_Ldraw.nd rfl (.inl rfl)) pgs_nil))))
      (pss_one (ps_ret (pv 2)))) pss_nil)
    (pss_cons (ps_asg (pe_op op_add (pe_ix ix_list (pv 0) pe_int (fun _ _ => rfl)) pe_int) (pg_sub (pv 0) pe_int set_list))
    (pss_cons (ps_set (i := 3) sc_Ldraw.nd rfl (.inl rfl) (pe_op op_modN (pe_callTy cv_int (by rfl) T.b_int (by decide +kernel) (pa_cons (pe_op op_add (pe_ix ix_list (pv 0) pe_int (fun _ _ => rfl)) (pe_op op_mul pe_int (pe_ix ix_list (pv 0) pe_int (fun _ _ => rfl)))) pa_nil)) pe_int))
    (pss_cons (ps_asg (pe_op op_modN (pe_callTy cv_int (by rfl) T.b_int (by decide +kernel) (pa_cons (pe_op op_add (pe_op op_mul (pv 3) (pe_op op_add (pe_op op_modN (pe_callTy cv_int (by rfl) T.b_int (by decide +kernel) (pa_cons (pv 3) pa_nil)) pe_int) pe_int)) (pe_op op_mul pe_int (pe_ix ix_list (pv 0) pe_int (fun _ _ => rfl)))) pa_nil)) pe_int) (pg_sub (pv 0) pe_int set_list))
    (pss_one (ps_ret (pe_op op_modN (pe_callTy cv_int (by rfl) T.b_int (by decide +kernel) (pa_cons (pe_op op_fdivN (pe_ix ix_list (pv 0) pe_int (fun _ _ => rfl)) pe_int) pa_nil)) (pv 1)))))))), ?_⟩
  rw [show L2.start N_Ldraw [a0, a1] = [some a0, some a1, none, none] from rfl]
  obtain ⟨W, k, rfl, rfl, ⟨a, b, c, hW⟩, hk, hk2, q⟩ := h
  walk_at "vv"
  refine v_ixL (sqL_of hW) rfl ?_
  walk_at "vv"
  refine v_ifd (fun c0 => ?_) (fun c0 => ?_)
  · walk_at "vv"
    refine v_ixL (sqL_of hW) rfl ?_
    walk_at "vv"
    refine v_div ⟨by omega, PyProof.noPylong_small (by omega)⟩ (fun p hp => ?_)
    have hpW : W ≠ p := ne_of_none hW hp
    refine v_gtup (sqT_of upd_same) rfl ?_
    walk_at "vv"
    refine v_setL (by rw [upd_ne hpW]; exact hW) rfl ?_
    walk_at "vv"
    obtain ⟨n, hn⟩ := natOf (Int.emod_nonneg a (b := (k : Int)) (by omega))
    have hlt := Int.emod_lt_of_pos a (b := (k : Int)) (by omega)
    rw [hn] at hlt ⊢
    exact q n _ (by omega) ((Sx.new hp).trans Sx.mut) ⟨_, _, _, upd_same⟩
  · walk_at "vv"
    refine v_ixL (sqL_of hW) rfl ?_
    walk_at "vv"
    refine v_setL hW rfl ?_
    walk_at "vv"
    refine v_ixL (sqL_of upd_same) rfl ?_
    walk_at "vv"
    refine v_ixL (sqL_of upd_same) rfl ?_
    walk_at "vv"
    refine v_ixL (sqL_of upd_same) rfl ?_
    walk_at "vv"
    refine v_setL upd_same rfl ?_
    walk_at "vv"
    refine v_ixL (sqL_of upd_same) rfl ?_
    walk_at "vv"
    refine v_modN hk (fun r hr => ?_)
    exact q r _ hr (Sx.trans Sx.mut Sx.mut) ⟨_, _, _, upd_same⟩
theorem gv_first_wrong (T : Txt K mg base) (A : Around) (stk : List Env) (cdv : Value) (q : Str) : Gives2 P w K mg base A stk N_first_wrong "first_wrong" (defScope s_first_wrong) T.f_first_wrong cdv (defBody s_first_wrong) "is_right" q (TTfw K) := by
  intro f c' s H v0 Q tl act hco h
  refine ⟨_, (pss_cons (ps_for PassesOwn.never rfl (pi_enq (by rfl) T.b_enumerate (pa_cons (pv 0) pa_nil)) (pg_tup (by rfl) (pgs_cons (pg_name (i := 2) sc_first_wrong.nd rfl (.inl rfl)) (pgs_cons (pg_name (i := 3) sc_first_wrong.nd rfl (.inl rfl)) pgs_nil)))
      (pss_one (ps_if (pt_not (pt_val (act _ _ _ _ (pv 3) rfl))) (pss_one (ps_ret (pv 2))) pss_nil)))
    (pss_one (ps_ret pe_non))), ?_⟩
  rw [show L2.start N_first_wrong [v0, V.ref f] = [some v0, some (.ref f), none, none] from rfl]
  obtain ⟨p, xs, bs, rfl, hT, hb, hx, q⟩ := h
  walk_at "vv"
  refine v_iEnq ?_
  walk_at "vv"
  refine ⟨p, xs, rfl, hT, ?_⟩
  refine for_enq (xs := xs) (fun i σ H' => ∃ y1 y2 : Option V, σ = [some (.ref p), some (.ref f), y1, y2] ∧ Same H H' ∧ fwV 0 bs = fwV i (bs.drop i)) ⟨none, none, rfl, fun _ _ e => e, rfl⟩ ?_ ?_ ?_
  · rintro i σ H' _ ⟨y1, y2, rfl, s1, _⟩
    exact Same.seqT s1 hT
  · rintro i x σ H1 t H2 hi ⟨y1, y2, rfl, s1, hf⟩ ht s2 e2
    have hlt : i < bs.length := by rw [hb]; exact (List.getElem?_eq_some_iff.mp hi).1
    have hbi : bs[i]? = some bs[i] := List.getElem?_eq_getElem hlt
    generalize bs[i] = b at hbi
    have sx : Same H H2 := fun b o e => s2 _ _ (s1 _ _ e)
    refine v_gtup (sqT_of e2) rfl ?_
    walk_at "vv"
    refine ⟨rfl, ?_⟩
    walk_at "vv"
    refine ⟨sx _ _ hco, hx i x b H2 hi hbi sx _ fun H3 s3 => ?_⟩
    have fs := fw_step hbi
    cases b with
    | true =>
      walk_at "vv"
      exact ⟨_, _, rfl, fun b o e => s3 _ _ (sx _ _ e), hf.trans fs⟩
    | false =>
      walk_at "vv"
      have := q H3 fun b o e => s3 _ _ (sx _ _ e)
      rw [hf, fs] at this
      exact this
  · rintro σ H1 ⟨y1, y2, rfl, s1, hf⟩
    dsimp only
    walk_at "vv"
    have := q H1 s1
    rw [hf, ← hb, List.drop_length] at this
    exact this
def spo_is_whole (K : PySem.W.Frag) (cs : Cds) : Sp := sp1 fun v H Q => ∃ i : Int, v = .int i ∧ Q (.bl true) H
abbrev sp_is_whole (K : PySem.W.Frag) (cs : Cds) : Sp := spo_is_whole K cs
theorem ok_is_whole (T : Txt K mg base) : FnG P w K mg base 1 T.f_is_whole T.fd_is_whole ["value"] (sp_is_whole K T.cs) := by
  refine okG T.F_is_whole sc_is_whole len1 (fun cdv A outer s H vs Q hgd hr h => ?_)
  obtain ⟨a0, rfl, h⟩ := h
  refine ⟨_, (pss_one (ps_ret (pe_and (pe_callB call_isi (by rfl) T.b_isinstance (by decide +kernel) (pa_cons (pv 0) (pa_cons (pe_bltn (v := .ty "int") (by rfl) T.b_int (by decide +kernel) rfl) pa_nil))) (pe_one (pe_not (pe_callB call_isi (by rfl) T.b_isinstance (by decide +kernel) (pa_cons (pv 0) (pa_cons (pe_bltn (v := .ty "bool") (by rfl) T.b_bool (by decide +kernel) rfl) pa_nil)))))))), ?_⟩
  rw [show L2.start N_is_whole [a0] = [some a0] from rfl]
  obtain ⟨i, rfl, q⟩ := h
  walk_at "vv"
  exact q
def spo_is_from (K : PySem.W.Frag) (cs : Cds) : Sp := sp2 fun v l H Q => ∃ i j : Int, v = .int i ∧ l = .int j ∧ Q (.bl (decide (j ≤ i))) H
abbrev sp_is_from (K : PySem.W.Frag) (cs : Cds) : Sp := spo_is_from K cs
theorem ok_is_from (T : Txt K mg base) : FnG P w K mg base 2 T.f_is_from T.fd_is_from ["value", "least"] (sp_is_from K T.cs) := by
  refine okG T.F_is_from sc_is_from len2 (fun cdv A outer s H vs Q hgd hr h => ?_)
  obtain ⟨a0, a1, rfl, h⟩ := h
  refine ⟨_, (pss_one (ps_ret (pe_and (pe_callG (ok_is_whole T) hgd (hr.mono (by decide)) (by rfl) T.g_is_whole T.F_is_whole.kp T.bi_is_whole .nil (pa_cons (pv 0) pa_nil)) (pe_one (pe_cmpR op_ge (pv 0) (pv 1) (nomark _)))))), ?_⟩
  rw [show L2.start N_is_from [a0, a1] = [some a0, some a1] from rfl]
  obtain ⟨i, j, rfl, rfl, q⟩ := h
  walk_at "vv"
  refine c1 ⟨i, rfl, ?_⟩
  walk_at "vv"
  exact q
def spo_require_checks (K : PySem.W.Frag) (cs : Cds) : Sp := sp1 fun v H Q => ∃ (p : Addr) (ns : List Nat) (m : Nat), v = .ref p ∧ SqT K H p (ns.map vN) ∧ ns.length = 2 ^ m ∧ m ≤ 8 ∧ Tb cs H ∧ ∀ H', Ex cs H H' → Q .non H'
abbrev sp_require_checks (K : PySem.W.Frag) (cs : Cds) : Sp := spo_require_checks K cs
theorem ok_require_checks (T : Txt K mg base) : FnG P w K mg base 5 T.f_require_checks T.fd_require_checks ["checks"] (sp_require_checks K T.cs) := by
  refine okC T.FC_require_checks sc_require_checks len1 (fun A outer s H vs Q hgd hr h => ?_)
  obtain ⟨a0, rfl, h⟩ := h
  refine ⟨_, (pss_cons (ps_if (PW.pt (pw_or (pt_not (pt_val (pe_callB call_isi (by rfl) T.b_isinstance (by decide +kernel) (pa_cons (pv 0) (pa_cons (pe_bltn (v := .ty "tuple") (by rfl) T.b_tuple (by decide +kernel) rfl) pa_nil))))) (pw_or1 (pt_cmpR op_notIn_seq (pe_callB cv_len (by rfl) T.b_len PySem.boot_len (pa_cons (pv 0) pa_nil)) (pe_glob (v := .ref T.v_BOOK_SIZES) rfl T.c_BOOK_SIZES rfl) rfl)))) (pss_one ps_never) pss_nil)
    (pss_cons (ps_set (i := 1) sc_require_checks.nd rfl (.inl rfl) (pe_lamcall2 (a := "check") (k := 2) (T := [(T.P_require_checks, q_require_checks)]) (by rfl) T.g_first_wrong T.F_first_wrong T.bi_first_wrong sc_first_wrong rfl (.inl rfl) (fun cdv => gv_first_wrong T _ _ cdv _) T.TB_require_checks rfl (List.mem_singleton.mpr rfl) (fun p hp _ => by rw [List.mem_singleton.mp hp]; rfl) hgd (hr.mono (by decide)) (lam1_by (sc := defScope s_require_checks) (by decide +kernel)) (show ("check" : Str) ∉ N_require_checks by decide) rfl (fun _ _ _ _ _ _ => rfl) (pv 0) (fun A outer s H f c' hgd hr => (pe_callG (ok_is_from T) hgd (hr.mono (by decide)) (by rfl) T.g_is_from T.F_is_from.kp T.bi_is_from .nil (pa_cons (pv 2) (pa_cons pe_int pa_nil))))))
    (pss_one (ps_if (pt_cmpR op_notN (pv 1) pe_non (nomark _)) (pss_one ps_never) pss_nil)))), ?_⟩
  rw [show L2.start N_require_checks [a0] = [some a0, none] from rfl]
  obtain ⟨p, ns, m, rfl, hT, hl, hm, tb, q⟩ := h
  walk_at "vv"
  refine v_isTup hT ?_
  walk_at "vv"
  refine v_lenT hT ?_
  walk_at "vv"
  refine ⟨_, _, rfl, .inr (T.q_BOOK_SIZES H), rfl, rfl, ?_⟩
  rw [List.length_map, hl, show (!inV (V.int ((2 ^ m : Nat) : Int)) (([1, 2, 4, 8, 16, 32, 64, 128, 256] : List Int).map V.int)) = false by
    have : m = 0 ∨ m = 1 ∨ m = 2 ∨ m = 3 ∨ m = 4 ∨ m = 5 ∨ m = 6 ∨ m = 7 ∨ m = 8 := by omega
    rcases this with h | h | h | h | h | h | h | h | h <;> subst h <;> decide]
  refine ⟨false, rfl, ?_⟩
  walk_at "vv"
  refine v_lam ?_
  walk_at "vv"
  refine v_lamE tb fun H1 ex => ?_
  refine ⟨p, ns.map vN, List.replicate ns.length true, rfl, ex.seqT hT, by simp, fun i x b H2 hx hb s2 Q' q' => ?_, fun H2 s2 => ?_⟩
  · obtain ⟨n, hn, rfl⟩ := vN_get hx
    obtain rfl : b = true := by rw [List.getElem?_replicate] at hb; split at hb <;> simp_all
    walk_at "vv"
    refine c2 ⟨n, 0, rfl, rfl, ?_⟩
    rw [decide_eq_true (show (0 : Int) ≤ (n : Int) by omega)]
    exact q' H2 fun _ _ e => e
  · rw [fwV_all]
    walk_at "vv"
    refine ⟨rfl, ?_⟩
    rw [decide_eq_true rfl]
    walk_at "vv"
    exact q H2 (ex.trans (Ex.of s2))
def spo_lies_within (K : PySem.W.Frag) (cs : Cds) : Sp := sp2 fun v l H Q => ∃ i j : Nat, v = .int i ∧ l = .int j ∧ Q (.bl (decide (i &&& j = i))) H
abbrev sp_lies_within (K : PySem.W.Frag) (cs : Cds) : Sp := spo_lies_within K cs
theorem ok_lies_within (T : Txt K mg base) : FnG P w K mg base 1 T.f_lies_within T.fd_lies_within ["inner", "outer"] (sp_lies_within K T.cs) := by
  refine okG T.F_lies_within sc_lies_within len2 (fun cdv A outer s H vs Q hgd hr h => ?_)
  obtain ⟨a0, a1, rfl, h⟩ := h
  refine ⟨_, (pss_one (ps_ret (pe_cmpR op_eq (pe_op op_and (pv 0) (pv 1)) (pv 0) (nomark _)))), ?_⟩
  rw [show L2.start N_lies_within [a0, a1] = [some a0, some a1] from rfl]
  obtain ⟨i, j, rfl, rfl, q⟩ := h
  walk_at "vv"
  rw [bA, show decide (((i &&& j : Nat) : Int) = (i : Int)) = decide (i &&& j = i) by simp [Int.natCast_inj]]
  exact q
def spo_clash (K : PySem.W.Frag) (cs : Cds) : Sp := sp1 fun v H Q => ∃ (p : Addr) (ns : List Nat) (m : Nat), v = .ref p ∧ SqT K H p (ns.map vN) ∧ ns.length = 2 ^ m ∧ m ≤ 8 ∧ Tb cs H ∧ (∀ H', Ex cs H H' → srch ns ns.length = none → Q .non H') ∧ ∀ (l : Addr) (i o : Nat) H', Ex cs H H' → srch ns ns.length = some (i, o) → H' l = some (.tup [vN i, vN o]) → Q (.ref l) H'
abbrev sp_clash (K : PySem.W.Frag) (cs : Cds) : Sp := spo_clash K cs
theorem ok_clash (T : Txt K mg base) : FnG P w K mg base 6 T.f_clash T.fd_clash ["checks"] (sp_clash K T.cs) := by
  refine okG T.F_clash sc_clash len1 (fun cdv A outer s H vs Q hgd hr h => ?_)
  obtain ⟨a0, rfl, h⟩ := h
  refine ⟨_, (pss_cons (ps_expr (pe_callG (ok_require_checks T) hgd (hr.mono (by decide)) (by rfl) T.g_require_checks T.F_require_checks.kp T.bi_require_checks .nil (pa_cons (pv 0) pa_nil)))
    (pss_cons (ps_for PassesOwn.never rfl (pi_enq (by rfl) T.b_enumerate (pa_cons (pv 0) pa_nil)) (pg_tup (by rfl) (pgs_cons (pg_name (i := 1) sc_clash.nd rfl (.inl rfl)) (pgs_cons (pg_name (i := 2) sc_clash.nd rfl (.inl rfl)) pgs_nil)))
      (pss_one (ps_for PassesOwn.never rfl (pi_range1 rfl T.b_range (pa_cons (pv 1) pa_nil)) (pg_name (i := 3) sc_clash.nd rfl (.inl rfl))
        (pss_one (ps_if (PW.pt (pw_and (pt_val (pe_callG (ok_lies_within T) hgd (hr.mono (by decide)) (by rfl) T.g_lies_within T.F_lies_within.kp T.bi_lies_within .nil (pa_cons (pv 3) (pa_cons (pv 1) pa_nil)))) (pw_and1 (pt_val (pe_callG (ok_lies_within T) hgd (hr.mono (by decide)) (by rfl) T.g_lies_within T.F_lies_within.kp T.bi_lies_within .nil (pa_cons (pe_ix ix_tup (pv 0) (pv 3) (fun _ _ => rfl)) (pa_cons (pv 2) pa_nil))))))) (pss_one (ps_ret (pe_tup (pa_cons (pv 3) (pa_cons (pv 1) pa_nil))))) pss_nil)))))
    (pss_one (ps_ret pe_non)))), ?_⟩
  rw [show L2.start N_clash [a0] = [some a0, none, none, none] from rfl]
  obtain ⟨p, ns, m, rfl, hT, hl, hm, tb, q1, q2⟩ := h
  walk_at "vv"
  refine c1 ⟨p, ns, m, rfl, hT, hl, hm, tb, fun H1 ex => ?_⟩
  walk_at "vv"
  have hT1 := ex.seqT hT
  refine v_iEnq ?_
  walk_at "vv"
  refine ⟨p, _, rfl, hT1, ?_⟩
  refine for_enq (xs := ns.map vN) (fun i σ H' => ∃ y1 y2 y3 : Option V, σ = [some (.ref p), y1, y2, y3] ∧ Same H1 H' ∧ srch ns i = none) ⟨none, none, none, rfl, fun _ _ e => e, rfl⟩ ?_ ?_ ?_
  · rintro i σ H' _ ⟨y1, y2, y3, rfl, s1, _⟩
    exact Same.seqT s1 hT1
  · rintro o x σ H2 t H3 hx ⟨y1, y2, y3, rfl, s2, hn⟩ ht s3 e3
    obtain ⟨co, hco, rfl⟩ := vN_get hx
    have ho : o < ns.length := (List.getElem?_eq_some_iff.mp hco).1
    have s13 : Same H1 H3 := fun b o e => s3 _ _ (s2 _ _ e)
    refine v_gtup (sqT_of e3) rfl ?_
    walk_at "vv"
    have hpow : (2 : Nat) ^ m ≤ 256 := Nat.le_trans (Nat.pow_le_pow_right (by decide) hm) (by decide)
    refine ⟨o, rfl, by omega, by omega, ?_⟩
    refine for_range (lo := 0) (n := o) (fun i σ H' => ∃ y3 : Option V, σ = [some (.ref p), some (vN o), some (vN co), y3] ∧ H' = H3 ∧ inn ns o i = none) ⟨y3, rfl, rfl, rfl⟩ ?_ ?_
    · rintro i σ H4 hi ⟨y3, rfl, rfl, hin⟩
      have hci : ns[i]? = some ns[i] := List.getElem?_eq_getElem (by omega)
      generalize ns[i] = ci at hci
      rw [Int.zero_add]
      walk_at "vv"
      refine c2 ⟨i, o, rfl, rfl, ?_⟩
      have cl : clB ns i o = (decide (i &&& o = i) && decide (ci &&& co = ci)) := by unfold clB; rw [gN_at hci, gN_at hco]
      have sc := inn_succ ns o i
      rw [hin, cl, Option.none_or] at sc
      walk_at "vv"
      refine v_ifd (fun c => ?_) (fun c => ?_)
      · walk_at "vv"
        refine v_ixT (Same.seqT s13 hT1) (atI_nat (j := i) (by rw [List.getElem?_map, hci]; rfl)) ?_
        walk_at "vv"
        refine c2 ⟨ci, co, rfl, rfl, ?_⟩
        rw [decide_eq_true c, Bool.true_and] at sc
        walk_at "vv"
        refine v_ifd (fun cb => ?_) (fun cb => ?_)
        · walk_at "vv"
          refine a_tup (by simp) fun l H5 hl5 s5 e5 => ?_
          rw [decide_eq_true cb, if_pos rfl] at sc
          have fin := srch_at (n := ns.length) hn ho hi (by rw [cl, decide_eq_true c, decide_eq_true cb]; rfl) hin
          exact q2 l i o H5 (ex.trans (Ex.of fun b o e => s5 _ _ (s13 _ _ e))) fin e5
        · rw [decide_eq_false cb, if_neg (by decide)] at sc
          walk_at "vv"
          exact ⟨_, rfl, rfl, sc⟩
      · rw [decide_eq_false c, Bool.false_and, if_neg (by decide)] at sc
        walk_at "vv"
        exact ⟨_, rfl, rfl, sc⟩
    · rintro σ H4 ⟨y3, rfl, rfl, hin⟩
      exact ⟨_, _, _, rfl, s13, by rw [srch_succ, hn, hin]; rfl⟩
  · rintro σ H2 ⟨y1, y2, y3, rfl, s2, hn⟩
    rw [List.length_map] at hn
    dsimp only
    walk_at "vv"
    exact q1 H2 (ex.trans (Ex.of s2)) hn
def spo_Lis_some (K : PySem.W.Frag) (cs : Cds) : Sp := sp1 fun v H Q => ∃ (l : Addr) (ns : List Nat), v = .ref l ∧ H l = some (.lst (ns.map vN)) ∧ ns.length ≤ 256 ∧ Q (.bl (decide (srch ns ns.length ≠ none))) H
abbrev sp_Lis_some (K : PySem.W.Frag) (cs : Cds) : Sp := spo_Lis_some K cs
theorem ok_Lis_some (T : Txt K mg base) : FnG P w K mg base 1 T.f_Lis_some T.fd_Lis_some ["_law_book_here"] (sp_Lis_some K T.cs) := by
  refine okG T.F_Lis_some sc_Lis_some len1 (fun cdv A outer s H vs Q hgd hr h => ?_)
  obtain ⟨a0, rfl, h⟩ := h
  refine ⟨_, (pss_cons (ps_for PassesOwn.never rfl (pi_range1 rfl T.b_range (pa_cons (pe_callB cv_len (by rfl) T.b_len PySem.boot_len (pa_cons (pv 0) pa_nil)) pa_nil)) (pg_name (i := 1) sc_Lis_some.nd rfl (.inl rfl))
      (pss_one (ps_for PassesOwn.never rfl (pi_range1 rfl T.b_range (pa_cons (pv 1) pa_nil)) (pg_name (i := 2) sc_Lis_some.nd rfl (.inl rfl))
        (pss_one (ps_if (PW.pt (pw_and (pt_cmpR op_eq (pe_op op_and (pv 2) (pv 1)) (pv 2) (nomark _)) (pw_and1 (pt_cmpR op_eq (pe_op op_and (pe_ix ix_list (pv 0) (pv 2) (fun _ _ => rfl)) (pe_ix ix_list (pv 0) (pv 1) (fun _ _ => rfl))) (pe_ix ix_list (pv 0) (pv 2) (fun _ _ => rfl)) (nomark _))))) (pss_one (ps_ret pe_bl)) pss_nil)))))
    (pss_one (ps_ret pe_bl))), ?_⟩
  rw [show L2.start N_Lis_some [a0] = [some a0, none, none] from rfl]
  obtain ⟨l, ns, rfl, hl, hm, q⟩ := h
  walk_at "vv"
  refine v_lenL (sqL_of hl) ?_
  walk_at "vv"
  rw [List.length_map]
  refine ⟨ns.length, rfl, by omega, by omega, ?_⟩
  refine for_range (lo := 0) (n := ns.length) (fun i σ H' => ∃ y1 y2 : Option V, σ = [some (.ref l), y1, y2] ∧ H' = H ∧ srch ns i = none) ⟨none, none, rfl, rfl, rfl⟩ ?_ ?_
  · rintro o σ H' ho ⟨y1, y2, rfl, rfl, hn⟩
    have hco : ns[o]? = some ns[o] := List.getElem?_eq_getElem ho
    generalize ns[o] = co at hco
    rw [Int.zero_add]
    walk_at "vv"
    refine ⟨o, rfl, by omega, by omega, ?_⟩
    refine for_range (lo := 0) (n := o) (fun i σ H2 => ∃ y2 : Option V, σ = [some (.ref l), some (vN o), y2] ∧ H2 = H' ∧ inn ns o i = none) ⟨y2, rfl, rfl, rfl⟩ ?_ ?_
    · rintro i σ H2 hi ⟨y2, rfl, rfl, hin⟩
      have hci : ns[i]? = some ns[i] := List.getElem?_eq_getElem (by omega)
      generalize ns[i] = ci at hci
      rw [Int.zero_add]
      have cl : clB ns i o = (decide (i &&& o = i) && decide (ci &&& co = ci)) := by unfold clB; rw [gN_at hci, gN_at hco]
      have sc := inn_succ ns o i
      rw [hin, cl, Option.none_or] at sc
      walk_at "vv"
      rw [bA, nd]
      walk_at "vv"
      refine v_ifd (fun c => ?_) (fun c => ?_)
      · walk_at "vv"
        refine v_ixL (sqL_of hl) (atI_nat (j := i) (by rw [List.getElem?_map, hci]; rfl)) ?_
        walk_at "vv"
        refine v_ixL (sqL_of hl) (atI_nat (j := o) (by rw [List.getElem?_map, hco]; rfl)) ?_
        walk_at "vv"
        refine v_ixL (sqL_of hl) (atI_nat (j := i) (by rw [List.getElem?_map, hci]; rfl)) ?_
        walk_at "vv"
        rw [bA, nd]
        rw [decide_eq_true c, Bool.true_and] at sc
        refine v_ifd (fun cb => ?_) (fun cb => ?_)
        · walk_at "vv"
          have so := srch_at (n := ns.length) hn ho hi (by rw [cl, decide_eq_true c, decide_eq_true cb]; rfl) hin
          rw [so, show decide (some (i, o) ≠ none) = true from rfl] at q
          exact q
        · rw [decide_eq_false cb, if_neg (by decide)] at sc
          walk_at "vv"
          exact ⟨_, rfl, rfl, sc⟩
      · rw [decide_eq_false c, Bool.false_and, if_neg (by decide)] at sc
        walk_at "vv"
        exact ⟨_, rfl, rfl, sc⟩
    · rintro σ H2 ⟨y2, rfl, rfl, hin⟩
      exact ⟨_, _, rfl, rfl, by rw [srch_succ, hn, hin]; rfl⟩
  · rintro σ H' ⟨y1, y2, rfl, rfl, hn⟩
    dsimp only
    walk_at "vv"
    rw [hn, show decide ((none : Option (Nat × Nat)) ≠ none) = false from rfl] at q
    exact q
def spo_Lclashes (K : PySem.W.Frag) (cs : Cds) : Sp := sp3 fun b i j H Q => ∃ (l : Addr) (ns : List Nat) (x y : Nat), b = .ref l ∧ i = vN x ∧ j = vN y ∧ H l = some (.lst (ns.map vN)) ∧ x < y ∧ y < ns.length ∧ clB ns x y = true ∧ Q (.bl true) H
abbrev sp_Lclashes (K : PySem.W.Frag) (cs : Cds) : Sp := spo_Lclashes K cs
theorem ok_Lclashes (T : Txt K mg base) : FnG P w K mg base 1 T.f_Lclashes T.fd_Lclashes ["_law_book_here", "_law_one", "_law_two"] (sp_Lclashes K T.cs) := by
  refine okG T.F_Lclashes sc_Lclashes len3 (fun cdv A outer s H vs Q hgd hr h => ?_)
  obtain ⟨a0, a1, a2, rfl, h⟩ := h
  refine ⟨_, (pss_one (ps_ret (pe_and (pe_cmpR op_ne (pv 1) (pv 2) (nomark _)) (pe_and (pe_cmpR op_eq (pe_op op_and (pv 1) (pv 2)) (pv 1) (nomark _)) (pe_one (pe_cmpR op_eq (pe_op op_and (pe_ix ix_list (pv 0) (pv 1) (fun _ _ => rfl)) (pe_ix ix_list (pv 0) (pv 2) (fun _ _ => rfl))) (pe_ix ix_list (pv 0) (pv 1) (fun _ _ => rfl)) (nomark _))))))), ?_⟩
  rw [show L2.start N_Lclashes [a0, a1, a2] = [some a0, some a1, some a2] from rfl]
  obtain ⟨l, ns, x, y, rfl, rfl, rfl, hl, hxy, hy, hc, q⟩ := h
  have hcx : ns[x]? = some ns[x] := List.getElem?_eq_getElem (by omega)
  have hcy : ns[y]? = some ns[y] := List.getElem?_eq_getElem hy
  generalize ns[x] = cx at hcx
  generalize ns[y] = cy at hcy
  unfold clB at hc
  rw [gN_at hcx, gN_at hcy] at hc
  simp only [Bool.and_eq_true, decide_eq_true_eq] at hc
  walk_at "vv"
  refine v_ifd (fun c => ?_) (fun c => absurd (by omega) c)
  walk_at "vv"
  rw [bA, nd, decide_eq_true hc.1]
  walk_at "vv"
  refine v_ixL (sqL_of hl) (atI_nat (j := x) (by rw [List.getElem?_map, hcx]; rfl)) ?_
  walk_at "vv"
  refine v_ixL (sqL_of hl) (atI_nat (j := y) (by rw [List.getElem?_map, hcy]; rfl)) ?_
  walk_at "vv"
  refine v_ixL (sqL_of hl) (atI_nat (j := x) (by rw [List.getElem?_map, hcx]; rfl)) ?_
  walk_at "vv"
  rw [bA, nd, decide_eq_true hc.2]
  exact q
def spo_Lis_index (K : PySem.W.Frag) (cs : Cds) : Sp := sp2 fun v m H Q => ∃ i k : Nat, v = vN i ∧ m = .int k ∧ i < k ∧ Q (.bl true) H
abbrev sp_Lis_index (K : PySem.W.Frag) (cs : Cds) : Sp := spo_Lis_index K cs
theorem ok_Lis_index (T : Txt K mg base) : FnG P w K mg base 1 T.f_Lis_index T.fd_Lis_index ["_law_thing", "_law_many"] (sp_Lis_index K T.cs) := by
  refine okG T.F_Lis_index sc_Lis_index len2 (fun cdv A outer s H vs Q hgd hr h => ?_)
  obtain ⟨a0, a1, rfl, h⟩ := h
  refine ⟨_, (pss_one (ps_ret (pe_and (pe_callB call_isi (by rfl) T.b_isinstance (by decide +kernel) (pa_cons (pv 0) (pa_cons (pe_bltn (v := .ty "int") (by rfl) T.b_int (by decide +kernel) rfl) pa_nil))) (pe_and (pe_not (pe_callB call_isi (by rfl) T.b_isinstance (by decide +kernel) (pa_cons (pv 0) (pa_cons (pe_bltn (v := .ty "bool") (by rfl) T.b_bool (by decide +kernel) rfl) pa_nil)))) (pe_one (pe_chain op_le op_lt pe_int (pv 0) (pv 1))))))), ?_⟩
  rw [show L2.start N_Lis_index [a0, a1] = [some a0, some a1] from rfl]
  obtain ⟨i, k, rfl, rfl, hi, q⟩ := h
  walk_at "vv"
  refine v_ifd (fun c => ?_) (fun c => absurd (by omega) c)
  walk_at "vv"
  rw [decide_eq_true (show (i : Int) < (k : Int) by omega)]
  exact q
def spo_Lholds (K : PySem.W.Frag) (cs : Cds) : Sp := sp2 fun b m H Q => ∃ (l : Addr) (ns : List Nat) (k : Nat), b = .ref l ∧ m = .int k ∧ H l = some (.lst (ns.map vN)) ∧ ns.length = 2 ^ k ∧ k ≤ 8 ∧ Tb cs H ∧ ∀ H', Ex cs H H' → Q (.bl true) H'
abbrev sp_Lholds (K : PySem.W.Frag) (cs : Cds) : Sp := spo_Lholds K cs
theorem ok_Lholds (T : Txt K mg base) : FnG P w K mg base 7 T.f_Lholds T.fd_Lholds ["_law_book_here", "_law_many"] (sp_Lholds K T.cs) := by
  refine okG T.F_Lholds sc_Lholds len2 (fun cdv A outer s H vs Q hgd hr h => ?_)
  obtain ⟨a0, a1, rfl, h⟩ := h
  refine ⟨_, (pss_cons (ps_par (i := 2) (j := 3) (by rfl) sc_Lholds.nd rfl rfl (by decide) rfl rfl (pa_cons (pe_callG (ok_clash T) hgd (hr.mono (by decide)) (by rfl) T.g_clash T.F_clash.kp T.bi_clash .nil (pa_cons (pe_callTy cv_tuple (by rfl) T.b_tuple (by decide +kernel) (pa_cons (pv 0) pa_nil)) pa_nil)) (pa_cons (pe_callG (ok_Lis_some T) hgd (hr.mono (by decide)) (by rfl) T.g_Lis_some T.F_Lis_some.kp T.bi_Lis_some .nil (pa_cons (pv 0) pa_nil)) pa_nil)) (by rfl))
    (pss_cons (ps_if (PW.pt (pw_and (pt_cmpR op_lt (pe_lenSetG (by rfl) T.b_len (by rfl) T.b_set (pv 0) rfl) (pe_op op_add (pv 1) pe_int) (nomark _)) (pw_and1 (pt_not (pt_val (pv 3)))))) (pss_one (ps_ret pe_bl)) pss_nil)
    (pss_cons (ps_if (pt_not (pt_val (pv 3))) (pss_one (ps_ret (pe_and (pe_cmpR op_isN (pv 2) pe_non (nomark _)) (pe_one (pe_cmpR op_isN (pe_callGK0 (ok_clash T) hgd (hr.mono (by decide)) (by rfl) T.g_clash T.F_clash.kp (T.kb_clash_0_checks) (pk_cons (pe_callTy cv_tuple (by rfl) T.b_tuple (by decide +kernel) (pa_cons (pv 0) pa_nil)) pk_nil)) pe_non (nomark _)))))) pss_nil)
    (pss_cons (ps_if (PW.pt (pw_or (pt_not (pt_val (pe_callB call_isi (by rfl) T.b_isinstance (by decide +kernel) (pa_cons (pv 2) (pa_cons (pe_bltn (v := .ty "tuple") (by rfl) T.b_tuple (by decide +kernel) rfl) pa_nil))))) (pw_or (pt_cmpR op_ne (pe_callB cv_len (by rfl) T.b_len PySem.boot_len (pa_cons (pv 2) pa_nil)) pe_int (nomark _)) (pw_or1 (pt_not (pt_val (pe_callB (cr_all rfl) (by rfl) T.b_all (by decide +kernel) (pa_cons (pe_lc (own := [("_law_each", 4)]) (g := gName 4) (tt := tYes) (by rfl) sc_Lholds.nd (pi_tup (pv 2)) (blkOk_by (own := [("_law_each", 4)]) (N := N_Lholds) (sc := defScope s_Lholds) (by decide +kernel)) (fun _ _ _ _ _ => pg_name (i := 4) sc_Lholds.nd rfl (Or.inl rfl)) (fun _ _ _ _ _ => pts_nil) (fun _ _ _ _ _ => (pe_callG (ok_Lis_index T) hgd (hr.mono (by decide)) (by rfl) T.g_Lis_index T.F_Lis_index.kp T.bi_Lis_index .nil (pa_cons (pv 4) (pa_cons (pe_callB (show CallR _ (.builtin "len") (Vc.rLen K) from cv_len) (by rfl) T.b_len PySem.boot_len (pa_cons (pv 0) pa_nil)) pa_nil))))) pa_nil)))))))) (pss_one (ps_ret pe_bl)) pss_nil)
    (pss_one (ps_ret (pe_and (pe_callG (ok_Lclashes T) hgd (hr.mono (by decide)) (by rfl) T.g_Lclashes T.F_Lclashes.kp T.bi_Lclashes .nil (pa_cons (pv 0) (pa_cons (pe_ix ix_tup (pv 2) pe_int (fun _ _ => rfl)) (pa_cons (pe_ix ix_tup (pv 2) pe_int (fun _ _ => rfl)) pa_nil)))) (pe_one (pe_cmpR op_eq (pe_callB (cr_repr hgd hr.units) (by rfl) T.b_repr (by decide +kernel) (pa_cons (pe_callGK0 (ok_clash T) hgd (hr.mono (by decide)) (by rfl) T.g_clash T.F_clash.kp (T.kb_clash_0_checks) (pk_cons (pe_callTy cv_tuple (by rfl) T.b_tuple (by decide +kernel) (pa_cons (pv 0) pa_nil)) pk_nil)) pa_nil)) (pe_callB (cr_repr hgd hr.units) (by rfl) T.b_repr (by decide +kernel) (pa_cons (pv 2) pa_nil)) (nomark _)))))))))), ?_⟩
  rw [show L2.start N_Lholds [a0, a1] = [some a0, some a1, none, none, none] from rfl]
  obtain ⟨l, ns, k, rfl, rfl, hl, hn, hk, tb, q⟩ := h
  have hpow : (2 : Nat) ^ k ≤ 256 := Nat.le_trans (Nat.pow_le_pow_right (by decide) hk) (by decide)
  walk_at "vv"
  refine a_tupL (sqL_of hl) fun t H1 ht s1 e1 => ?_
  walk_at "vv"
  refine c1 ⟨t, ns, k, rfl, sqT_of e1, hn, hk, tb.same s1, fun H2 x2 hs => ?_, fun l2 i o H2 x2 hs e2 => ?_⟩
  · have ex2 := (Ex.of s1).trans x2
    walk_at "vv"
    refine c1 ⟨l, ns, rfl, ex2.lst hl, by omega, ?_⟩
    rw [hs, show decide ((none : Option (Nat × Nat)) ≠ none) = false from rfl]
    walk_at "vv"
    refine v_lenSet ?_
    walk_at "vv"
    refine ⟨l, ns.map fun n : Nat => (n : Int), rfl, by rw [List.map_map]; exact sqL_of (ex2.lst hl), by rw [List.length_map]; omega, ?_⟩
    have dl := dist_le hn hs
    walk_at "vv"
    rw [show decide (((dist (ns.map fun n : Nat => (n : Int)) : Nat) : Int) < (k : Int) + 1) = false from decide_eq_false (by omega)]
    walk_at "vv"
    refine ⟨rfl, ?_⟩
    rw [decide_eq_true rfl]
    walk_at "vv"
    refine a_tupL (sqL_of (ex2.lst hl)) fun t2 H3 ht2 s3 e3 => ?_
    walk_at "vv"
    refine k1 ⟨t2, ns, k, rfl, sqT_of e3, hn, hk, (ex2.2 tb).same s3, fun H4 x4 _ => ?_, fun l4 i o H4 x4 hs4 _ => by rw [hs] at hs4; cases hs4⟩
    walk_at "vv"
    refine ⟨rfl, ?_⟩
    rw [decide_eq_true rfl]
    exact q H4 (ex2.trans ((Ex.of s3).trans x4))
  · have ex2 := (Ex.of s1).trans x2
    have hso := srch_some hs
    walk_at "vv"
    refine c1 ⟨l, ns, rfl, ex2.lst hl, by omega, ?_⟩
    rw [hs, show decide ((some (i, o)) ≠ none) = true from rfl]
    walk_at "vv"
    refine v_lenSet ?_
    walk_at "vv"
    refine ⟨l, ns.map fun n : Nat => (n : Int), rfl, by rw [List.map_map]; exact sqL_of (ex2.lst hl), by rw [List.length_map]; omega, ?_⟩
    walk_at "vv"
    refine v_tandJ (d := false) (fun _ Q' q' => ?_) ?_
    · walk_at "vv"
      exact q'
    rw [Bool.and_false]
    walk_at "vv"
    refine v_isTup (sqT_of e2) ?_
    walk_at "vv"
    refine v_lenT (sqT_of e2) ?_
    walk_at "vv"
    rw [show decide ((([vN i, vN o].length : Nat) : Int) ≠ 2) = false from rfl]
    walk_at "vv"
    refine ⟨⟨_, sqT_of e2⟩, fun D hD => ?_⟩
    refine lc_tup (xs := [vN i, vN o]) (fun j H3 => H3 D = some (.lst (List.replicate j (.bl true))) ∧ Same H2 H3) ⟨upd_same, same_new hD⟩ (fun j H3 _ h => sqT_of (h.2 _ _ e2)) ?_ ?_
    · rintro j x H3 hx ⟨hD3, s3⟩
      obtain ⟨n, rfl, hn2⟩ : ∃ n : Nat, x = vN n ∧ n < ns.length := by
        have := List.mem_of_getElem? hx
        simp only [List.mem_cons, List.not_mem_nil, or_false] at this
        rcases this with h | h
        · exact ⟨i, h, by omega⟩
        · exact ⟨o, h, by omega⟩
      have hj : j < 2 := (List.getElem?_eq_some_iff.mp hx).1
      walk_at "vv"
      refine ⟨rfl, ?_⟩
      walk_at "vv"
      refine v_lenL (sqL_of (s3 _ _ (ex2.lst hl))) ?_
      rw [List.length_map]
      walk_at "vv"
      refine c2 ⟨n, ns.length, rfl, rfl, hn2, ?_⟩
      refine ⟨_, hD3, by rw [List.length_replicate]; exact small1000 (by omega), ?_, same_own s3 hD⟩
      rw [upd_same, rep_more]
    · rintro H3 ⟨hD3, s3⟩
      walk_at "vv"
      refine v_allT hD3 ?_
      walk_at "vv"
      have e23 := s3 _ _ e2
      refine v_ixT (sqT_of e23) rfl ?_
      walk_at "vv"
      refine v_ixT (sqT_of e23) rfl ?_
      walk_at "vv"
      refine c3 ⟨l, ns, i, o, rfl, rfl, rfl, s3 _ _ (ex2.lst hl), hso.1, hso.2.1, hso.2.2, ?_⟩
      walk_at "vv"
      have ex3 := ex2.trans (Ex.of s3)
      refine a_tupL (sqL_of (ex3.lst hl)) fun t2 H4 ht2 s4 e4 => ?_
      walk_at "vv"
      refine k1 ⟨t2, ns, k, rfl, sqT_of e4, hn, hk, (ex3.2 tb).same s4, fun H5 x5 hs5 => (by rw [hs] at hs5; cases hs5), fun l5 i5 o5 H5 x5 hs5 e5 => ?_⟩
      rw [hs] at hs5
      cases hs5
      have lf : ∀ d ∈ [PyData.int (i : Int), .int (o : Int)], Leaf d := fun d hd => by
        simp only [List.mem_cons, List.not_mem_nil, or_false] at hd
        have e : (256 : Nat) < 2 ^ 1920 := by decide +kernel
        rcases hd with rfl | rfl <;> exact leaf_int (by rw [Int.natAbs_natCast]; omega)
      walk_at "vv"
      refine v_repr (d := .tuple [.int (i : Int), .int (o : Int)]) (.tup (sqT_of e5) (.cons (.int _) (.cons (.int _) .nil))) (shw_tuple lf (by simp)) ?_
      walk_at "vv"
      refine v_repr (d := .tuple [.int (i : Int), .int (o : Int)]) (.tup (sqT_of (x5.tup (s4 _ _ e23))) (.cons (.int _) (.cons (.int _) .nil))) (shw_tuple lf (by simp)) ?_
      walk_at "vv"
      exact q H5 (ex3.trans ((Ex.of s4).trans x5))
def spo_Lnoughts (K : PySem.W.Frag) (cs : Cds) : Sp := sp2 fun v m H Q => ∃ n k : Nat, v = .int n ∧ m = .int k ∧ k ≤ 8 ∧ ∀ H', Same H H' → Q (.int (nou n k : Nat)) H'
abbrev sp_Lnoughts (K : PySem.W.Frag) (cs : Cds) : Sp := spo_Lnoughts K cs
theorem ok_Lnoughts (T : Txt K mg base) : FnG P w K mg base 1 T.f_Lnoughts T.fd_Lnoughts ["_law_number", "_law_many"] (sp_Lnoughts K T.cs) := by
  refine okG T.F_Lnoughts sc_Lnoughts len2 (fun cdv A outer s H vs Q hgd hr h => ?_)
  obtain ⟨a0, a1, rfl, h⟩ := h
  refine ⟨_, (pss_one (ps_ret (pe_callB (cr_sum rfl) (by rfl) T.b_sum (by decide +kernel) (pa_cons (pe_lc (own := [("_law_at", 2)]) (g := gName 2) (tt := tYes) (by rfl) sc_Lnoughts.nd (pi_range1 rfl T.b_range (pa_cons (pv 1) pa_nil)) (blkOk_by (own := [("_law_at", 2)]) (N := N_Lnoughts) (sc := defScope s_Lnoughts) (by decide +kernel)) (fun _ _ _ _ _ => pg_name (i := 2) sc_Lnoughts.nd rfl (Or.inl rfl)) (fun _ _ _ _ _ => pts_nil) (fun _ _ _ _ _ => (pe_op op_sub pe_int (pe_op op_and (pe_op op_shr (pv 0) (pv 2)) pe_int)))) pa_nil)))), ?_⟩
  rw [show L2.start N_Lnoughts [a0, a1] = [some a0, some a1, none] from rfl]
  obtain ⟨n, k, rfl, rfl, hk, q⟩ := h
  walk_at "vv"
  refine ⟨k, rfl, by omega, by omega, fun D hD => ?_⟩
  refine lc_range (lo := 0) (n := k) (fun i H2 => H2 D = some (.lst (((List.range i).map fun a => (1 : Int) - ((n / 2 ^ a % 2 : Nat) : Int)).map V.int)) ∧ Same H H2) ⟨upd_same, same_new hD⟩ ?_ ?_
  · rintro i H2 hi ⟨hD2, s2⟩
    walk_at "vv"
    refine ⟨rfl, ?_⟩
    rw [Int.zero_add]
    walk_at "vv"
    refine v_I (show (0 : Int) ≤ (i : Int) by omega) ?_
    rw [shrN]
    walk_at "vv"
    rw [show ((1 : Int)) = ((1 : Nat) : Int) from rfl, bA, Nat.and_one_is_mod]
    refine ⟨_, hD2, by rw [List.length_map, List.length_map, List.length_range]; exact small1000 (by omega), ?_, same_own s2 hD⟩
    rw [upd_same, List.range_succ, List.map_append, List.map_append]
    rfl
  · rintro H2 ⟨hD2, s2⟩
    walk_at "vv"
    refine v_sum (sqL_of hD2) ?_
    have e : ∀ j : Nat, ((List.range j).map fun a => (1 : Int) - ((n / 2 ^ a % 2 : Nat) : Int)).sum = ((nou n j : Nat) : Int) := fun j => by
      induction j with
      | zero => rfl
      | succ j ih =>
        rw [List.range_succ, List.map_append, List.sum_append, ih, nou_succ]
        have := Nat.mod_lt (n / 2 ^ j) (show 0 < 2 by decide)
        rw [List.map_cons, List.map_nil, List.sum_cons, List.sum_nil]
        generalize n / 2 ^ j % 2 = b at this ⊢
        omega
    rw [e]
    exact q H2 s2
def spo_Lbook (K : PySem.W.Frag) (cs : Cds) : Sp := sp2 fun v m H Q => ∃ (W : Addr) (k : Nat), v = .ref W ∧ m = .int k ∧ k ≤ 8 ∧ Wl [.int 3] H W ∧ ∀ (l : Addr) (ns : List Nat) (H' : Hp), ns.length = 2 ^ k → H' l = some (.lst (ns.map vN)) → Sx W H H' → Wl [.int 3] H' W → Q (.ref l) H'
abbrev sp_Lbook (K : PySem.W.Frag) (cs : Cds) : Sp := spo_Lbook K cs
theorem ok_Lbook (T : Txt K mg base) : FnG P w K mg base 2 T.f_Lbook T.fd_Lbook ["_law_well_here", "_law_many"] (sp_Lbook K T.cs) := by
  refine okG T.F_Lbook sc_Lbook len2 (fun cdv A outer s H vs Q hgd hr h => ?_)
  obtain ⟨a0, a1, rfl, h⟩ := h
  refine ⟨_, (pss_cons (ps_asg (pe_tup (pa_cons (pe_op op_shl pe_int (pv 1)) (pa_cons (pe_callG (ok_Ldraw T) hgd (hr.mono (by decide)) (by rfl) T.g_Ldraw T.F_Ldraw.kp T.bi_Ldraw .nil (pa_cons (pv 0) (pa_cons pe_int pa_nil))) pa_nil))) (pg_tup (by rfl) (pgs_cons (pg_name (i := 2) sc_Lbook.nd rfl (.inr rfl)) (pgs_cons (pg_name (i := 3) sc_Lbook.nd rfl (.inr rfl)) pgs_nil))))
    (pss_cons (ps_if (pt_cmpR op_lt (pv 3) pe_int (nomark _)) (pss_cons (ps_setLc (i := 5) (own := [("_law_number", 4)]) (g := gName 4) (tt := tYes) (by rfl) sc_Lbook.nd rfl rfl (sw_true rfl rfl rfl (by decide +kernel)) (pi_range1 rfl T.b_range (pa_cons (pv 2) pa_nil)) (blkOk_by (own := [("_law_number", 4)]) (N := N_Lbook) (sc := defScope s_Lbook) (by decide +kernel)) (fun _ _ _ _ _ => pg_name (i := 4) sc_Lbook.nd rfl (Or.inl rfl)) (fun _ _ _ _ _ => pts_nil) (fun _ _ _ _ _ => (pe_op op_shl (pe_callG (ok_Lnoughts T) hgd (hr.mono (by decide)) (by rfl) T.g_Lnoughts T.F_Lnoughts.kp T.bi_Lnoughts .nil (pa_cons (pv 4) (pa_cons (pv 1) pa_nil))) (pe_ifExp (pt_cmpR op_lt (pv 3) pe_int (nomark _)) (pv 3) pe_int))))
      (pss_cons (ps_if (pt_cmpR op_eq (pv 3) pe_int (nomark _)) (pss_cons (ps_set (i := 6) sc_Lbook.nd rfl (.inl rfl) (pe_callG (ok_Ldraw T) hgd (hr.mono (by decide)) (by rfl) T.g_Ldraw T.F_Ldraw.kp T.bi_Ldraw .nil (pa_cons (pv 0) (pa_cons (pv 2) pa_nil))))
        (pss_one (ps_asg (pe_callG (ok_Ldraw T) hgd (hr.mono (by decide)) (by rfl) T.g_Ldraw T.F_Ldraw.kp T.bi_Ldraw .nil (pa_cons (pv 0) (pa_cons (pe_op op_add (pv 1) pe_int) pa_nil))) (pg_sub (pv 5) (pv 6) set_list)))) pss_nil)
      (pss_one (ps_ret (pv 5))))) pss_nil)
    (pss_cons (ps_if (pt_cmpR op_eq (pv 3) pe_int (nomark _)) (pss_one (ps_ret (pe_lc (own := [("_law_number", 4)]) (g := gName 4) (tt := tYes) (by rfl) sc_Lbook.nd (pi_range1 rfl T.b_range (pa_cons (pv 2) pa_nil)) (blkOk_by (own := [("_law_number", 4)]) (N := N_Lbook) (sc := defScope s_Lbook) (by decide +kernel)) (fun _ _ _ _ _ => pg_name (i := 4) sc_Lbook.nd rfl (Or.inl rfl)) (fun _ _ _ _ _ => pts_nil) (fun _ _ _ _ _ => (pe_op op_sub (pe_op op_sub (pv 2) pe_int) (pv 4)))))) pss_nil)
    (pss_cons (ps_par (i := 5) (j := 7) (by rfl) sc_Lbook.nd rfl rfl (by decide) rfl rfl (pa_cons (pe_lst pa_nil) (pa_cons (pe_ix ix_tup (pe_tup (pa_cons pe_int (pa_cons (pe_op op_add (pv 1) pe_int) (pa_cons (pe_op op_add (pv 1) pe_int) (pa_cons pe_int pa_nil))))) (pe_callG (ok_Ldraw T) hgd (hr.mono (by decide)) (by rfl) T.g_Ldraw T.F_Ldraw.kp T.bi_Ldraw .nil (pa_cons (pv 0) (pa_cons pe_int pa_nil))) (fun _ _ => rfl)) pa_nil)) (by rfl))
    (pss_cons (ps_for PassesOwn.never rfl (pi_range1 rfl T.b_range (pa_cons (pv 2) pa_nil)) (pg_name (i := 4) sc_Lbook.nd rfl (.inl rfl))
      (pss_one (ps_expr (pe_bm PySem.F.plainAttrs_list PySem.F.slot_list_append PySem.F.type_list_append mt_append (pv 5) (pa_cons (pe_ifExp (pt_cmpR op_eq (pv 3) pe_int (nomark _)) (pe_callG (ok_Ldraw T) hgd (hr.mono (by decide)) (by rfl) T.g_Ldraw T.F_Ldraw.kp T.bi_Ldraw .nil (pa_cons (pv 0) (pa_cons (pv 7) pa_nil))) (pe_op op_add (pe_op op_mul (pe_callG (ok_Lnoughts T) hgd (hr.mono (by decide)) (by rfl) T.g_Lnoughts T.F_Lnoughts.kp T.bi_Lnoughts .nil (pa_cons (pv 4) (pa_cons (pv 1) pa_nil))) (pv 7)) (pe_callG (ok_Ldraw T) hgd (hr.mono (by decide)) (by rfl) T.g_Ldraw T.F_Ldraw.kp T.bi_Ldraw .nil (pa_cons (pv 0) (pa_cons pe_int pa_nil))))) pa_nil)))))
    (pss_one (ps_ret (pv 5)))))))), ?_⟩
  rw [show L2.start N_Lbook [a0, a1] = [some a0, some a1, none, none, none, none, none, none] from rfl]
  obtain ⟨W, k, rfl, rfl, hk, hw, q⟩ := h
  have hpow : (2 : Nat) ^ k ≤ 256 := Nat.le_trans (Nat.pow_le_pow_right (by decide) hk) (by decide)
  have hpos : 0 < (2 : Nat) ^ k := Nat.pow_pos (by decide)
  walk_at "vv"
  refine v_I ⟨by omega, by omega, by decide⟩ ?_
  rw [shl1]
  walk_at "vv"
  refine c2 ⟨W, 7, rfl, rfl, hw, by decide, by decide, fun br H0 hbr s0 w0 => ?_⟩
  walk_at "vv"
  generalize hz : (2 : Nat) ^ k = z at hpow hpos ⊢
  refine a_tup (by simp) fun pz H1 hpz sz ez => ?_
  have s1 := s0.trans (Sx.of sz)
  have w1 := w0.of sz
  refine v_gtup (sqT_of ez) rfl ?_
  walk_at "vv"
  refine v_ifd (fun c => ?_) (fun c => ?_)
  · have hbr4 : br < 4 := by omega
    walk_at "vv"
    refine ⟨z, rfl, by omega, by omega, fun D hD => ?_⟩
    have nDW := w1.ne hD
    refine lc_range (lo := 0) (n := z) (fun i H2 => ∃ ns : List Nat, ns.length = i ∧ H2 D = some (.lst (ns.map vN)) ∧ Same H1 H2) ⟨[], rfl, upd_same, same_new hD⟩ ?_ ?_
    · rintro i H2 hi ⟨ns, hn, hD2, s2⟩
      rw [Int.zero_add]
      walk_at "vv"
      refine ⟨rfl, ?_⟩
      walk_at "vv"
      refine c2 ⟨i, k, rfl, rfl, hk, fun H3 s3 => ?_⟩
      walk_at "vv"
      refine v_joinN (fun o => o < 4) (fun c Q' q' => ?_) (fun c Q' q' => ?_) (fun o ho => ?_)
      · walk_at "vv"
        exact q' _ hbr4
      · walk_at "vv"
        exact q' 0 (by omega)
      have hb := nou_bound i k
      refine v_I ⟨by omega, by omega, by rw [Int.natAbs_natCast]; have : (8 : Nat) < 2 ^ 64 := by decide
                                         omega⟩ ?_
      rw [shlN]
      refine ⟨_, s3 _ _ hD2, by rw [List.length_map]; exact small1000 (by omega), ns ++ [nou i k * 2 ^ o], by rw [List.length_append, hn]; rfl, by rw [upd_same, List.map_append]; rfl, same_own (fun b o e => s3 _ _ (s2 _ _ e)) hD⟩
    · rintro H2 ⟨ns, hn, hD2, s2⟩
      have w2 := w1.of s2
      walk_at "vv"
      refine v_ifd (fun c => ?_) (fun c => ?_)
      · walk_at "vv"
        refine c2 ⟨W, z, rfl, rfl, w2, hpos, by omega, fun sp H3 hsp s3 w3 => ?_⟩
        walk_at "vv"
        refine c2 ⟨W, k + 2, rfl, by rw [Int.natCast_add]; rfl, w3, by omega, by omega, fun val H4 hval s4 w4 => ?_⟩
        walk_at "vv"
        refine v_setL (s4 _ _ nDW (s3 _ _ nDW hD2)) (m := sp) (by rw [List.length_map]; unfold ixN; rw [if_pos (by omega), if_pos (by omega), Int.toNat_natCast]) ?_
        walk_at "vv"
        refine q D (ns.set sp val) _ (by rw [List.length_set, hn, hz]) (by rw [upd_same, List.map_set]) (s1.trans (((Sx.of s2).trans (s3.trans s4)).own hD)) ?_
        obtain ⟨x, y, z, ew⟩ := w4
        exact ⟨x, y, z, by rw [upd_ne nDW.symm]; exact ew⟩
      · walk_at "vv"
        exact q D ns H2 (by rw [hn, hz]) hD2 (s1.trans (Sx.of s2)) w2
  walk_at "vv"
  refine v_ifd (fun c4 => ?_) (fun c4 => ?_)
  · walk_at "vv"
    refine ⟨z, rfl, by omega, by omega, fun D hD => ?_⟩
    refine lc_range (lo := 0) (n := z) (fun i H2 => ∃ ns : List Nat, ns.length = i ∧ H2 D = some (.lst (ns.map vN)) ∧ Same H1 H2) ⟨[], rfl, upd_same, same_new hD⟩ ?_ ?_
    · rintro i H2 hi ⟨ns, hn, hD2, s2⟩
      rw [Int.zero_add]
      walk_at "vv"
      refine ⟨rfl, ?_⟩
      walk_at "vv"
      rw [show ((z : Nat) : Int) - 1 - (i : Int) = ((z - 1 - i : Nat) : Int) by omega]
      refine ⟨_, hD2, by rw [List.length_map]; exact small1000 (by omega), ns ++ [z - 1 - i], by rw [List.length_append, hn]; rfl, by rw [upd_same, List.map_append]; rfl, same_own s2 hD⟩
    · rintro H2 ⟨ns, hn, hD2, s2⟩
      exact q D ns H2 (by rw [hn, hz]) hD2 (s1.trans (Sx.of s2)) (w1.of s2)
  walk_at "vv"
  refine a_lst (by simp) fun D H2 hD s2 e2 => ?_
  have nDW : D ≠ W := w1.ne hD
  walk_at "vv"
  refine a_tup (by simp) fun pt H3 hpt s3 e3 => ?_
  walk_at "vv"
  have w3 := (w1.of s2).of s3
  refine c2 ⟨W, 4, rfl, rfl, w3, by decide, by decide, fun r H4 hr s4 w4 => ?_⟩
  have e4 : H4 pt = some (.tup [.int 2, .int ((k : Int) + 2), .int ((k : Int) + 1), .int 300]) := s4 _ _ ((w1.of s2).ne hpt) e3
  obtain ⟨few, hf0, hf, hat⟩ : ∃ few : Nat, 0 < few ∧ few ≤ 300 ∧ atI [V.int 2, .int ((k : Int) + 2), .int ((k : Int) + 1), .int 300] (r : Int) = some (.int (few : Int)) := by
    have hc : r = 0 ∨ r = 1 ∨ r = 2 ∨ r = 3 := by omega
    rcases hc with rfl | rfl | rfl | rfl
    · exact ⟨2, by omega, by omega, rfl⟩
    · exact ⟨k + 2, by omega, by omega, by rw [Int.natCast_add]; rfl⟩
    · exact ⟨k + 1, by omega, by omega, by rw [Int.natCast_add]; rfl⟩
    · exact ⟨300, by omega, by omega, rfl⟩
  refine v_ixT (sqT_of e4) hat ?_
  walk_at "vv"
  refine ⟨z, rfl, by omega, by omega, ?_⟩
  refine for_range (lo := 0) (n := z) (fun i σ H' => ∃ (ns : List Nat) (y1 y2 : Option V), σ = [some (.ref W), some (.int k), some (.int z), some (.int br), y1, some (.ref D), y2, some (.int few)] ∧ ns.length = i ∧ H' D = some (.lst (ns.map vN)) ∧ Sx W H1 H' ∧ Wl [.int 3] H' W)
    ⟨[], none, none, rfl, rfl, s4 _ _ nDW (s3 _ _ e2), (Sx.of s2).trans ((Sx.of s3).trans s4), w4⟩ ?_ ?_
  · rintro i σ H5 hi ⟨ns, y1, y2, rfl, hn, hD5, s5, w5⟩
    rw [Int.zero_add]
    walk_at "vv"
    refine ⟨tyL hD5, ?_⟩
    walk_at "vv"
    refine v_joinP (fun v H' => ∃ n : Nat, v = vN n ∧ Sx W H5 H' ∧ Wl [.int 3] H' W) (fun c Q' q' => ?_) (fun c Q' q' => ?_) (fun v H6 hv => ?_)
    · walk_at "vv"
      exact c2 ⟨W, few, rfl, rfl, w5, hf0, by omega, fun r H6 hr s6 w6 => q' _ _ ⟨r, rfl, s6, w6⟩⟩
    · walk_at "vv"
      refine c2 ⟨i, k, rfl, rfl, hk, fun H6 s6 => ?_⟩
      walk_at "vv"
      refine v_I (by have := nou_bound i k; exact Or.inr (by omega)) ?_
      walk_at "vv"
      refine c2 ⟨W, 2, rfl, rfl, w5.of s6, by decide, by decide, fun r H7 hr s7 w7 => ?_⟩
      walk_at "vv"
      exact q' _ _ ⟨nou i k * few + r, by rw [vN, Int.natCast_add, Int.natCast_mul], (Sx.of s6).trans s7, w7⟩
    obtain ⟨n, rfl, s6, w6⟩ := hv
    walk_at "vv"
    refine v_append (s6 _ _ nDW hD5) (by rw [List.length_map]; omega) ?_
    refine ⟨ns ++ [n], _, _, rfl, by rw [List.length_append, hn]; rfl, by rw [upd_same, List.map_append]; rfl, (s5.trans s6).own hD, ?_⟩
    obtain ⟨x, y, z, ew⟩ := w6
    exact ⟨x, y, z, by rw [upd_ne nDW.symm]; exact ew⟩
  · rintro σ H5 ⟨ns, y1, y2, rfl, hn, hD5, s5, w5⟩
    dsimp only
    walk_at "vv"
    exact q D ns H5 (by rw [hn, hz]) hD5 (s1.trans s5) w5
def spo_Lright (K : PySem.W.Frag) (cs : Cds) : Sp := sp1 fun v H Q => ∃ W : Addr, v = .ref W ∧ Wl [.int 3] H W ∧ Tb cs H ∧ ∀ H', Sy cs W H H' → Q (.bl true) H'
abbrev sp_Lright (K : PySem.W.Frag) (cs : Cds) : Sp := spo_Lright K cs
theorem ok_Lright (T : Txt K mg base) : FnG P w K mg base 8 T.f_Lright T.fd_Lright ["_law_well_here"] (sp_Lright K T.cs) := by
  refine okG T.F_Lright sc_Lright len1 (fun cdv A outer s H vs Q hgd hr h => ?_)
  obtain ⟨a0, rfl, h⟩ := h
  refine ⟨_, (pss_cons (ps_for PassesOwn.never rfl (pi_range1 rfl T.b_range (pa_cons pe_int pa_nil)) (pg_name (i := 1) sc_Lright.nd rfl (.inl rfl))
      (pss_cons (ps_set (i := 2) sc_Lright.nd rfl (.inr rfl) (pe_ix ix_tup (pe_tup (pa_cons pe_int (pa_cons pe_int (pa_cons pe_int (pa_cons pe_int (pa_cons pe_int (pa_cons pe_int (pa_cons pe_int (pa_cons pe_int pa_nil))))))))) (pe_callG (ok_Ldraw T) hgd (hr.mono (by decide)) (by rfl) T.g_Ldraw T.F_Ldraw.kp T.bi_Ldraw .nil (pa_cons (pv 0) (pa_cons pe_int pa_nil))) (fun _ _ => rfl)))
      (pss_cons (ps_if (PW.pt (pw_and (pt_cmpR op_eq (pv 1) pe_int (nomark _)) (pw_and1 (pt_cmpR op_eq (pe_callG (ok_Ldraw T) hgd (hr.mono (by decide)) (by rfl) T.g_Ldraw T.F_Ldraw.kp T.bi_Ldraw .nil (pa_cons (pv 0) (pa_cons pe_int pa_nil))) pe_int (nomark _))))) (pss_one (ps_set (i := 2) sc_Lright.nd rfl (.inr rfl) (pe_op op_add pe_int (pe_callG (ok_Ldraw T) hgd (hr.mono (by decide)) (by rfl) T.g_Ldraw T.F_Ldraw.kp T.bi_Ldraw .nil (pa_cons (pv 0) (pa_cons pe_int pa_nil)))))) pss_nil)
      (pss_one (ps_if (pt_not (pt_val (pe_callG (ok_Lholds T) hgd (hr.mono (by decide)) (by rfl) T.g_Lholds T.F_Lholds.kp T.bi_Lholds .nil (pa_cons (pe_callG (ok_Lbook T) hgd (hr.mono (by decide)) (by rfl) T.g_Lbook T.F_Lbook.kp T.bi_Lbook .nil (pa_cons (pv 0) (pa_cons (pv 2) pa_nil))) (pa_cons (pv 2) pa_nil))))) (pss_one (ps_ret pe_bl)) pss_nil)))))
    (pss_cons (ps_set (i := 2) sc_Lright.nd rfl (.inr rfl) (pe_callG (ok_Ldraw T) hgd (hr.mono (by decide)) (by rfl) T.g_Ldraw T.F_Ldraw.kp T.bi_Ldraw .nil (pa_cons (pv 0) (pa_cons pe_int pa_nil))))
    (pss_one (ps_ret (pe_cmpR op_isN (pe_callG (ok_clash T) hgd (hr.mono (by decide)) (by rfl) T.g_clash T.F_clash.kp T.bi_clash .nil (pa_cons (pe_callTy cv_tuple (by rfl) T.b_tuple (by decide +kernel) (pa_cons (pe_lc (own := [("_law_number", 3)]) (g := gName 3) (tt := tYes) (by rfl) sc_Lright.nd (pi_range1 rfl T.b_range (pa_cons (pe_op op_shl pe_int (pv 2)) pa_nil)) (blkOk_by (own := [("_law_number", 3)]) (N := N_Lright) (sc := defScope s_Lright) (by decide +kernel)) (fun _ _ _ _ _ => pg_name (i := 3) sc_Lright.nd rfl (Or.inl rfl)) (fun _ _ _ _ _ => pts_nil) (fun _ _ _ _ _ => (pe_callG (ok_Lnoughts T) hgd (hr.mono (by decide)) (by rfl) T.g_Lnoughts T.F_Lnoughts.kp T.bi_Lnoughts .nil (pa_cons (pv 3) (pa_cons (pv 2) pa_nil))))) pa_nil)) pa_nil)) pe_non (nomark _)))))), ?_⟩
  rw [show L2.start N_Lright [a0] = [some a0, none, none, none] from rfl]
  obtain ⟨W, rfl, hw, tb, q⟩ := h
  walk_at "vv"
  refine ⟨4, rfl, by decide, by decide, ?_⟩
  refine for_range (lo := 0) (n := 4) (fun i σ H' => ∃ (y1 y2 y3 : Option V), σ = [some (.ref W), y1, y2, y3] ∧ Sy T.cs W H H' ∧ Wl [.int 3] H' W) ⟨none, none, none, rfl, Sy.ex Ex.refl, hw⟩ ?_ ?_
  · rintro i σ H1 hi ⟨y1, y2, y3, rfl, x1, w1⟩
    rw [Int.zero_add]
    walk_at "vv"
    refine a_tup (by simp) fun pt H2 hpt s2 e2 => ?_
    walk_at "vv"
    have w2 := w1.of s2
    refine c2 ⟨W, 8, rfl, rfl, w2, by decide, by decide, fun r H3 hr s3 w3 => ?_⟩
    have e3 : H3 pt = some (.tup [.int 0, .int 1, .int 2, .int 3, .int 4, .int 5, .int 3, .int 2]) := s3 _ _ (w1.ne hpt) e2
    obtain ⟨k, hk, hat⟩ : ∃ k : Nat, k ≤ 5 ∧ atI [V.int 0, .int 1, .int 2, .int 3, .int 4, .int 5, .int 3, .int 2] (r : Int) = some (.int (k : Int)) := by
      have hc : r = 0 ∨ r = 1 ∨ r = 2 ∨ r = 3 ∨ r = 4 ∨ r = 5 ∨ r = 6 ∨ r = 7 := by omega
      rcases hc with rfl | rfl | rfl | rfl | rfl | rfl | rfl | rfl
      · exact ⟨0, by omega, rfl⟩
      · exact ⟨1, by omega, rfl⟩
      · exact ⟨2, by omega, rfl⟩
      · exact ⟨3, by omega, rfl⟩
      · exact ⟨4, by omega, rfl⟩
      · exact ⟨5, by omega, rfl⟩
      · exact ⟨3, by omega, rfl⟩
      · exact ⟨2, by omega, rfl⟩
    refine v_ixT (sqT_of e3) hat ?_
    have x3 := x1.trans ((Sy.ex (Ex.of s2)).trans (Sy.sx w2 s3))
    refine v_name ?_
    dsimp only [List.set_cons_zero, List.set_cons_succ]
    refine v_seq ?_
    refine v_ifC (fun σ' H' => ∃ k : Nat, σ' = [some (.ref W), some (.int (i : Int)), some (.int (k : Int)), y3] ∧ k ≤ 8 ∧ Sy T.cs W H H' ∧ Wl [.int 3] H' W) (fun N hN => ?_) ?_
    · walk_at "vv"
      refine v_ifd (fun c => ?_) (fun c => ?_)
      · walk_at "vv"
        refine c2 ⟨W, 30, rfl, rfl, w3, by decide, by decide, fun r2 H4 hr2 s4 w4 => ?_⟩
        have x4 := x3.trans (Sy.sx w3 s4)
        walk_at "vv"
        refine v_ifd (fun cb => ?_) (fun cb => ?_)
        · walk_at "vv"
          refine c2 ⟨W, 2, rfl, rfl, w4, by decide, by decide, fun r3 H5 hr3 s5 w5 => ?_⟩
          walk_at "vv"
          exact hN _ _ ⟨7 + r3, by rw [Int.natCast_add]; rfl, by omega, x4.trans (Sy.sx w4 s5), w5⟩
        · walk_at "vv"
          exact hN _ _ ⟨k, rfl, by omega, x4, w4⟩
      · walk_at "vv"
        exact hN _ _ ⟨k, rfl, by omega, x3, w3⟩
    · rintro σ' H4 ⟨k, rfl, hk, x4, w4⟩
      walk_at "vv"
      refine c2 ⟨W, k, rfl, rfl, hk, w4, fun l ns H5 hn e5 s5 w5 => ?_⟩
      have x5 := x4.trans (Sy.sx w4 s5)
      walk_at "vv"
      refine c2 ⟨l, ns, k, rfl, rfl, e5, hn, hk, x5.2 tb, fun H6 x6 => ?_⟩
      walk_at "vv"
      exact ⟨_, _, _, rfl, x5.trans (Sy.ex x6), w5.ex x6⟩
  · rintro σ H1 ⟨y1, y2, y3, rfl, x1, w1⟩
    dsimp only
    walk_at "vv"
    refine c2 ⟨W, 5, rfl, rfl, w1, by decide, by decide, fun k H2 hk s2 w2 => ?_⟩
    have x2 := x1.trans (Sy.sx w1 s2)
    walk_at "vv"
    refine v_I ⟨by omega, by omega, by decide⟩ ?_
    rw [shl1]
    have hpow : (2 : Nat) ^ k ≤ 16 := Nat.le_trans (Nat.pow_le_pow_right (by decide) (show k ≤ 4 by omega)) (by decide)
    have sx := nou_book k
    walk_at "vv"
    generalize hz : (2 : Nat) ^ k = z at hpow sx ⊢
    refine ⟨z, rfl, by omega, by omega, fun D hD => ?_⟩
    refine lc_range (lo := 0) (n := z) (fun i H3 => H3 D = some (.lst (((List.range i).map fun n => nou n k).map vN)) ∧ Same H2 H3) ⟨upd_same, same_new hD⟩ ?_ ?_
    · rintro i H3 hi ⟨hD3, s3⟩
      rw [Int.zero_add]
      walk_at "vv"
      refine ⟨rfl, ?_⟩
      walk_at "vv"
      refine c2 ⟨i, k, rfl, rfl, by omega, fun H4 s4 => ?_⟩
      refine ⟨_, s4 _ _ hD3, by rw [List.length_map, List.length_map, List.length_range]; exact small1000 (by omega), ?_, same_own (fun b o e => s4 _ _ (s3 _ _ e)) hD⟩
      rw [upd_same, List.range_succ, List.map_append, List.map_append]
      rfl
    · rintro H3 ⟨hD3, s3⟩
      walk_at "vv"
      refine a_tupL (sqL_of hD3) fun t H4 ht s4 e4 => ?_
      walk_at "vv"
      have hl : ((List.range z).map fun n => nou n k).length = z := by rw [List.length_map, List.length_range]
      have x4 := x2.trans (Sy.ex (Ex.of fun b o e => s4 _ _ (s3 _ _ e)))
      refine c1 ⟨t, _, k, rfl, sqT_of e4, hl.trans hz.symm, by omega, x4.2 tb, fun H5 x5 _ => ?_, fun l i o H5 x5 hs _ => by rw [hl, sx] at hs; cases hs⟩
      walk_at "vv"
      refine ⟨rfl, ?_⟩
      rw [decide_eq_true rfl]
      exact q H5 (x4.trans (Sy.ex x5))
def spo_Lwell (K : PySem.W.Frag) (cs : Cds) : Sp := sp2 fun s t H Q => ∃ (a : Addr) (ns : List Int) (k : Nat), s = .ref a ∧ t = .int k ∧ SqL K H a (ns.map V.int) ∧ ns.length ≤ 63 ∧ ∀ (W : Addr) (H' : Hp), H W = none → Same H H' → Wl [.int 3] H' W → Q (.ref W) H'
abbrev sp_Lwell (K : PySem.W.Frag) (cs : Cds) : Sp := spo_Lwell K cs
theorem ok_Lwell (T : Txt K mg base) : FnG P w K mg base 1 T.f_Lwell T.fd_Lwell ["_law_script", "_law_turn"] (sp_Lwell K T.cs) := by
  refine okG T.F_Lwell sc_Lwell len2 (fun cdv A outer s H vs Q hgd hr h => ?_)
  obtain ⟨a0, a1, rfl, h⟩ := h
  refine ⟨_, (pss_cons (ps_set (i := 2) sc_Lwell.nd rfl (.inl rfl) (pe_op op_add pe_int (pe_op op_mul pe_int (pv 1))))
    (pss_cons (ps_for PassesOwn.never rfl (pi_list (pe_slice sl_list (pv 0) po_none (po_some pe_int))) (pg_name (i := 3) sc_Lwell.nd rfl (.inl rfl))
      (pss_one (ps_set (i := 2) sc_Lwell.nd rfl (.inl rfl) (pe_op op_modN (pe_callTy cv_int (by rfl) T.b_int (by decide +kernel) (pa_cons (pe_op op_add (pe_op op_add (pe_op op_mul (pv 2) pe_int) (pe_op op_modN (pe_callTy cv_int (by rfl) T.b_int (by decide +kernel) (pa_cons (pv 3) pa_nil)) pe_int)) pe_int) pa_nil)) pe_int))))
    (pss_cons (ps_set (i := 4) sc_Lwell.nd rfl (.inl rfl) (pe_ifExp (pt_cmpR op_lt (pv 1) (pe_callB cv_len (by rfl) T.b_len PySem.boot_len (pa_cons (pv 0) pa_nil)) (nomark _)) (pe_callTy cv_int (by rfl) T.b_int (by decide +kernel) (pa_cons (pe_ix ix_list (pv 0) (pv 1) (fun _ _ => rfl)) pa_nil)) pe_int))
    (pss_cons (ps_set (i := 2) sc_Lwell.nd rfl (.inl rfl) (pe_op op_modN (pe_callTy cv_int (by rfl) T.b_int (by decide +kernel) (pa_cons (pe_op op_add (pe_op op_add (pe_op op_mul (pv 2) pe_int) (pe_op op_mul (pe_op op_modN (pe_callTy cv_int (by rfl) T.b_int (by decide +kernel) (pa_cons (pv 4) pa_nil)) pe_int) pe_int)) pe_int) pa_nil)) pe_int))
    (pss_one (ps_ret (pe_lst (pa_cons (pe_ifExp (PW.pt (pw_or (pt_cmpR op_lt (pv 4) pe_int (nomark _)) (pw_or1 (pt_cmpR op_ge (pv 4) (pe_op op_pow pe_int pe_int) (nomark _))))) (pe_callB cv_abs (by rfl) T.b_abs (by decide +kernel) (pa_cons (pv 4) pa_nil)) pe_int) (pa_cons (pv 2) (pa_cons pe_int (pa_cons pe_int pa_nil))))))))))), ?_⟩
  rw [show L2.start N_Lwell [a0, a1] = [some a0, some a1, none, none, none] from rfl]
  obtain ⟨a, ns, k, rfl, rfl, hS, hl, q⟩ := h
  walk_at "vv"
  refine a_slL hS (fun c H1 hc s1 h1 => ?_)
  walk_at "vv"
  refine ⟨⟨_, sqL_of h1⟩, ?_⟩
  refine for_list (xs := cutV (ns.map V.int) none (some 9)) (fun i σ H' => ∃ (m : Int) (y : Option V), σ = [some (.ref a), some (.int k), some (.int m), y, none] ∧ H' = H1) ⟨_, none, rfl, rfl⟩ ?_ ?_ ?_
  · rintro i σ H' _ ⟨m, y, rfl, rfl⟩
    exact sqL_of h1
  · rintro i x σ H' hx ⟨m, y, rfl, rfl⟩
    obtain ⟨z, rfl⟩ := cut_ints hx
    walk_at "vv"
    exact ⟨_, _, rfl, rfl⟩
  · rintro σ H' ⟨m, y, rfl, rfl⟩
    dsimp only
    walk_at "vv"
    refine v_lenL (s1.seq hS) ?_
    walk_at "vv"
    refine v_joinI (fun c Q' q' => ?_) (fun c Q' q' => ?_) (fun o => ?_)
    · walk_at "vv"
      rw [List.length_map, decide_eq_true_eq] at c
      refine v_ixL (s1.seq hS) (atI_nat (j := k) (by rw [List.getElem?_map, List.getElem?_eq_getElem (by omega)]; rfl)) ?_
      walk_at "vv"
      exact q' _
    · walk_at "vv"
      exact q' _
    · walk_at "vv"
      have fin : ∀ (p : Addr) (o1 o2 : Int), H' p = none → Q (.ref p) (upd H' p (.lst [.int o1, .int o2, .int 0, .int 3])) := fun p o1 o2 hp => q p _ (s1.free hp) (s1.trans (same_new hp)) ⟨_, _, _, upd_same⟩
      refine v_ifd (fun c => ?_) (fun c => ?_)
      · walk_at "vv"
        exact n_lst (by simp) fun p hp => fin p _ _ hp
      · walk_at "vv"
        refine v_ifd (fun c => ?_) (fun c => ?_)
        · walk_at "vv"
          exact n_lst (by simp) fun p hp => fin p _ _ hp
        · walk_at "vv"
          exact n_lst (by simp) fun p hp => fin p _ _ hp
def spo_law (K : PySem.W.Frag) (cs : Cds) : Sp := sp1 fun v H Q => ∃ (a : Addr) (ns : List Int), v = .ref a ∧ SqL K H a (ns.map V.int) ∧ ns.length ≤ 63 ∧ Tb cs H ∧ ∀ H', Q (.bl true) H'
abbrev sp_law (K : PySem.W.Frag) (cs : Cds) : Sp := spo_law K cs
theorem ok_law (T : Txt K mg base) : FnG P w K mg base 9 T.f_law T.fd_law ["_law_script"] (sp_law K T.cs) := by
  refine okG T.F_law sc_law len1 (fun cdv A outer s H vs Q hgd hr h => ?_)
  obtain ⟨a0, rfl, h⟩ := h
  refine ⟨_, (pss_one (ps_ret (pe_callB (cr_all rfl) (by rfl) T.b_all (by decide +kernel) (pa_cons (pe_lc (own := [("_law_turn", 1)]) (g := gName 1) (tt := tYes) (by rfl) sc_law.nd (pi_range1 rfl T.b_range (pa_cons (pe_callB (cv_max rfl) (by rfl) T.b_max (by decide +kernel) (pa_cons pe_int (pa_cons (pe_callB (cv_min rfl) (by rfl) T.b_min (by decide +kernel) (pa_cons (pe_callB cv_len (by rfl) T.b_len PySem.boot_len (pa_cons (pv 0) pa_nil)) (pa_cons pe_int pa_nil))) pa_nil))) pa_nil)) (blkOk_by (own := [("_law_turn", 1)]) (N := N_law) (sc := defScope s_law) (by decide +kernel)) (fun _ _ _ _ _ => pg_name (i := 1) sc_law.nd rfl (Or.inl rfl)) (fun _ _ _ _ _ => pts_nil) (fun _ _ _ _ _ => (pe_callG (ok_Lright T) hgd (hr.mono (by decide)) (by rfl) T.g_Lright T.F_Lright.kp T.bi_Lright .nil (pa_cons (pe_callG (ok_Lwell T) hgd (hr.mono (by decide)) (by rfl) T.g_Lwell T.F_Lwell.kp T.bi_Lwell .nil (pa_cons (pv 0) (pa_cons (pv 1) pa_nil))) pa_nil)))) pa_nil)))), ?_⟩
  rw [show L2.start N_law [a0] = [some a0, none] from rfl]
  obtain ⟨a, ns, rfl, hS, hl, tb, q⟩ := h
  walk_at "vv"
  refine v_lenL hS ?_
  walk_at "vv"
  rw [List.length_map]
  obtain ⟨n, hn, hn2⟩ : ∃ n : Nat, n ≤ 3 ∧ (if (if (3 : Int) < (ns.length : Int) then 3 else (ns.length : Int)) > 2 then (if (3 : Int) < (ns.length : Int) then 3 else (ns.length : Int)) else 2) = (n : Int) := by
    by_cases h3 : (3 : Int) < (ns.length : Int)
    · exact ⟨3, by omega, by rw [if_pos h3]; rfl⟩
    · rw [if_neg h3]
      by_cases h2 : (ns.length : Int) > 2
      · exact ⟨ns.length, by omega, by rw [if_pos h2]⟩
      · exact ⟨2, by omega, by rw [if_neg h2]; rfl⟩
  rw [hn2]
  refine ⟨n, rfl, by omega, by omega, fun D hD => ?_⟩
  refine lc_range (lo := 0) (n := n) (fun i H2 => H2 D = some (.lst (List.replicate i (.bl true))) ∧ Ex T.cs H H2) ⟨upd_same, Ex.of (same_new hD)⟩ ?_ ?_
  · rintro i H2 hi ⟨hD2, x2⟩
    walk_at "vv"
    refine ⟨rfl, ?_⟩
    walk_at "vv"
    rw [Int.zero_add]
    refine c2 ⟨a, ns, i, rfl, rfl, x2.seqL hS, hl, fun W H3 hW s3 w3 => ?_⟩
    walk_at "vv"
    refine c1 ⟨W, rfl, w3, (x2.2 tb).same s3, fun H4 y4 => ?_⟩
    have x24 : Ex T.cs H2 H4 := ex_sy hW s3 y4
    have hD4 := x24.lst hD2
    have x4 := x2.trans x24
    refine ⟨_, hD4, by rw [List.length_replicate]; exact small1000 (by omega), by rw [upd_same, rep_more], ex_own x4 hD (x4.2 tb) ⟨_, hD4⟩⟩
  · rintro H2 ⟨hD2, x2⟩
    walk_at "vv"
    refine v_allT hD2 ?_
    exact q H2
end
theorem law_start (K : PySem.W.Frag) (cs : Cds) (H : Hp) (a : Addr) (ns : List Int) (hl : ns.length ≤ 63) (hS : SqL K H a (ns.map V.int)) (tb : Tb cs H) : sp_law K cs [.ref a] H (fun v _ => v = .bl true) E0 :=
  ⟨_, rfl, a, ns, rfl, hS, hl, tb, fun _ => rfl⟩

theorem law_at {P : Program} {w : World} {K : PySem.W.Frag} {mg : Str → Option Value} {base : Heap} {fa : Addr} {fd : FuncData} (T : Txt K mg base) (e1 : T.f_law = fa) (e2 : T.fd_law = fd) : FnG P w K mg base 9 fa fd ["_law_script"] (sp_law K T.cs) := by
  subst e1
  subst e2
  exact ok_law T
/-! ### what the top has written -/
theorem all_mk {l : PySem.W.OpenLaw} {w : World} {K : PySem.W.Frag} {h : Heap} {mg : Str → Option Value} {fa : Addr} (X : K.In h) (G : h.Ns mainGlobals mg) (hfa : mg "law" = some (.ref fa))
    {od0 an0 : Option Addr} {sl0 : Array (Option Value)} {oc0 kV0 dc0 pm0 ct0 : Value} {cd0 : Value} {f0 : Addr}
    {od1 an1 : Option Addr} {sl1 : Array (Option Value)} {oc1 kV1 dc1 pm1 ct1 : Value} {cd1 : Value} {f1 : Addr}
    {od2 an2 : Option Addr} {sl2 : Array (Option Value)} {oc2 kV2 dc2 pm2 ct2 : Value} {cd2 : Value} {f2 : Addr}
    {od3 an3 : Option Addr} {sl3 : Array (Option Value)} {oc3 kV3 dc3 pm3 ct3 : Value} {cd3 : Value} {f3 : Addr}
    {od4 an4 : Option Addr} {sl4 : Array (Option Value)} {oc4 kV4 dc4 pm4 ct4 : Value} {cd4 : Addr} {f4 : Addr}
    {od5 an5 : Option Addr} {sl5 : Array (Option Value)} {oc5 kV5 dc5 pm5 ct5 : Value} {cd5 : Value} {f5 : Addr}
    {od6 an6 : Option Addr} {sl6 : Array (Option Value)} {oc6 kV6 dc6 pm6 ct6 : Value} {cd6 : Value} {f6 : Addr}
    {od7 an7 : Option Addr} {sl7 : Array (Option Value)} {oc7 kV7 dc7 pm7 ct7 : Value} {cd7 : Value} {f7 : Addr}
    {od8 an8 : Option Addr} {sl8 : Array (Option Value)} {oc8 kV8 dc8 pm8 ct8 : Value} {cd8 : Value} {f8 : Addr}
    {od9 an9 : Option Addr} {sl9 : Array (Option Value)} {oc9 kV9 dc9 pm9 ct9 : Value} {cd9 : Value} {f9 : Addr}
    {od10 an10 : Option Addr} {sl10 : Array (Option Value)} {oc10 kV10 dc10 pm10 ct10 : Value} {cd10 : Value} {f10 : Addr}
    {od11 an11 : Option Addr} {sl11 : Array (Option Value)} {oc11 kV11 dc11 pm11 ct11 : Value} {cd11 : Value} {f11 : Addr}
    {od12 an12 : Option Addr} {sl12 : Array (Option Value)} {oc12 kV12 dc12 pm12 ct12 : Value} {cd12 : Value} {f12 : Addr}
    {od13 an13 : Option Addr} {sl13 : Array (Option Value)} {oc13 kV13 dc13 pm13 ct13 : Value} {cd13 : Value} {f13 : Addr}
    {od14 an14 : Option Addr} {sl14 : Array (Option Value)} {oc14 kV14 dc14 pm14 ct14 : Value} {cd14 : Value} {f14 : Addr}
    {od15 an15 : Option Addr} {sl15 : Array (Option Value)} {oc15 kV15 dc15 pm15 ct15 : Value} {cd15 : Value} {f15 : Addr}
    (a0 : PySem.W.nsIn K mainGlobals "_law_draw" = some (some (.ref f0))) (l0 : K.lookup f0 = some ⟨oc0, od0, .func (PySem.W.fnOf "_law_draw" "_law_draw" (defArgs s_Ldraw) (defBody s_Ldraw) (defScope s_Ldraw) .none kV0 dc0 pm0 an0 cd0 ct0), sl0⟩)
    (c0 : PySem.W.codeIn K cd0 "_law_draw" = true) (k0 : PySem.W.keepIn K (.ref f0) = true)
    (a1 : PySem.W.nsIn K mainGlobals "first_wrong" = some (some (.ref f1))) (l1 : K.lookup f1 = some ⟨oc1, od1, .func (PySem.W.fnOf "first_wrong" "first_wrong" (defArgs s_first_wrong) (defBody s_first_wrong) (defScope s_first_wrong) .none kV1 dc1 pm1 an1 cd1 ct1), sl1⟩)
    (c1 : PySem.W.codeIn K cd1 "first_wrong" = true) (k1 : PySem.W.keepIn K (.ref f1) = true)
    (a2 : PySem.W.nsIn K mainGlobals "is_whole" = some (some (.ref f2))) (l2 : K.lookup f2 = some ⟨oc2, od2, .func (PySem.W.fnOf "is_whole" "is_whole" (defArgs s_is_whole) (defBody s_is_whole) (defScope s_is_whole) .none kV2 dc2 pm2 an2 cd2 ct2), sl2⟩)
    (c2 : PySem.W.codeIn K cd2 "is_whole" = true) (k2 : PySem.W.keepIn K (.ref f2) = true)
    (a3 : PySem.W.nsIn K mainGlobals "is_from" = some (some (.ref f3))) (l3 : K.lookup f3 = some ⟨oc3, od3, .func (PySem.W.fnOf "is_from" "is_from" (defArgs s_is_from) (defBody s_is_from) (defScope s_is_from) .none kV3 dc3 pm3 an3 cd3 ct3), sl3⟩)
    (c3 : PySem.W.codeIn K cd3 "is_from" = true) (k3 : PySem.W.keepIn K (.ref f3) = true)
    (a4 : PySem.W.nsIn K mainGlobals "require_checks" = some (some (.ref f4))) (l4 : K.lookup f4 = some ⟨oc4, od4, .func (PySem.W.fnOf "require_checks" "require_checks" (defArgs s_require_checks) (defBody s_require_checks) (defScope s_require_checks) .none kV4 dc4 pm4 an4 (.ref cd4) ct4), sl4⟩)
    (c4 : PySem.W.codeIn K (.ref cd4) "require_checks" = true) (k4 : PySem.W.keepIn K (.ref f4) = true)
    (a5 : PySem.W.nsIn K mainGlobals "lies_within" = some (some (.ref f5))) (l5 : K.lookup f5 = some ⟨oc5, od5, .func (PySem.W.fnOf "lies_within" "lies_within" (defArgs s_lies_within) (defBody s_lies_within) (defScope s_lies_within) .none kV5 dc5 pm5 an5 cd5 ct5), sl5⟩)
    (c5 : PySem.W.codeIn K cd5 "lies_within" = true) (k5 : PySem.W.keepIn K (.ref f5) = true)
    (a6 : PySem.W.nsIn K mainGlobals "clash" = some (some (.ref f6))) (l6 : K.lookup f6 = some ⟨oc6, od6, .func (PySem.W.fnOf "clash" "clash" (defArgs s_clash) (defBody s_clash) (defScope s_clash) .none kV6 dc6 pm6 an6 cd6 ct6), sl6⟩)
    (c6 : PySem.W.codeIn K cd6 "clash" = true) (k6 : PySem.W.keepIn K (.ref f6) = true)
    (a7 : PySem.W.nsIn K mainGlobals "_law_is_some" = some (some (.ref f7))) (l7 : K.lookup f7 = some ⟨oc7, od7, .func (PySem.W.fnOf "_law_is_some" "_law_is_some" (defArgs s_Lis_some) (defBody s_Lis_some) (defScope s_Lis_some) .none kV7 dc7 pm7 an7 cd7 ct7), sl7⟩)
    (c7 : PySem.W.codeIn K cd7 "_law_is_some" = true) (k7 : PySem.W.keepIn K (.ref f7) = true)
    (a8 : PySem.W.nsIn K mainGlobals "_law_clashes" = some (some (.ref f8))) (l8 : K.lookup f8 = some ⟨oc8, od8, .func (PySem.W.fnOf "_law_clashes" "_law_clashes" (defArgs s_Lclashes) (defBody s_Lclashes) (defScope s_Lclashes) .none kV8 dc8 pm8 an8 cd8 ct8), sl8⟩)
    (c8 : PySem.W.codeIn K cd8 "_law_clashes" = true) (k8 : PySem.W.keepIn K (.ref f8) = true)
    (a9 : PySem.W.nsIn K mainGlobals "_law_is_index" = some (some (.ref f9))) (l9 : K.lookup f9 = some ⟨oc9, od9, .func (PySem.W.fnOf "_law_is_index" "_law_is_index" (defArgs s_Lis_index) (defBody s_Lis_index) (defScope s_Lis_index) .none kV9 dc9 pm9 an9 cd9 ct9), sl9⟩)
    (c9 : PySem.W.codeIn K cd9 "_law_is_index" = true) (k9 : PySem.W.keepIn K (.ref f9) = true)
    (a10 : PySem.W.nsIn K mainGlobals "_law_holds" = some (some (.ref f10))) (l10 : K.lookup f10 = some ⟨oc10, od10, .func (PySem.W.fnOf "_law_holds" "_law_holds" (defArgs s_Lholds) (defBody s_Lholds) (defScope s_Lholds) .none kV10 dc10 pm10 an10 cd10 ct10), sl10⟩)
    (c10 : PySem.W.codeIn K cd10 "_law_holds" = true) (k10 : PySem.W.keepIn K (.ref f10) = true)
    (a11 : PySem.W.nsIn K mainGlobals "_law_noughts" = some (some (.ref f11))) (l11 : K.lookup f11 = some ⟨oc11, od11, .func (PySem.W.fnOf "_law_noughts" "_law_noughts" (defArgs s_Lnoughts) (defBody s_Lnoughts) (defScope s_Lnoughts) .none kV11 dc11 pm11 an11 cd11 ct11), sl11⟩)
    (c11 : PySem.W.codeIn K cd11 "_law_noughts" = true) (k11 : PySem.W.keepIn K (.ref f11) = true)
    (a12 : PySem.W.nsIn K mainGlobals "_law_book" = some (some (.ref f12))) (l12 : K.lookup f12 = some ⟨oc12, od12, .func (PySem.W.fnOf "_law_book" "_law_book" (defArgs s_Lbook) (defBody s_Lbook) (defScope s_Lbook) .none kV12 dc12 pm12 an12 cd12 ct12), sl12⟩)
    (c12 : PySem.W.codeIn K cd12 "_law_book" = true) (k12 : PySem.W.keepIn K (.ref f12) = true)
    (a13 : PySem.W.nsIn K mainGlobals "_law_right" = some (some (.ref f13))) (l13 : K.lookup f13 = some ⟨oc13, od13, .func (PySem.W.fnOf "_law_right" "_law_right" (defArgs s_Lright) (defBody s_Lright) (defScope s_Lright) .none kV13 dc13 pm13 an13 cd13 ct13), sl13⟩)
    (c13 : PySem.W.codeIn K cd13 "_law_right" = true) (k13 : PySem.W.keepIn K (.ref f13) = true)
    (a14 : PySem.W.nsIn K mainGlobals "_law_well" = some (some (.ref f14))) (l14 : K.lookup f14 = some ⟨oc14, od14, .func (PySem.W.fnOf "_law_well" "_law_well" (defArgs s_Lwell) (defBody s_Lwell) (defScope s_Lwell) .none kV14 dc14 pm14 an14 cd14 ct14), sl14⟩)
    (c14 : PySem.W.codeIn K cd14 "_law_well" = true) (k14 : PySem.W.keepIn K (.ref f14) = true)
    (a15 : PySem.W.nsIn K mainGlobals "law" = some (some (.ref f15))) (l15 : K.lookup f15 = some ⟨oc15, od15, .func (PySem.W.fnOf "law" "law" (defArgs s_law) (defBody s_law) (defScope s_law) .none kV15 dc15 pm15 an15 cd15 ct15), sl15⟩)
    (c15 : PySem.W.codeIn K cd15 "law" = true) (k15 : PySem.W.keepIn K (.ref f15) = true)
    (z_abs : PySem.W.nsIn K mainGlobals "abs" = some none)
    (z_all : PySem.W.nsIn K mainGlobals "all" = some none)
    (z_bool : PySem.W.nsIn K mainGlobals "bool" = some none)
    (z_divmod : PySem.W.nsIn K mainGlobals "divmod" = some none)
    (z_enumerate : PySem.W.nsIn K mainGlobals "enumerate" = some none)
    (z_int : PySem.W.nsIn K mainGlobals "int" = some none)
    (z_isinstance : PySem.W.nsIn K mainGlobals "isinstance" = some none)
    (z_len : PySem.W.nsIn K mainGlobals "len" = some none)
    (z_max : PySem.W.nsIn K mainGlobals "max" = some none)
    (z_min : PySem.W.nsIn K mainGlobals "min" = some none)
    (z_range : PySem.W.nsIn K mainGlobals "range" = some none)
    (z_repr : PySem.W.nsIn K mainGlobals "repr" = some none)
    (z_set : PySem.W.nsIn K mainGlobals "set" = some none)
    (z_sum : PySem.W.nsIn K mainGlobals "sum" = some none)
    (z_tuple : PySem.W.nsIn K mainGlobals "tuple" = some none)
    {v_BOOK_SIZES : Addr} {d_BOOK_SIZES : Option Addr} {m_BOOK_SIZES : Nat} {l_BOOK_SIZES : Array (Option Value)} {t_BOOK_SIZES_0 t_BOOK_SIZES_1 t_BOOK_SIZES_2 t_BOOK_SIZES_3 t_BOOK_SIZES_4 t_BOOK_SIZES_5 t_BOOK_SIZES_6 t_BOOK_SIZES_7 t_BOOK_SIZES_8 : Tok} (y_BOOK_SIZES : PySem.W.nsIn K mainGlobals "BOOK_SIZES" = some (some (.ref v_BOOK_SIZES)))
    (w_BOOK_SIZES : K.lookup v_BOOK_SIZES = some ⟨.type "tuple", d_BOOK_SIZES, .seq #[.int 1 t_BOOK_SIZES_0, .int 2 t_BOOK_SIZES_1, .int 4 t_BOOK_SIZES_2, .int 8 t_BOOK_SIZES_3, .int 16 t_BOOK_SIZES_4, .int 32 t_BOOK_SIZES_5, .int 64 t_BOOK_SIZES_6, .int 128 t_BOOK_SIZES_7, .int 256 t_BOOK_SIZES_8] m_BOOK_SIZES, l_BOOK_SIZES⟩)
    (ht4 : h.get? (tabOf K cd4) = some (PySem.W.tabObj #[])) (hn4 : K.lookup (tabOf K cd4) = none) (hc4 : cdOk K cd4 = true)
    : ∃ (fd : FuncData) (cs : Cds), (∀ p ∈ cs, h.get? p.2.1 = some (PySem.W.tabObj #[])) ∧ (∀ p ∈ cs, K.lookup p.2.1 = none) ∧ (∀ p ∈ cs, PySem.W.CodeHd h p.1 p.2.1) ∧ (∀ (s : Shared) (v : Value), BindsTo s fd ⟨[v], []⟩ [("_law_script", v)]) ∧ ∀ base : Heap, K.In base → base.Ns mainGlobals mg → (∀ p ∈ cs, LamX.TabB base mg p.1 p.2.1) → FnG l.prog w K mg base 9 fa fd ["_law_script"] (sp_law K cs) := by
  have e := hfa.symm.trans (PySem.W.mg_of X G a15)
  cases e
  have F0 := fun_mk (st := s_Ldraw) l0 c0 k0
  have F1 := fun_mk (st := s_first_wrong) l1 c1 k1
  have F2 := fun_mk (st := s_is_whole) l2 c2 k2
  have F3 := fun_mk (st := s_is_from) l3 c3 k3
  have F4 := fun_mk (st := s_require_checks) l4 c4 k4
  have F5 := fun_mk (st := s_lies_within) l5 c5 k5
  have F6 := fun_mk (st := s_clash) l6 c6 k6
  have F7 := fun_mk (st := s_Lis_some) l7 c7 k7
  have F8 := fun_mk (st := s_Lclashes) l8 c8 k8
  have F9 := fun_mk (st := s_Lis_index) l9 c9 k9
  have F10 := fun_mk (st := s_Lholds) l10 c10 k10
  have F11 := fun_mk (st := s_Lnoughts) l11 c11 k11
  have F12 := fun_mk (st := s_Lbook) l12 c12 k12
  have F13 := fun_mk (st := s_Lright) l13 c13 k13
  have F14 := fun_mk (st := s_Lwell) l14 c14 k14
  have F15 := fun_mk (st := s_law) l15 c15 k15
  refine ⟨PySem.W.fnOf "law" "law" (defArgs s_law) (defBody s_law) (defScope s_law) .none kV15 dc15 pm15 an15 cd15 ct15, [(cd4, tabOf K cd4, q_require_checks)], ?_, ?_, ?_, fun s v => .of_eq rfl, fun base _ _ hTB => ?_⟩
  · intro p hp
    simp only [List.mem_cons, List.not_mem_nil, or_false] at hp
    subst hp
    exact ht4
  · intro p hp
    simp only [List.mem_cons, List.not_mem_nil, or_false] at hp
    subst hp
    exact hn4
  · intro p hp
    simp only [List.mem_cons, List.not_mem_nil, or_false] at hp
    subst hp
    exact codeHd_of X hc4
  let T : Txt K mg base := {
    C_require_checks := cd4, P_require_checks := tabOf K cd4, TB_require_checks := hTB (cd4, tabOf K cd4, q_require_checks) (by simp), FC_require_checks := func_mk (st := s_require_checks) l4 c4,
    f_Ldraw := _, fd_Ldraw := _, F_Ldraw := F0, g_Ldraw := PySem.W.mg_of X G a0, bi_Ldraw := F0.binds (ps := ["_law_well_here", "_law_many"]) fun _ _ _ _ _ _ us hl => match us, hl with | [_, _], _ => rfl,
    f_first_wrong := _, fd_first_wrong := _, F_first_wrong := F1, g_first_wrong := PySem.W.mg_of X G a1, bi_first_wrong := F1.binds (ps := ["values", "is_right"]) fun _ _ _ _ _ _ us hl => match us, hl with | [_, _], _ => rfl,
    f_is_whole := _, fd_is_whole := _, F_is_whole := F2, g_is_whole := PySem.W.mg_of X G a2, bi_is_whole := F2.binds (ps := ["value"]) fun _ _ _ _ _ _ us hl => match us, hl with | [_], _ => rfl,
    f_is_from := _, fd_is_from := _, F_is_from := F3, g_is_from := PySem.W.mg_of X G a3, bi_is_from := F3.binds (ps := ["value", "least"]) fun _ _ _ _ _ _ us hl => match us, hl with | [_, _], _ => rfl,
    f_require_checks := _, fd_require_checks := _, F_require_checks := F4, g_require_checks := PySem.W.mg_of X G a4, bi_require_checks := F4.binds (ps := ["checks"]) fun _ _ _ _ _ _ us hl => match us, hl with | [_], _ => rfl,
    f_lies_within := _, fd_lies_within := _, F_lies_within := F5, g_lies_within := PySem.W.mg_of X G a5, bi_lies_within := F5.binds (ps := ["inner", "outer"]) fun _ _ _ _ _ _ us hl => match us, hl with | [_, _], _ => rfl,
    f_clash := _, fd_clash := _, F_clash := F6, g_clash := PySem.W.mg_of X G a6, bi_clash := F6.binds (ps := ["checks"]) fun _ _ _ _ _ _ us hl => match us, hl with | [_], _ => rfl,
    f_Lis_some := _, fd_Lis_some := _, F_Lis_some := F7, g_Lis_some := PySem.W.mg_of X G a7, bi_Lis_some := F7.binds (ps := ["_law_book_here"]) fun _ _ _ _ _ _ us hl => match us, hl with | [_], _ => rfl,
    f_Lclashes := _, fd_Lclashes := _, F_Lclashes := F8, g_Lclashes := PySem.W.mg_of X G a8, bi_Lclashes := F8.binds (ps := ["_law_book_here", "_law_one", "_law_two"]) fun _ _ _ _ _ _ us hl => match us, hl with | [_, _, _], _ => rfl,
    f_Lis_index := _, fd_Lis_index := _, F_Lis_index := F9, g_Lis_index := PySem.W.mg_of X G a9, bi_Lis_index := F9.binds (ps := ["_law_thing", "_law_many"]) fun _ _ _ _ _ _ us hl => match us, hl with | [_, _], _ => rfl,
    f_Lholds := _, fd_Lholds := _, F_Lholds := F10, g_Lholds := PySem.W.mg_of X G a10, bi_Lholds := F10.binds (ps := ["_law_book_here", "_law_many"]) fun _ _ _ _ _ _ us hl => match us, hl with | [_, _], _ => rfl,
    f_Lnoughts := _, fd_Lnoughts := _, F_Lnoughts := F11, g_Lnoughts := PySem.W.mg_of X G a11, bi_Lnoughts := F11.binds (ps := ["_law_number", "_law_many"]) fun _ _ _ _ _ _ us hl => match us, hl with | [_, _], _ => rfl,
    f_Lbook := _, fd_Lbook := _, F_Lbook := F12, g_Lbook := PySem.W.mg_of X G a12, bi_Lbook := F12.binds (ps := ["_law_well_here", "_law_many"]) fun _ _ _ _ _ _ us hl => match us, hl with | [_, _], _ => rfl,
    f_Lright := _, fd_Lright := _, F_Lright := F13, g_Lright := PySem.W.mg_of X G a13, bi_Lright := F13.binds (ps := ["_law_well_here"]) fun _ _ _ _ _ _ us hl => match us, hl with | [_], _ => rfl,
    f_Lwell := _, fd_Lwell := _, F_Lwell := F14, g_Lwell := PySem.W.mg_of X G a14, bi_Lwell := F14.binds (ps := ["_law_script", "_law_turn"]) fun _ _ _ _ _ _ us hl => match us, hl with | [_, _], _ => rfl,
    f_law := _, fd_law := _, F_law := F15, g_law := PySem.W.mg_of X G a15, bi_law := F15.binds (ps := ["_law_script"]) fun _ _ _ _ _ _ us hl => match us, hl with | [_], _ => rfl,
    kb_clash_0_checks := kb_clash_0_checks F6,
    b_abs := PySem.W.mg_none_of X G z_abs,
    b_all := PySem.W.mg_none_of X G z_all,
    b_bool := PySem.W.mg_none_of X G z_bool,
    b_divmod := PySem.W.mg_none_of X G z_divmod,
    b_enumerate := PySem.W.mg_none_of X G z_enumerate,
    b_int := PySem.W.mg_none_of X G z_int,
    b_isinstance := PySem.W.mg_none_of X G z_isinstance,
    b_len := PySem.W.mg_none_of X G z_len,
    b_max := PySem.W.mg_none_of X G z_max,
    b_min := PySem.W.mg_none_of X G z_min,
    b_range := PySem.W.mg_none_of X G z_range,
    b_repr := PySem.W.mg_none_of X G z_repr,
    b_set := PySem.W.mg_none_of X G z_set,
    b_sum := PySem.W.mg_none_of X G z_sum,
    b_tuple := PySem.W.mg_none_of X G z_tuple,
    v_BOOK_SIZES := _, c_BOOK_SIZES := PySem.W.mg_of X G y_BOOK_SIZES, q_BOOK_SIZES := fun _ => .inr ⟨_, _, _, w_BOOK_SIZES, rfl, rfl, (show 9 ≤ sizeLine by decide), by exact (.cons ⟨_, rfl⟩ (.cons ⟨_, rfl⟩ (.cons ⟨_, rfl⟩ (.cons ⟨_, rfl⟩ (.cons ⟨_, rfl⟩ (.cons ⟨_, rfl⟩ (.cons ⟨_, rfl⟩ (.cons ⟨_, rfl⟩ (.cons ⟨_, rfl⟩ .nil)))))))))⟩ }
  exact law_at T rfl rfl
end K08
open PySem PySem.W PyProof.Rows
set_option maxHeartbeats 0 in
theorem PySem.Challenge.cw_flashtrees_k08_books_and_what_clashes_in_holds : PySem.Challenge.rw_flashtrees_k08_books_and_what_clashes_in.Holds := by
  w_on; o_law; k_head; (case hw => w_witness2)
  k_fill
  refine Vc.walkGT (l := PySem.Challenge.rw_flashtrees_k08_books_and_what_clashes_in) (n := 63) (k := 9) (x := "_law_script") (sp := K08.sp_law) rfl (by decide) rfl ⟨rfl, by decide, by decide⟩ (fun w h Y => PySem.W.km_in_of Y) ?F K08.law_start
  case F =>
    intro w mg fa h Y KX G hmg
    refine' K08.all_mk KX G hmg ?a0 ?l0 ?c0 ?k0 ?a1 ?l1 ?c1 ?k1 ?a2 ?l2 ?c2 ?k2 ?a3 ?l3 ?c3 ?k3 ?a4 ?l4 ?c4 ?k4 ?a5 ?l5 ?c5 ?k5 ?a6 ?l6 ?c6 ?k6 ?a7 ?l7 ?c7 ?k7 ?a8 ?l8 ?c8 ?k8 ?a9 ?l9 ?c9 ?k9 ?a10 ?l10 ?c10 ?k10 ?a11 ?l11 ?c11 ?k11 ?a12 ?l12 ?c12 ?k12 ?a13 ?l13 ?c13 ?k13 ?a14 ?l14 ?c14 ?k14 ?a15 ?l15 ?c15 ?k15 ?z_abs ?z_all ?z_bool ?z_divmod ?z_enumerate ?z_int ?z_isinstance ?z_len ?z_max ?z_min ?z_range ?z_repr ?z_set ?z_sum ?z_tuple ?y_BOOK_SIZES ?w_BOOK_SIZES ?ht4 ?hn4 ?hc4
    (case a0 => k_is); (case l0 => k_is); (case c0 => k_is); (case k0 => k_is); (case a1 => k_is); (case l1 => k_is); (case c1 => k_is); (case k1 => k_is); (case a2 => k_is); (case l2 => k_is); (case c2 => k_is); (case k2 => k_is); (case a3 => k_is); (case l3 => k_is); (case c3 => k_is); (case k3 => k_is); (case a4 => k_is); (case l4 => k_is); (case c4 => k_is); (case k4 => k_is); (case a5 => k_is); (case l5 => k_is); (case c5 => k_is); (case k5 => k_is); (case a6 => k_is); (case l6 => k_is); (case c6 => k_is); (case k6 => k_is); (case a7 => k_is); (case l7 => k_is); (case c7 => k_is); (case k7 => k_is); (case a8 => k_is); (case l8 => k_is); (case c8 => k_is); (case k8 => k_is); (case a9 => k_is); (case l9 => k_is); (case c9 => k_is); (case k9 => k_is); (case a10 => k_is); (case l10 => k_is); (case c10 => k_is); (case k10 => k_is); (case a11 => k_is); (case l11 => k_is); (case c11 => k_is); (case k11 => k_is); (case a12 => k_is); (case l12 => k_is); (case c12 => k_is); (case k12 => k_is); (case a13 => k_is); (case l13 => k_is); (case c13 => k_is); (case k13 => k_is); (case a14 => k_is); (case l14 => k_is); (case c14 => k_is); (case k14 => k_is); (case a15 => k_is); (case l15 => k_is); (case c15 => k_is); (case k15 => k_is); (case z_abs => k_is); (case z_all => k_is); (case z_bool => k_is); (case z_divmod => k_is); (case z_enumerate => k_is); (case z_int => k_is); (case z_isinstance => k_is); (case z_len => k_is); (case z_max => k_is); (case z_min => k_is); (case z_range => k_is); (case z_repr => k_is); (case z_set => k_is); (case z_sum => k_is); (case z_tuple => k_is); (case y_BOOK_SIZES => k_is); (case w_BOOK_SIZES => k_is)
    (case ht4 => first | exact (PySem.W.km_tabs_of Y _ (Vc.mem_of (by kernel_rfl))) | (refine Vc.none_of ?_; kernel_rfl) | kernel_rfl); (case hn4 => first | exact (PySem.W.km_tabs_of Y _ (Vc.mem_of (by kernel_rfl))) | (refine Vc.none_of ?_; kernel_rfl) | kernel_rfl); (case hc4 => first | exact (PySem.W.km_tabs_of Y _ (Vc.mem_of (by kernel_rfl))) | (refine Vc.none_of ?_; kernel_rfl) | kernel_rfl)
