import PyProof.Rows.All
import Wide.All
import OpenK.AllK
import Wide.FinOn
import HandS.ForMost
import HandS.IsInst
import HandS.Wide
import HandS.WideBits
import HandS.Style
import PyProof.ReprRoads
import PyProof.ReprLen
import PyProof.StrLawsRepr
import PyProof.FString3
import PyProof.Rows.StrIntSpec
import PyProof.Rows.StrCountLaw
import HandS.FStr
import HandS.Iter
import PyProof.CollectIter
import PyProof.Draws
import PyProof.EnumMake
import HandS.Star
import HandS.IterVal
import HandS.TupAny
import HandS.TupMul
import HandS.Dict
import PySem.Challenge.RW_flashtrees_k03_whole_pages_of_anything
set_option Elab.async false
set_option linter.all false
set_option maxRecDepth 100000
set_option maxHeartbeats 4000000
set_option exponentiation.threshold 4000
namespace Vc
open PySem PySem.Spec PyProof.Rows L2
/-! ### calls where the guards are told (repr of a list asks them) -/
structure FnG (P : Program) (w : World) (K : PySem.W.Frag) (mg : Str → Option Value) (base : Heap) (k : Nat) (f : Addr) (fd : FuncData) (ps : List Str) (sp : Sp) : Prop where
  len : ∀ vs H Q E, sp vs H Q E → vs.length = ps.length
  run : ∀ (A : Around) (outer : List Env) (s : Shared) (H : Hp) (args : Args) (us : List Value) (vs : List V) (Q : VK), A.guards = some [] → Room k A → Env0 P w K mg base A outer s H →
    BindsTo s fd args (ps.zip us) → Vals vs us → sp vs H Q E0 → codeAny (model P w) A (.call (.ref f) args) (CR CX0 outer P w H s Q E0) s
section
variable {X : Cx} {k : Nat} {f : Addr} {fd : FuncData} {ps ks : List Str} {sp : Sp} {dvs : List V} {ds : List Value} {x : Str} {p pos : Pos} {e : Expr} {es : List Expr} {t tk : TA} {kws : List Keyword}
  {g : List Value → List Value → List Value} {gV : List V → List V → List V}
theorem end_of {pins : List (Addr × Obj)} {σ : L2.St} {H : Hp} {s s' : Shared} {Q : VK} {r : Result} (I : Inv X pins σ H s) (h : CR CX0 X.stack X.prog X.w H s Q E0 r s') :
    match r with | .ok (.ret u) => EP X pins σ Q u s' | _ => False := by
  cases r with
  | error _ => exact (show False from h)
  | ok fl => cases fl with
    | ret _ => exact I.after h
    | next => exact (show False from h)
    | brk => exact (show False from h)
    | cont => exact (show False from h)
theorem runG {pins : List (Addr × Obj)} {σ : L2.St} {H : Hp} {s : Shared} {Q : VK} {us : List Value} {vs : List V} (F : FnG X.prog X.w X.K X.mg X.base k f fd ps sp) (hgd : X.A.guards = some []) (hr : Room k X.A) (hb : Binds X.K fd ps ds) (hd : Vals dvs ds)
    (I : Inv X pins σ H s) (r : Vals vs us) (h : sp (vs ++ dvs) H Q E0) : wpAny (model X.prog X.w) X.A (call (.ref f) us) (EP X pins σ Q) X.xe s := by
  have rr := r.append hd
  have hl : (us ++ ds).length = ps.length := rr.length.symm.trans (F.len _ _ _ _ h)
  refine wpAny_call (codeAny_mono (F.run _ _ _ _ _ _ _ _ hgd hr I.env0 (hb s us I.kIn hl) rr h) fun r s' hq => ?_)
  have z := end_of I hq
  cases r with
  | error _ => exact z.elim
  | ok fl => cases fl with
    | ret _ => exact z
    | next => exact z.elim
    | brk => exact z.elim
    | cont => exact z.elim
theorem pe_callG (F : FnG X.prog X.w X.K X.mg X.base k f fd ps sp) (hgd : X.A.guards = some []) (hr : Room k X.A) (hg : Gl X x) (hm : X.mg x = some (.ref f)) (hk : PySem.W.keepIn X.K (.ref f) = true) (hb : Binds X.K fd ps ds) (hd : Vals dvs ds)
    (ha : PA X (e :: es) t) (hdb : (x == ("__debug__" : Str)) = false := by decide) (he : starEach (e :: es) X.env = (false, eval e X.env) :: starEach es X.env := by rfl)
    (hpl : (backTo pos (starEach es X.env)).any (·.1) = false := by rfl) : PE X (.Call (.Name x p) (e :: es) [] pos) (tCall sp dvs E0 t) :=
  ⟨fun pins s σ H Q I h => wpAny_Call_Name_kw (ld_glob I hg hm (PySem.W.callWith_K (h₀ := X.base) I.ok.mod.kin hk (thn (ha.run pos pins s σ H _ I h)
    fun us s1 hh => by obtain ⟨vs, H1, I1, r, q⟩ := hh; exact ⟨I1.kIn, runG F hgd hr hb hd I1 r q⟩) he hpl) hdb)⟩
theorem pe_callG0 (F : FnG X.prog X.w X.K X.mg X.base k f fd ps sp) (hgd : X.A.guards = some []) (hr : Room k X.A) (hg : Gl X x) (hm : X.mg x = some (.ref f)) (hk : PySem.W.keepIn X.K (.ref f) = true) (hb : Binds X.K fd ps ds) (hd : Vals dvs ds)
    (hdb : (x == ("__debug__" : Str)) = false := by decide) : PE X (.Call (.Name x p) [] [] pos) (tCall sp dvs E0 tNil) :=
  ⟨fun pins s σ H Q I h => wpAny_Call_Name_kw (ld_glob I hg hm (PySem.W.callWith_K0 I.kIn hk (runG (us := []) F hgd hr hb hd I .nil h)) hdb)⟩
theorem runGk {pins : List (Addr × Obj)} {σ : L2.St} {H : Hp} {s : Shared} {Q : VK} {us ws : List Value} {vs zs : List V} (F : FnG X.prog X.w X.K X.mg X.base k f fd ps sp) (hgd : X.A.guards = some []) (hr : Room k X.A) (hb : KBinds X.K fd ps ks g gV)
    (I : Inv X pins σ H s) (r : Vals vs us) (rz : Vals zs ws) (h : sp (gV vs zs) H Q E0) : wpAny (model X.prog X.w) X.A (call (.ref f) us (ks.zip ws)) (EP X pins σ Q) X.xe s := by
  have rr := hb.rel r rz
  have hl : (g us ws).length = ps.length := rr.length.symm.trans (F.len _ _ _ _ h)
  refine wpAny_call (codeAny_mono (F.run _ _ _ _ _ _ _ _ hgd hr I.env0 (hb.to s us ws I.kIn hl) rr h) fun r s' hq => ?_)
  have z := end_of I hq
  cases r with
  | error _ => exact z.elim
  | ok fl => cases fl with
    | ret _ => exact z
    | next => exact z.elim
    | brk => exact z.elim
    | cont => exact z.elim
theorem pe_callGK (F : FnG X.prog X.w X.K X.mg X.base k f fd ps sp) (hgd : X.A.guards = some []) (hr : Room k X.A) (hg : Gl X x) (hm : X.mg x = some (.ref f)) (hk : PySem.W.keepIn X.K (.ref f) = true) (hb : KBinds X.K fd ps ks g gV)
    (ha : PA X (e :: es) t) (hkw : PK X kws tk) (hall : (backToKw pos (keywordEach kws X.env)).all (·.1.isSome) = true := by rfl) (hks : (backToKw pos (keywordEach kws X.env)).filterMap (·.1) = ks := by rfl)
    (hdb : (x == ("__debug__" : Str)) = false := by decide) (he : starEach (e :: es) X.env = (false, eval e X.env) :: starEach es X.env := by rfl)
    (hpl : ((backTo pos (starEach (e :: es) X.env)).any (·.1) || (backToKw pos (keywordEach kws X.env)).any (·.1.isNone)) = false := by rfl) : PE X (.Call (.Name x p) (e :: es) kws pos) (tCallK sp gV E0 t tk) :=
  ⟨fun pins s σ H Q I h => wpAny_Call_Name_kw (ld_glob I hg hm (PySem.W.callWith_KW (h₀ := X.base) I.ok.mod.kin hk hall (thn (ha.run pos pins s σ H _ I h)
    fun us s1 hh => by
      obtain ⟨vs, H1, I1, r, q⟩ := hh
      refine thn (hkw.run pos pins s1 σ H1 _ I1 q) fun ws s2 hz => ?_
      obtain ⟨zs, H2, I2, rz, q2⟩ := hz
      refine ⟨I2.kIn, ?_⟩
      rw [hks]
      exact runGk F hgd hr hb I2 r rz q2) hpl he) hdb)⟩
theorem pe_callGK0 (F : FnG X.prog X.w X.K X.mg X.base k f fd ps sp) (hgd : X.A.guards = some []) (hr : Room k X.A) (hg : Gl X x) (hm : X.mg x = some (.ref f)) (hk : PySem.W.keepIn X.K (.ref f) = true) (hb : KBinds X.K fd ps ks g gV)
    (hkw : PK X kws tk) (hall : (backToKw pos (keywordEach kws X.env)).all (·.1.isSome) = true := by rfl) (hks : (backToKw pos (keywordEach kws X.env)).filterMap (·.1) = ks := by rfl)
    (hdb : (x == ("__debug__" : Str)) = false := by decide)
    (hpl : ((backTo pos (starEach [] X.env)).any (·.1) || (backToKw pos (keywordEach kws X.env)).any (·.1.isNone)) = false := by rfl) : PE X (.Call (.Name x p) [] kws pos) (tCallK sp gV E0 tNil tk) :=
  ⟨fun pins s σ H Q I h => wpAny_Call_Name_kw (ld_glob I hg hm (PySem.W.callWith_KW0 (h₀ := X.base) I.ok.mod.kin hk hall (thn (hkw.run pos pins s σ H _ I h) fun ws s2 hz => by
      obtain ⟨zs, H2, I2, rz, q2⟩ := hz
      refine ⟨I2.kIn, ?_⟩
      rw [hks]
      exact runGk (us := []) F hgd hr hb I2 .nil rz q2) hpl) hdb)⟩
end
/-! ### a def's body, with the guards -/
section
variable {P : Program} {w : World} {K : PySem.W.Frag} {mg : Str → Option Value} {base : Heap}
theorem FnG.mono {j k : Nat} {f : Addr} {fd : FuncData} {ps : List Str} {sp : Sp} (F : FnG P w K mg base j f fd ps sp) (h : j ≤ k) : FnG P w K mg base k f fd ps sp :=
  ⟨F.len, fun A outer s H args us vs Q hgd hr => F.run A outer s H args us vs Q hgd (hr.mono h)⟩
theorem okG {x qual : Str} {st : Stmt} {f : Addr} {fd : FuncData} {N ps : List Str} {k : Nat} {sp : Sp} (F : Fun K x qual st f fd) (S : FnScope N ps (defScope st)) (len : ∀ vs H Q E, sp vs H Q E → vs.length = ps.length)
    (hbody : ∀ (cdv : Value) (A : Around) (outer : List Env) (s : Shared) (H : Hp) (vs : List V) (Q : VK), (A.deeper (envOfC qual (defScope st) s.heap.objs.size f cdv)).guards = some [] → Room k (A.deeper (envOfC qual (defScope st) s.heap.objs.size f cdv)) → sp vs H Q E0 →
      ∃ t, PSs (cxOf CX0 P w K mg base N qual (defScope st) f cdv A outer s H E0).nox (defBody st) t ∧ t { nx := fun _ H' => Q .non H', rt := Q } (start N vs) H) : FnG P w K mg base (k + 1) f fd ps sp := by
  obtain ⟨oc, od, kV, doc, pm, an, cdv, ct, osl, rfl, lk, hcd⟩ := F.ex
  refine ⟨len, fun A outer s H args us vs Q hgd hr e0 hb r hsp => ?_⟩
  have lim := e0.mod.nolimit.keeps fun b o e => (e0.bs b o e).1
  have kin : K.In s.heap := e0.mod.kin.keeps fun b o e => (e0.bs b o e).1
  refine codeAny_call_function hr.depth (kin _ _ lk) rfl S.co S.gen rfl (PySem.W.codeRec_of kin hcd) (hb _ _ _ _ ?_)
  refine wpAny_newFunctionEnv_cells S.kind (fun y hy => ?_) fun env he s1 xx => ?_
  · rcases S.par y.1 (List.of_mem_zip hy).1 with z | z
    · exact Or.inl z
    · exact Or.inr ⟨z, PySem.W.cellsFrom_some _ _ _ (Or.inl z)⟩
  · subst he
    refine ⟨lim.keeps xx.toInCall.keep, codeAny_func ?_⟩
    obtain ⟨t, ht0, hq⟩ := hbody cdv A outer s H vs Q hgd (hr.deeper _) hsp
    have ht := ht0.nox
    have I := inv_start (CX := CX0) (E := E0) (w := w) (P := P) S hr.hd e0 (len _ _ _ _ hsp) r xx
    refine wpAny_mono (ht.run [] s1 (start N vs) H _ I hq) (fun fl s' hs => ?_) fun e s' hs => hs
    cases fl with
    | ret u => obtain ⟨v, σ', H', J, rv, q⟩ := hs; exact ⟨v, H', J.os, J.bare, J.base, J.hok, rv, q⟩
    | next => obtain ⟨σ', H', J, q⟩ := hs; exact ⟨V.non, H', J.os, J.bare, J.base, J.hok, rfl, q⟩
    | brk => obtain ⟨_, _, _, q⟩ := hs; exact q.elim
    | cont => obtain ⟨_, _, _, q⟩ := hs; exact q.elim
end
/-! ### the end of a law -/
section
variable {P : Program} {w : World} {K : PySem.W.Frag} {mg mb : Str → Option Value} {k : Nat} {fa a : Addr} {fd : FuncData} {x : Str} {sp : Sp} {s : Shared} {vs : List Value} {ns : List Int}
theorem fromTop (H : Hp) (hA : ∀ b o, H b = some o → b = a) (hK : ∀ o, H a = some o → K.lookup a = none) (hO : ∀ b o, H b = some o → ∃ ob xs, o = .frz ob (.lst xs)) (hS : SqL K H a (ns.map V.int)) (hok : HOk P w H s.heap)
    (kin : K.In s.heap) (hns : s.heap.Ns mainGlobals mg) (hb : s.heap.Ns builtinsNs mb) (hbb : ∀ y : Str, y ≠ "__name__" → mb y = bootBuiltins y) (lim : s.heap.NoLimit) (hg : s.gens = #[])
    (ha : s.heap.get? a = some { cls := .type "list", data := .seq vs.toArray }) (hi : IntsAre vs ns) (hr : Room k callerA)
    (F : ∀ base : Heap, K.In base → base.Ns mainGlobals mg → FnG P w K mg base k fa fd [x] sp) (hbind : ∀ (s : Shared) (u : Value), BindsTo s fd ⟨[u], []⟩ [(x, u)]) (hsp : sp [.ref a] H (fun v _ => v = .bl true) E0) :
    codeAny (model P w) callerA (.call (.ref fa) ⟨[.ref a], []⟩) (fun r s' => r = .ok (.ret (.bool true)) ∧ OldK s.heap s'.heap ∧ s'.os = s.os ∧ AllBare s'.gens) s := by
  have free : ∀ {b : Addr} {o : Obj}, s.heap.get? b = some o → (b = a → H a = none) → H b = none := fun {b o} e q => by
    cases z : H b with
    | none => rfl
    | some u =>
      have eb := hA b u z
      subst eb
      rw [q rfl] at z
      cases z
  have dict : ∀ {b : Addr} {m : Str → Option Value}, s.heap.Ns b m → (hidT s.heap H).Ns b m := fun {b m} z => by
    obtain ⟨o, es, ep, e, d, r⟩ := z
    refine ⟨o, es, ep, hidT_get e (free e fun eb => ?_), d, r⟩
    subst eb
    rw [ha] at e
    cases e
    cases (show Data.seq vs.toArray _ = Data.dict es ep from d)
  have kin' : K.In (hidT s.heap H) := fun b o e => hidT_get (kin b o e) (free (kin b o e) fun eb => by
    subst eb
    cases z : H b with
    | none => rfl
    | some u =>
      rw [hK u z] at e
      cases e)
  obtain ⟨mc, c1, c2⟩ := lim
  have md : Mod K mg (hidT s.heap H) := ⟨kin', dict hns, ⟨mb, dict hb, hbb⟩, mc, dict c1, c2⟩
  have nil : ∀ b : Addr, b ∉ ([] : List Addr) := fun _ z => nomatch z
  have e0 : Env0 P w K mg (hidT s.heap H) callerA [] s H := ⟨rfl, md, fun _ _ e => of_hidT e, Nat.le_of_eq (hidT_size _ _), trivial, fun b z => (nil b z).elim, hok, .of_eq hg⟩
  have main := (F _ kin' (dict hns)).run callerA [] s H ⟨[.ref a], []⟩ [.ref a] [.ref a] (fun v _ => v = .bl true) rfl hr e0 (hbind s _) (.cons rfl .nil) hsp
  refine codeAny_mono main fun r s' h => ?_
  cases r with
  | error _ => exact (show False from h).elim
  | ok fl => cases fl with
    | next => exact (show False from h).elim
    | brk => exact (show False from h).elim
    | cont => exact (show False from h).elim
    | ret u =>
      obtain ⟨v, H', os, bare, un, hok', rv, q⟩ := (show CE [] P w H s (fun v _ => v = .bl true) u s' from h)
      subst q
      have eu : u = Value.bool true := rv
      subst eu
      refine ⟨rfl, OldK.of_keep fun b o e => ?_, os, bare⟩
      cases q : H b with
      | none => exact un.keep b o e q (nil b) (nil b)
      | some t =>
        obtain ⟨ob, xs, z⟩ := hO b t q
        subst z
        have e1 := (hok b _ q).1
        rw [e] at e1
        cases e1
        exact (hok' b _ (un.frzs b _ _ q)).1
theorem walkG {l : PySem.W.OpenLaw} {n : Nat} {q : Program} {loose : List Str} {XP : (Str → Option Value) → Heap → Prop} {YP : World → Heap → Prop} {d : DefRec} {KK : Params → PySem.W.Frag} {sp : PySem.W.Frag → Sp}
    (hn : l.most = some n) (hn2 : n ≤ sizeLine) (hdf : d.params.defaults = []) (hr : Room k callerA) (hY : ∀ (w : World) (h : Heap), YP w h → (KK w.params).In h)
    (F : ∀ (w : World) (mg : Str → Option Value) (fa : Addr) (h : Heap), (KK w.params).In h → h.Ns mainGlobals mg → mg d.name = some (.ref fa) →
      ∃ fd : FuncData, (∀ (s : Shared) (u : Value), BindsTo s fd ⟨[u], []⟩ [(x, u)]) ∧ ∀ base : Heap, (KK w.params).In base → base.Ns mainGlobals mg → FnG l.prog w (KK w.params) mg base k fa fd [x] (sp (KK w.params)))
    (hsp : ∀ (K : PySem.W.Frag) (H : Hp) (a : Addr) (ns : List Int), ns.length ≤ n → SqL K H a (ns.map V.int) → (∀ b o, H b = some o → ∃ ob xs, o = .frz ob (.lst xs)) → sp K [.ref a] H (fun v _ => v = .bl true) E0) :
    PySem.W.WalkO q loose XP YP l.row.toRowW d [] (fun f vs => PySem.call f vs) :=
  Att.attach_call hn hdf fun w s0 s mg mb fa o pm cd doc a vs ns G Y ho hd hcd hmg hobj hints hlen hg => by
    have kin := hY w _ Y
    obtain ⟨fd, hb, hF⟩ := F w mg fa _ kin G.T.g hmg
    have hl : vs.length ≤ sizeLine := Nat.le_trans (Nat.le_of_eq hints.length) (Nat.le_trans hlen hn2)
    cases hk : (KK w.params).lookup a with
    | some ob =>
      have e := kin a ob hk
      rw [hobj] at e
      cases e
      have S : SqL (KK w.params) (fun _ => none) a (ns.map V.int) := Or.inr ⟨_, vs.toArray, _, hk, rfl, rfl, rfl, by rw [List.size_toArray]; exact hl, by simpa using vals_ints hints⟩
      exact fromTop (fun _ => none) (fun _ _ z => nomatch z) (fun _ z => nomatch z) (fun _ _ z => nomatch z) S (fun _ _ z => nomatch z) kin G.T.g G.T.b G.T.builtins G.T.nolimit hg hobj hints hr hF hb (hsp _ _ _ _ hlen S fun _ _ z => nomatch z)
    | none =>
      have one : ∀ (b : Addr) (u : HO), (if b = a then some (HO.frz { cls := .type "list", data := .seq vs.toArray } (.lst (ns.map V.int))) else none) = some u → b = a ∧ u = HO.frz { cls := .type "list", data := .seq vs.toArray } (.lst (ns.map V.int)) := fun b u z => by
        by_cases eb : b = a
        · rw [if_pos eb] at z
          exact ⟨eb, (Option.some.inj z).symm⟩
        · rw [if_neg eb] at z
          cases z
      have S : SqL (KK w.params) (fun b => if b = a then some (HO.frz { cls := .type "list", data := .seq vs.toArray } (.lst (ns.map V.int))) else none) a (ns.map V.int) := Or.inl (Or.inr ⟨_, if_pos rfl⟩)
      have O : ∀ b o, (fun b => if b = a then some (HO.frz { cls := .type "list", data := .seq vs.toArray } (.lst (ns.map V.int))) else none) b = some o → ∃ ob xs, o = .frz ob (.lst xs) := fun b o z => ⟨_, _, (one b o z).2⟩
      refine fromTop _ (fun b o z => (one b o z).1) (fun _ _ => hk) O S (fun b u z => ?_) kin G.T.g G.T.b G.T.builtins G.T.nolimit hg hobj hints hr hF hb (hsp _ _ _ _ hlen S O)
      obtain ⟨eb, eu⟩ := one b u z
      subst eb
      subst eu
      exact ⟨hobj, by rw [List.length_map, ← hints.length]; exact hl, vs, _, vals_ints hints, hobj⟩
end
end Vc
namespace Vc
open PySem PySem.Spec PyProof.Rows L2
/-! ### repr of data -/
mutual
def nsz : PyData → Nat
  | .none => 1
  | .bool _ => 1
  | .int _ => 1
  | .str x => x.length + 1
  | .list ds => nszs ds + 1
  | .tuple ds => nszs ds + 1
  | .dict _ => 100000
def nszs : List PyData → Nat
  | [] => 0
  | d :: ds => nsz d + nszs ds
end
mutual
/-- what repr writes without more ado -/
def shb : PyData → Bool
  | .none => true
  | .bool _ => true
  | .int i => decide (i.natAbs.log2 < 1920)
  | .str x => x.cps.toList.all fun c => decide (c < 16 ^ 8)
  | .list ds => shbs ds
  | .tuple ds => shbs ds
  | .dict _ => false
def shbs : List PyData → Bool
  | [] => true
  | d :: ds => shb d && shbs ds
end
mutual
theorem shb_show : ∀ d : PyData, shb d = true → d.showable = true ∧ d.hasDict = false
  | .none, _ => ⟨rfl, by simp only [PyData.hasDict]⟩
  | .bool _, _ => ⟨rfl, by simp only [PyData.hasDict]⟩
  | .int i, h => ⟨by simpa only [PyData.showable, shb] using h, by simp only [PyData.hasDict]⟩
  | .str _, _ => ⟨rfl, by simp only [PyData.hasDict]⟩
  | .list ds, h => by
    have := shbs_show ds (by simpa only [shb] using h)
    exact ⟨by simpa only [PyData.showable] using this.1, by simpa only [PyData.hasDict] using this.2⟩
  | .tuple ds, h => by
    have := shbs_show ds (by simpa only [shb] using h)
    exact ⟨by simpa only [PyData.showable] using this.1, by simpa only [PyData.hasDict] using this.2⟩
  | .dict _, h => by simp [shb] at h
theorem shbs_show : ∀ ds : List PyData, shbs ds = true → PyData.showableAll ds = true ∧ PyData.hasDictAll ds = false
  | [], _ => ⟨rfl, by simp only [PyData.hasDictAll]⟩
  | d :: ds, h => by
    have h' : shb d = true ∧ shbs ds = true := by simpa only [shbs, Bool.and_eq_true] using h
    have a := shb_show d h'.1
    have b := shbs_show ds h'.2
    exact ⟨by simp only [PyData.showableAll, a.1, b.1, Bool.and_self], by simp only [PyData.hasDictAll, a.2, b.2, Bool.or_self]⟩
end
mutual
theorem shown_nsz : ∀ d : PyData, shb d = true → d.shown.length + 6 ≤ 1940 * nsz d
  | .none, _ => by
    have e : (PyData.shown .none).length = 4 := rfl
    simp only [nsz]
    omega
  | .bool b, _ => by
    have e : (PyData.shown (.bool b)).length ≤ 5 := by cases b <;> decide
    simp only [nsz]
    omega
  | .int i, h => by
    have e : (PyData.shown (.int i)).length ≤ 1921 := int_text_len_1921 (by simpa only [shb, decide_eq_true_eq] using h)
    simp only [nsz]
    omega
  | .str x, h => by
    have e := PySem.StrLaws.reprText_len x (by simpa only [shb, List.all_eq_true, decide_eq_true_eq] using h)
    simp only [PyData.shown, nsz]
    omega
  | .list ds, h => by
    have a := shown_nszs ds (by simpa only [shb] using h)
    have b := listText_len_le (PyData.shownAll ds)
    simp only [PyData.shown, nsz]
    omega
  | .tuple ds, h => by
    have a := shown_nszs ds (by simpa only [shb] using h)
    have b := tupleText_len_le (PyData.shownAll ds)
    simp only [PyData.shown, nsz]
    omega
  | .dict _, h => by simp [shb] at h
theorem shown_nszs : ∀ ds : List PyData, shbs ds = true → ((PyData.shownAll ds).map (·.length)).sum + 2 * (PyData.shownAll ds).length ≤ 1940 * nszs ds
  | [], _ => by simp [PyData.shownAll, nszs]
  | d :: ds, h => by
    have h' : shb d = true ∧ shbs ds = true := by simpa only [shbs, Bool.and_eq_true] using h
    have a := shown_nsz d h'.1
    have b := shown_nszs ds h'.2
    simp only [PyData.shownAll, nszs, List.map_cons, List.sum_cons, List.length_cons]
    omega
end
/-- data that repr writes: small, not deep -/
def Shw (d : PyData) : Prop := shb d = true ∧ nsz d ≤ 8000 ∧ d.depth ≤ 60
def rRepr (K : PySem.W.Frag) : List V → Hp → VK → Prop := fun xs H Q => ∃ x d, xs = [x] ∧ Dp K H x d ∧ Shw d ∧ Q (.str d.shown) H
section
variable {X : Cx}
theorem cr_repr (hgd : X.A.guards = some []) (hu : X.A.units + 64 < cLine) : CallR X (.builtin "repr") (rRepr X.K) := by
  intro pins s σ H xs us Q I r h
  obtain ⟨x, d, rfl, hd, ⟨h1, h2, h3⟩, q⟩ := h
  obtain ⟨u, rfl, rx⟩ := vals1 r
  have fit : d.shown.length ≤ sizeLine := by
    have a := shown_nsz d h1
    rw [sizeLine_eq]
    omega
  have key : ∀ (b : Addr), u = .ref b → wpAny (model X.prog X.w) X.A (call (.builtin "repr") [u]) (EP X pins σ Q) X.xe s := fun b e => by
    subst e
    obtain ⟨as, r1⟩ := Dp.reads I d x _ hd rx
    have sh := shb_show d h1
    exact repr_of_reads' r1 sh.1 (PyData.noDict_hsm sh.2) hgd (by omega) (fun _ _ e => e) (fun h' u tk hk => ⟨V.str _, H, I.kept hk, ⟨_, rfl⟩, q⟩) fit
  cases hd with
  | non => cases rx; exact PySem.P.repr_of_none ⟨V.str _, H, I.tok _, ⟨_, rfl⟩, q⟩
  | bl b => cases rx; exact PySem.P.repr_of_bool ⟨V.str _, H, I.tok _, ⟨_, rfl⟩, q⟩
  | int i =>
    obtain ⟨t, rfl⟩ := rx
    exact PySem.P.repr_of_int (by simpa only [shb, decide_eq_true_eq] using h1) ⟨V.str _, H, I.tok _, ⟨_, rfl⟩, q⟩
  | str y =>
    obtain ⟨t, rfl⟩ := rx
    exact PySem.P.repr_of_str ⟨V.str _, H, I.tok _, ⟨_, rfl⟩, q⟩ fit
  | lst hs ha => exact key _ rx
  | tup hs ha => exact key _ rx
end
/-! ### which data are so -/
theorem shw_int {i : Int} (h : i.natAbs < 2 ^ 1920) : shb (.int i) = true := by
  simp only [shb, decide_eq_true_eq]
  by_cases z : i.natAbs = 0
  · rw [z]; decide
  · exact (Nat.log2_lt z).mpr h
theorem shbs_all : ∀ {ds : List PyData}, (∀ d ∈ ds, shb d = true) → shbs ds = true
  | [], _ => rfl
  | d :: ds, h => by
    simp only [shbs, h d List.mem_cons_self, shbs_all fun e he => h e (List.mem_cons_of_mem _ he), Bool.and_self]
theorem nszs_all {n : Nat} : ∀ {ds : List PyData}, (∀ d ∈ ds, nsz d ≤ n) → nszs ds ≤ n * ds.length
  | [], _ => by simp [nszs]
  | d :: ds, h => by
    have a := h d List.mem_cons_self
    have b := nszs_all (n := n) fun e he => h e (List.mem_cons_of_mem _ he)
    simp only [nszs, List.length_cons, Nat.mul_add, Nat.mul_one]
    omega
theorem depth_all {n : Nat} : ∀ {ds : List PyData}, (∀ d ∈ ds, d.depth ≤ n) → PyData.depthAll ds ≤ n
  | [], _ => by simp [PyData.depthAll]
  | d :: ds, h => by
    have a := h d List.mem_cons_self
    have b := depth_all (n := n) fun e he => h e (List.mem_cons_of_mem _ he)
    simp only [PyData.depthAll]
    omega
/-- a leaf: none, a bool, an int of at most 1920 bits, a short text -/
def Leaf (d : PyData) : Prop := shb d = true ∧ nsz d ≤ 20 ∧ d.depth = 0
theorem leaf_int {i : Int} (h : i.natAbs < 2 ^ 1920) : Leaf (.int i) := ⟨shw_int h, by simp [nsz], rfl⟩
theorem leaf_bool (b : Bool) : Leaf (.bool b) := ⟨rfl, by simp [nsz], rfl⟩
theorem leaf_none : Leaf .none := ⟨rfl, by simp [nsz], rfl⟩
theorem Leaf.shw {d : PyData} (h : Leaf d) : Shw d := ⟨h.1, by have := h.2.1; omega, by rw [h.2.2]; omega⟩
theorem shw_list {ds : List PyData} (h : ∀ d ∈ ds, Leaf d) (hl : ds.length ≤ 390) : Shw (.list ds) := by
  have a := nszs_all (n := 20) fun d hd => (h d hd).2.1
  have b := depth_all (n := 0) fun d hd => Nat.le_of_eq (h d hd).2.2
  exact ⟨by simpa only [shb] using shbs_all fun d hd => (h d hd).1, by simp only [nsz]; omega, by simp only [PyData.depth]; omega⟩
theorem shw_tuple {ds : List PyData} (h : ∀ d ∈ ds, Leaf d) (hl : ds.length ≤ 390) : Shw (.tuple ds) := by
  have a := nszs_all (n := 20) fun d hd => (h d hd).2.1
  have b := depth_all (n := 0) fun d hd => Nat.le_of_eq (h d hd).2.2
  exact ⟨by simpa only [shb] using shbs_all fun d hd => (h d hd).1, by simp only [nsz]; omega, by simp only [PyData.depth]; omega⟩
end Vc
namespace Vc
open PySem PySem.Spec PyProof.Rows L2
/-! ### readings, step by step -/
/-- a new tuple, a new list -/
def NewT (xs : List V) (H : Hp) (Q : VK) : Prop := xs.length ≤ sizeLine ∧ ∀ p, H p = none → Q (.ref p) (upd H p (.tup xs))
def NewL (xs : List V) (H : Hp) (Q : VK) : Prop := xs.length ≤ sizeLine ∧ ∀ p, H p = none → Q (.ref p) (upd H p (.lst xs))
section
variable {σ τ : L2.St} {H : Hp} {Q : VK} {QT : Bool → Hp → Prop} {QA : List V → Hp → Prop} {D : Ends} {ta tb tc te : TE} {t u : TT} {ts us : TS} {tA tr : TA} {v x y : V} {i j : Int} {n : Nat} {r r' : R2} {g : TG} {gs : TGs} {K : PySem.W.Frag}
theorem v_seq (h : ts { D with nx := us D } σ H) : tSeq ts us D σ H := h
theorem v_next (h : D.nx σ H) : tNext D σ H := h
theorem v_asg (h : te σ H fun x H1 => g x σ H1 D.nx) : tAsg te g D σ H := h
theorem v_name {Q : L2.St → Hp → Prop} (h : Q (σ.set n (some v)) H) : gName n v σ H Q := h
theorem v_var (e : σ[n]? = some (some v)) (h : Q v H) : tVar n σ H Q := ⟨v, e, h⟩
theorem v_c (h : Q v H) : tC v σ H Q := h
theorem v_op (h : ta σ H fun x H1 => tb σ H1 fun y H2 => r x y H2 Q) : tOp r ta tb σ H Q := h
theorem v_un {r : V → Hp → VK → Prop} (h : ta σ H fun x H1 => r x H1 Q) : tUn r ta σ H Q := h
theorem v_I0 {g : Int → Int → V} (h : Q (g i j) H) : rI0 g (.int i) (.int j) H Q := ⟨i, j, rfl, rfl, h⟩
theorem v_I {C : Int → Int → Prop} {g : Int → Int → V} (c : C i j) (h : Q (g i j) H) : rI C g (.int i) (.int j) H Q := ⟨i, j, rfl, rfl, c, h⟩
theorem v_U {g : Int → V} (h : Q (g i) H) : rU g (.int i) H Q := ⟨i, rfl, h⟩
theorem v_eqI (h : Q (.bl (decide (i = j))) H) : rEq (.int i) (.int j) H Q := ⟨rfl, by rw [show decide ((V.int i) = (V.int j)) = decide (i = j) by simp]; exact h⟩
theorem v_neI (h : Q (.bl (decide (i ≠ j))) H) : rNe (.int i) (.int j) H Q := ⟨rfl, by rw [show (!decide ((V.int i) = (V.int j))) = decide (i ≠ j) by simp]; exact h⟩
theorem v_eqS {a b : Str} (h : Q (.bl (decide (a = b))) H) : rEq (.str a) (.str b) H Q := ⟨rfl, by rw [show decide ((V.str a) = (V.str b)) = decide (a = b) by simp]; exact h⟩
theorem v_neS {a b : Str} (h : Q (.bl (decide (a ≠ b))) H) : rNe (.str a) (.str b) H Q := ⟨rfl, by rw [show (!decide ((V.str a) = (V.str b))) = decide (a ≠ b) by simp]; exact h⟩
/-- the same text twice -/
theorem v_neS0 {a : Str} (h : Q (.bl false) H) : rNe (.str a) (.str a) H Q := ⟨rfl, by simpa using h⟩
theorem v_eqS0 {a : Str} (h : Q (.bl true) H) : rEq (.str a) (.str a) H Q := ⟨rfl, by simpa using h⟩
theorem v_ret (h : te σ H D.rt) : tRet te D σ H := h
theorem v_retN (h : D.rt .non H) : tRetN D σ H := h
theorem v_drop (h : te σ H fun _ H1 => D.nx σ H1) : tDrop te D σ H := h
theorem v_if (h : t σ H fun b H1 => if b = true then ts D σ H1 else us D σ H1) : tIfS t ts us D σ H := h
theorem v_ifE (h : t σ H fun c H1 => if c = true then ta σ H1 Q else tb σ H1 Q) : tIf t ta tb σ H Q := h
theorem v_test (h : te σ H fun x H1 => ∃ k, x = .bl k ∧ QT k H1) : tTest te σ H QT := h
theorem v_B (h : te σ H fun x H1 => ∃ c, x = .bl c ∧ QT c H1) : tB te σ H QT := h
theorem v_bl {b : Bool} {P : Bool → Prop} (h : P b) : ∃ k, (V.bl b) = .bl k ∧ P k := ⟨b, rfl, h⟩
theorem v_and (h : t σ H fun c H1 => if c = true then u σ H1 QT else QT false H1) : tAnd t u σ H QT := h
theorem v_or (h : t σ H fun c H1 => if c = true then QT true H1 else u σ H1 QT) : tOr t u σ H QT := h
theorem v_not (h : t σ H fun c H1 => QT (!c) H1) : tNot t σ H QT := h
theorem v_andV (h : ta σ H fun x H1 => ∃ c, x = .bl c ∧ if c = true then tb σ H1 Q else Q (.bl false) H1) : tAndV ta tb σ H Q := h
theorem v_orV (h : ta σ H fun x H1 => ∃ c, x = .bl c ∧ if c = true then Q (.bl true) H1 else tb σ H1 Q) : tOrV ta tb σ H Q := h
theorem v_notV (h : ta σ H fun x H1 => ∃ c, x = .bl c ∧ Q (.bl (!c)) H1) : tNotV ta σ H Q := h
theorem v_chain (h : ta σ H fun x H1 => tb σ H1 fun y H2 => r x y H2 fun z H3 => ∃ k, z = .bl k ∧ (if k = true then tc σ H3 fun w' H4 => r' y w' H4 Q else Q (.bl false) H3)) : tChain r r' ta tb tc σ H Q := h
theorem v_nil (h : QA [] H) : tNil σ H QA := h
theorem v_cons (h : ta σ H fun x H1 => tr σ H1 fun xs H2 => QA (x :: xs) H2) : tCons ta tr σ H QA := h
theorem v_call {sp : Sp} {dvs : List V} {E : XK} (h : tA σ H fun vs H1 => sp (vs ++ dvs) H1 Q E) : tCall sp dvs E tA σ H Q := h
theorem v_callK {sp : Sp} {gV : List V → List V → List V} {E : XK} {tk : TA} (h : tA σ H fun vs H1 => tk σ H1 fun zs H2 => sp (gV vs zs) H2 Q E) : tCallK sp gV E tA tk σ H Q := h
theorem v_cb {r : List V → Hp → VK → Prop} (h : tA σ H fun vs H1 => r vs H1 Q) : tCB r tA σ H Q := h
theorem v_par {a b : Nat} (h : tA σ H fun vs H1 => ∃ v w, vs = [v, w] ∧ D.nx ((σ.set a (some v)).set b (some w)) H1) : tPar a b tA D σ H := h
theorem v_par3 {a b c : Nat} (h : tA σ H fun vs H1 => ∃ u v w, vs = [u, v, w] ∧ D.nx (((σ.set a (some u)).set b (some v)).set c (some w)) H1) : tPar3 a b c tA D σ H := h
theorem v_two {P : V → V → Prop} (h : P x y) : ∃ v w, [x, y] = [v, w] ∧ P v w := ⟨x, y, rfl, h⟩
theorem v_three {P : V → V → V → Prop} (h : P v x y) : ∃ u w z, [v, x, y] = [u, w, z] ∧ P u w z := ⟨v, x, y, rfl, h⟩
theorem v_tup (h : tA σ H fun xs H1 => NewT xs H1 Q) : tTup tA σ H Q := h
theorem v_lst (h : tA σ H fun xs H1 => NewL xs H1 Q) : tLst tA σ H Q := h
theorem n_tup {xs : List V} (hl : xs.length ≤ 1000) (h : ∀ p, H p = none → Q (.ref p) (upd H p (.tup xs))) : NewT xs H Q := ⟨Nat.le_trans hl (by decide), h⟩
theorem n_lst {xs : List V} (hl : xs.length ≤ 1000) (h : ∀ p, H p = none → Q (.ref p) (upd H p (.lst xs))) : NewL xs H Q := ⟨Nat.le_trans hl (by decide), h⟩
theorem v_isN (h : Q (.bl (decide (x = .non))) H) : (fun (x y : V) (H : Hp) (Q : VK) => y = .non ∧ Q (.bl (decide (x = .non))) H) x .non H Q := ⟨rfl, h⟩
theorem v_if0 {A B : Prop} (h : B) : if false = true then A else B := by simpa using h
theorem v_if1 {A B : Prop} (h : A) : if true = true then A else B := by simpa using h
theorem v_ifd {c : Prop} [Decidable c] {A B : Prop} (h1 : c → A) (h2 : ¬ c → B) : if decide c = true then A else B := by
  by_cases h : c
  · simpa [h] using h1 h
  · simpa [h] using h2 h
theorem v_ifb {b : Bool} {A B : Prop} (h1 : b = true → A) (h2 : b = false → B) : if b = true then A else B := by
  cases b
  · simpa using h2 rfl
  · simpa using h1 rfl
theorem v_ifn {b : Bool} {A B : Prop} (h : if b = true then B else A) : if (!b) = true then A else B := by
  cases b
  · simpa using h
  · simpa using h
theorem v_gsub {to ti : TE} {t : TSet} {Q : L2.St → Hp → Prop} (h : to σ H fun o H1 => ti σ H1 fun i H2 => t o i v H2 fun H3 => Q σ H3) : gSub to ti t v σ H Q := h
theorem v_gnil {Q : L2.St → Hp → Prop} (h : Q σ H) : gNil [] σ H Q := ⟨rfl, h⟩
theorem v_gcons {Q : L2.St → Hp → Prop} {vs : List V} (h : g v σ H fun σ' H' => gs vs σ' H' Q) : gCons g gs (v :: vs) σ H Q := ⟨v, vs, rfl, h⟩
theorem v_gtup {Q : L2.St → Hp → Prop} {a : Addr} {xs : List V} (h : SqT K H a xs) (hl : xs.length = n) (q : gs xs σ H Q) : gTup K n gs (.ref a) σ H Q := ⟨a, xs, rfl, h, hl, q⟩
theorem v_setL {p : Addr} {xs : List V} {k : Int} {m : Nat} {Q : Hp → Prop} (h : H p = some (.lst xs)) (hk : ixN xs.length k = some m) (q : Q (upd H p (.lst (xs.set m v)))) : rSetL (.ref p) (.int k) v H Q := ⟨p, xs, k, m, rfl, rfl, h, hk, q⟩
theorem v_ixL {p : Addr} {xs : List V} (h : SqL K H p xs) (ha : atI xs i = some v) (q : Q v H) : rIxL K (.ref p) (.int i) H Q := ⟨p, xs, i, v, rfl, rfl, h, ha, q⟩
theorem v_ixT {p : Addr} {xs : List V} (h : SqT K H p xs) (ha : atI xs i = some v) (q : Q v H) : rIxT K (.ref p) (.int i) H Q := ⟨p, xs, i, v, rfl, rfl, h, ha, q⟩
theorem v_isInt (h : Q (.bl true) H) : rIsi K [.int i, .ty "int"] H Q := ⟨_, _, _, _, true, rfl, .ty _, .base (.int i), kit_ty (by decide +kernel), h⟩
theorem v_isBool (h : Q (.bl false) H) : rIsi K [.int i, .ty "bool"] H Q := ⟨_, _, _, _, false, rfl, .ty _, .base (.int i), kit_ty (by decide +kernel), h⟩
theorem v_repr {d : PyData} (hd : Dp K H x d) (hs : Shw d) (q : Q (.str d.shown) H) : rRepr K [x] H Q := ⟨x, d, rfl, hd, hs, q⟩
theorem v_append {l : Addr} {xs : List V} (h : H l = some (.lst xs)) (hz : xs.length < 100000) (q : Q .non (upd H l (.lst (xs ++ [y])))) : rAppend (.ref l) [y] H Q := ⟨l, xs, y, rfl, rfl, h, Nat.lt_of_lt_of_le hz (by decide), q⟩
theorem v_bmL {T : String} {r : V → List V → Hp → VK → Prop} (h : te σ H fun x H1 => tyV K T x H1 ∧ tA σ H1 fun xs H2 => r x xs H2 Q) : tBM K T r te tA σ H Q := h
theorem v_never (h : False) : tNever D σ H := h
end
/-! ### built-ins by names -/
def rInt1 : List V → Hp → VK → Prop := fun xs H Q => (∃ i, xs = [.int i] ∧ Q (.int i) H) ∨ ∃ k, xs = [.bl k] ∧ Q (.int (if k then 1 else 0)) H
def rAbs : List V → Hp → VK → Prop := fun xs H Q => ∃ i, xs = [.int i] ∧ Q (.int (if i < 0 then -i else i)) H
def rDivW : List V → Hp → VK → Prop := fun xs H Q => ∃ i j, xs = [.int i, .int j] ∧ CDivP i j ∧ ∀ p, H p = none → Q (.ref p) (upd H p (.tup [.int (i / j), .int (i % j)]))
def rLen (K : PySem.W.Frag) : List V → Hp → VK → Prop := fun xs H Q => ∃ p ys, xs = [.ref p] ∧ (SqL K H p ys ∨ SqT K H p ys) ∧ Q (.int ys.length) H
def rMax2 : List V → Hp → VK → Prop := fun xs H Q => ∃ i j, xs = [.int i, .int j] ∧ Q (.int (if j > i then j else i)) H
def rMin2 : List V → Hp → VK → Prop := fun xs H Q => ∃ i j, xs = [.int i, .int j] ∧ Q (.int (if j < i then j else i)) H
def rTupOf (K : PySem.W.Frag) : List V → Hp → VK → Prop := fun xs H Q => ∃ p ys, xs = [.ref p] ∧ ((SqL K H p ys ∧ ∀ l, H l = none → Q (.ref l) (upd H l (.tup ys))) ∨ (SqT K H p ys ∧ Q (.ref p) H))
def rListOf (K : PySem.W.Frag) : List V → Hp → VK → Prop := fun xs H Q => ∃ p ys, xs = [.ref p] ∧ (SqL K H p ys ∨ SqT K H p ys) ∧ ∀ l, H l = none → Q (.ref l) (upd H l (.lst ys))
section
variable {X : Cx}
theorem cv_int : CallR X (.type "int") rInt1 := call_int1
theorem cv_abs : CallR X (.builtin "abs") rAbs := call_abs
theorem cv_divmod : CallR X (.builtin "divmod") rDivW := call_divmodW
theorem cv_len : CallR X (.builtin "len") (rLen X.K) := call_len_seq
theorem cv_max (hc : X.calm = true) : CallR X (.builtin "max") rMax2 := call_max2 hc
theorem cv_min (hc : X.calm = true) : CallR X (.builtin "min") rMin2 := call_min2 hc
theorem cv_tuple : CallR X (.type "tuple") (rTupOf X.K) := call_tuple_of
theorem cv_list : CallR X (.type "list") (rListOf X.K) := call_list_of
end
section
variable {H : Hp} {Q : VK} {i j : Int} {K : PySem.W.Frag} {p : Addr} {ys : List V} {v : V} {σ : L2.St} {tA : TA} {R : It → Hp → Prop} {D : Ends} {g : TG} {tb : TS} {wi : TI}
theorem v_int1 (h : Q (.int i) H) : rInt1 [.int i] H Q := Or.inl ⟨i, rfl, h⟩
theorem v_int1b {b : Bool} (h : Q (.int (if b then 1 else 0)) H) : rInt1 [.bl b] H Q := Or.inr ⟨b, rfl, h⟩
theorem v_abs (h : Q (.int (if i < 0 then -i else i)) H) : rAbs [.int i] H Q := ⟨i, rfl, h⟩
theorem v_div (c : CDivP i j) (h : ∀ p, H p = none → Q (.ref p) (upd H p (.tup [.int (i / j), .int (i % j)]))) : rDivW [.int i, .int j] H Q := ⟨i, j, rfl, c, h⟩
theorem v_lenL (h : SqL K H p ys) (q : Q (.int ys.length) H) : rLen K [.ref p] H Q := ⟨p, ys, rfl, Or.inl h, q⟩
theorem v_lenT (h : SqT K H p ys) (q : Q (.int ys.length) H) : rLen K [.ref p] H Q := ⟨p, ys, rfl, Or.inr h, q⟩
theorem v_max (q : Q (.int (if j > i then j else i)) H) : rMax2 [.int i, .int j] H Q := ⟨i, j, rfl, q⟩
theorem v_min (q : Q (.int (if j < i then j else i)) H) : rMin2 [.int i, .int j] H Q := ⟨i, j, rfl, q⟩
theorem v_tupL (h : SqL K H p ys) (q : ∀ l, H l = none → Q (.ref l) (upd H l (.tup ys))) : rTupOf K [.ref p] H Q := ⟨p, ys, rfl, Or.inl ⟨h, q⟩⟩
theorem v_tupT (h : SqT K H p ys) (q : Q (.ref p) H) : rTupOf K [.ref p] H Q := ⟨p, ys, rfl, Or.inr ⟨h, q⟩⟩
theorem v_listL (h : SqL K H p ys) (q : ∀ l, H l = none → Q (.ref l) (upd H l (.lst ys))) : rListOf K [.ref p] H Q := ⟨p, ys, rfl, Or.inl h, q⟩
theorem v_listT (h : SqT K H p ys) (q : ∀ l, H l = none → Q (.ref l) (upd H l (.lst ys))) : rListOf K [.ref p] H Q := ⟨p, ys, rfl, Or.inr h, q⟩
theorem v_all {bs : List Bool} (h : SqL K H p (bs.map V.bl)) (q : Q (.bl (bs.all id)) H) : rAll K [.ref p] H Q := ⟨p, bs, rfl, h, q⟩
theorem v_any {bs : List Bool} (h : SqL K H p (bs.map V.bl)) (q : Q (.bl (bs.any id)) H) : rAny K [.ref p] H Q := ⟨p, bs, rfl, h, q⟩
theorem v_sum {ns : List Int} (h : SqL K H p (ns.map V.int)) (q : Q (.int ns.sum) H) : rSum K [.ref p] H Q := ⟨p, ns, rfl, h, q⟩
/-- a for: first what it walks -/
theorem v_for (h : wi σ H fun J H1 => ∃ W : Nat → Nat → L2.St → Hp → Prop, (∃ m, W 0 m σ H1) ∧ ∀ i m σ H, W i m σ H →
  (J.stop i H ∧ D.nx σ H) ∨ (J.go i H ∧ ∃ N : L2.St → Hp → Prop, (∀ σ' H', N σ' H' → ∃ m', m' < m ∧ W (i + 1) m' σ' H') ∧ ∀ x H', J.yld i H x H' → g x σ H' fun σ2 H2 => tb { D with nx := N, ct := N, bk := D.nx } σ2 H2)) : tFor wi g tb D σ H := h
theorem v_rng1 (h : tA σ H fun vs H1 => ∃ j : Int, vs = [.int j] ∧ -(2 ^ 62) ≤ j ∧ j < 2 ^ 62 ∧ R (Itr 0 j.toNat) H1) : iRng1 tA σ H R := h
theorem v_rngN {n : Nat} {P : Nat → Prop} (hn : n < 2 ^ 61) (h : P n) : ∃ j : Int, [V.int (n : Int)] = [.int j] ∧ -(2 ^ 62) ≤ j ∧ j < 2 ^ 62 ∧ P j.toNat :=
  ⟨n, rfl, by omega, by omega, by rw [Int.toNat_natCast]; exact h⟩
theorem v_iList {tl : TE} (h : tl σ H fun x H1 => ∃ a, x = .ref a ∧ (∃ xs, SqL K H1 a xs) ∧ R (Itl K a) H1) : iList K tl σ H R := h
theorem v_iTup {tl : TE} (h : tl σ H fun x H1 => ∃ a, x = .ref a ∧ (∃ xs, SqT K H1 a xs) ∧ R (Itt K a) H1) : iTup K tl σ H R := h
theorem v_ref {P : Addr → Prop} (h : P p) : ∃ a, V.ref p = .ref a ∧ P a := ⟨p, rfl, h⟩
theorem v_sl {r : V → Option Int → Option Int → Hp → VK → Prop} {te : TE} {tl th : TO} (h : te σ H fun x H1 => tl σ H1 fun l H2 => th σ H2 fun u H3 => r x l u H3 Q) : tSl r te tl th σ H Q := h
theorem v_noPart {Q : Option Int → Hp → Prop} (h : Q none H) : tNoPart σ H Q := h
theorem v_part {te : TE} {Q : Option Int → Hp → Prop} (h : te σ H fun x H1 => ∃ i, x = .int i ∧ Q (some i) H1) : tPart te σ H Q := h
theorem v_pInt {P : Int → Prop} (h : P i) : ∃ j, V.int i = .int j ∧ P j := ⟨i, rfl, h⟩
theorem v_slL {lo hi : Option Int} (h : SqL K H p ys) (q : ∀ l, H l = none → Q (.ref l) (upd H l (.lst (cutV ys lo hi)))) : rSlL K (.ref p) lo hi H Q := ⟨p, ys, rfl, h, q⟩
theorem v_lc {tt : TT} {te : TE} {vs : List Nat} (h : wi σ H fun J H1 => ∀ D, H1 D = none → ∃ W : Nat → Nat → Hp → Prop, (∃ m, W 0 m (upd H1 D (.lst []))) ∧ ∀ i m H, W i m H →
  (J.stop i H ∧ Q (.ref D) H) ∨ (J.go i H ∧ ∃ Nx : Hp → Prop, (∀ H', Nx H' → ∃ m', m' < m ∧ W (i + 1) m' H') ∧ ∀ x H', J.yld i H x H' → g x (wipe σ vs) H' fun σ2 H2 => wipe σ2 vs = wipe σ vs ∧ tt σ2 H2 fun b H3 =>
    if b = true then te σ2 H3 fun y H4 => ∃ acc, H4 D = some (.lst acc) ∧ acc.length < sizeLine ∧ Nx (upd H4 D (.lst (acc ++ [y]))) else Nx H3)) : tLc wi g tt te vs σ H Q := h
theorem v_yes {Q : Bool → Hp → Prop} (h : Q true H) : tYes σ H Q := h
theorem v_cat {q : Addr} {xs zs : List V} (h : H p = some (.lst xs)) (h2 : H q = some (.lst zs)) (hl : xs.length + zs.length ≤ 100000) (k : ∀ l, H l = none → Q (.ref l) (upd H l (.lst (xs ++ zs)))) : rCat (.ref p) (.ref q) H Q :=
  ⟨p, q, xs, zs, rfl, rfl, h, h2, Nat.le_trans hl (by decide), k⟩
end
/-! ### specs by the number of arguments -/
def sp1 (f : V → Hp → VK → Prop) : Sp := fun vs H Q _ => ∃ a, vs = [a] ∧ f a H Q
def sp2 (f : V → V → Hp → VK → Prop) : Sp := fun vs H Q _ => ∃ a b, vs = [a, b] ∧ f a b H Q
def sp3 (f : V → V → V → Hp → VK → Prop) : Sp := fun vs H Q _ => ∃ a b c, vs = [a, b, c] ∧ f a b c H Q
def sp4 (f : V → V → V → V → Hp → VK → Prop) : Sp := fun vs H Q _ => ∃ a b c d, vs = [a, b, c, d] ∧ f a b c d H Q
theorem len1 {f : V → Hp → VK → Prop} {p : Str} : ∀ vs H Q E, sp1 f vs H Q E → vs.length = [p].length := fun _ _ _ _ h => by obtain ⟨a, rfl, _⟩ := h; rfl
theorem len2 {f : V → V → Hp → VK → Prop} {p q : Str} : ∀ vs H Q E, sp2 f vs H Q E → vs.length = [p, q].length := fun _ _ _ _ h => by obtain ⟨a, b, rfl, _⟩ := h; rfl
theorem len3 {f : V → V → V → Hp → VK → Prop} {p q r : Str} : ∀ vs H Q E, sp3 f vs H Q E → vs.length = [p, q, r].length := fun _ _ _ _ h => by obtain ⟨a, b, c, rfl, _⟩ := h; rfl
theorem len4 {f : V → V → V → V → Hp → VK → Prop} {p q r s : Str} : ∀ vs H Q E, sp4 f vs H Q E → vs.length = [p, q, r, s].length := fun _ _ _ _ h => by obtain ⟨a, b, c, d, rfl, _⟩ := h; rfl
section
variable {H : Hp} {Q : VK} {E : XK} {a b c d : V}
theorem c1 {f : V → Hp → VK → Prop} (h : f a H Q) : sp1 f ([a] ++ []) H Q E := ⟨a, rfl, h⟩
theorem c2 {f : V → V → Hp → VK → Prop} (h : f a b H Q) : sp2 f ([a, b] ++ []) H Q E := ⟨a, b, rfl, h⟩
theorem c3 {f : V → V → V → Hp → VK → Prop} (h : f a b c H Q) : sp3 f ([a, b, c] ++ []) H Q E := ⟨a, b, c, rfl, h⟩
theorem c4 {f : V → V → V → V → Hp → VK → Prop} (h : f a b c d H Q) : sp4 f ([a, b, c, d] ++ []) H Q E := ⟨a, b, c, d, rfl, h⟩
theorem k1 {f : V → Hp → VK → Prop} (h : f a H Q) : sp1 f [a] H Q E := ⟨a, rfl, h⟩
theorem k2 {f : V → V → Hp → VK → Prop} (h : f a b H Q) : sp2 f [a, b] H Q E := ⟨a, b, rfl, h⟩
theorem k3 {f : V → V → V → Hp → VK → Prop} (h : f a b c H Q) : sp3 f [a, b, c] H Q E := ⟨a, b, c, rfl, h⟩
end
end Vc
namespace Vc
open PySem PySem.Spec PyProof.Rows L2
/-! ### heaps: all stays but W -/
def Sx (W : Addr) (H H' : Hp) : Prop := ∀ b o, b ≠ W → H b = some o → H' b = some o
theorem Sx.refl {W : Addr} {H : Hp} : Sx W H H := fun _ _ _ h => h
theorem Sx.trans {W : Addr} {H H1 H2 : Hp} (a : Sx W H H1) (b : Sx W H1 H2) : Sx W H H2 := fun c o n h => b c o n (a c o n h)
theorem Sx.of {W : Addr} {H H' : Hp} (a : Same H H') : Sx W H H' := fun c o _ h => a c o h
theorem Sx.new {W p : Addr} {H : Hp} {o : HO} (h : H p = none) : Sx W H (upd H p o) := fun b u _ e => by
  rw [upd_ne (ne_of_none e h)]
  exact e
theorem Sx.mut {W : Addr} {H : Hp} {o : HO} : Sx W H (upd H W o) := fun b u n e => by
  rw [upd_ne n]
  exact e
/-- what was not there may change -/
theorem Sx.own {W p : Addr} {H H' : Hp} {o : HO} (s : Sx W H H') (h : H p = none) : Sx W H (upd H' p o) := fun b u n e => by
  rw [upd_ne (ne_of_none e h)]
  exact s b u n e
theorem same_new {p : Addr} {H : Hp} {o : HO} (h : H p = none) : Same H (upd H p o) := fun b u e => by
  rw [upd_ne (ne_of_none e h)]
  exact e
theorem same_own {p : Addr} {H H' : Hp} {o : HO} (s : Same H H') (h : H p = none) : Same H (upd H' p o) := fun b u e => by
  rw [upd_ne (ne_of_none e h)]
  exact s b u e
theorem sqL_of {K : PySem.W.Frag} {H : Hp} {a : Addr} {xs : List V} (h : H a = some (.lst xs)) : SqL K H a xs := .inl (.inl h)
theorem sqT_of {K : PySem.W.Frag} {H : Hp} {a : Addr} {xs : List V} (h : H a = some (.tup xs)) : SqT K H a xs := .inl (.inl h)
theorem Same.seqT {K : PySem.W.Frag} {H H' : Hp} {a : Addr} {xs : List V} (e : Same H H') (h : SqT K H a xs) : SqT K H' a xs := by
  rcases h with (h | ⟨o, h⟩) | h
  · exact .inl (.inl (e _ _ h))
  · exact .inl (.inr ⟨o, e _ _ h⟩)
  · exact .inr h
/-- the drawn numbers' list: three ints, then what stays -/
def Wl (tl : List V) (H : Hp) (W : Addr) : Prop := ∃ a b c : Int, H W = some (.lst (.int a :: .int b :: .int c :: tl))
theorem Wl.new {tl : List V} {W p : Addr} {H : Hp} {o : HO} (w : Wl tl H W) (h : H p = none) : Wl tl (upd H p o) W := by
  obtain ⟨a, b, c, e⟩ := w
  exact ⟨a, b, c, by rw [upd_ne (ne_of_none e h)]; exact e⟩
theorem Wl.of {tl : List V} {W : Addr} {H H' : Hp} (w : Wl tl H W) (s : Same H H') : Wl tl H' W := by
  obtain ⟨a, b, c, e⟩ := w
  exact ⟨a, b, c, s _ _ e⟩
theorem mod_ge {i j : Int} (hj : 0 < j) : 0 ≤ i.fmod j ∧ i.fmod j < j := by
  rw [Int.fmod_eq_emod_of_nonneg i (by omega)]
  exact ⟨Int.emod_nonneg _ (by omega), Int.emod_lt_of_pos _ hj⟩
/-- a rest: a letter with its bounds -/
theorem v_modN {z : Int} {k : Nat} {H : Hp} {Q : VK} (hk : 0 < k) (h : ∀ r : Nat, r < k → Q (.int (r : Int)) H) : rI (fun _ j => j ≠ 0) (fun i j => V.int (i.fmod j)) (.int z) (.int (k : Int)) H Q := by
  have hz := mod_ge (i := z) (j := (k : Int)) (by omega)
  refine ⟨z, k, rfl, rfl, by omega, ?_⟩
  have e := Int.toNat_of_nonneg hz.1
  have h2 := h (z.fmod k).toNat (by omega)
  rw [e] at h2
  exact h2
theorem cm_r {x y j c : Int} (h0 : 0 < j) (hc : 0 ≤ c) (h : j + c < 2 ^ 63) : CMul x (y.fmod j + c) := Or.inr (by
  have := mod_ge (i := y) h0
  have e : (2 : Int) ^ 63 = 9223372036854775808 := by decide
  have e2 : (2 : Int) ^ 64 = 18446744073709551616 := by decide
  omega)
theorem cut_mem {xs : List V} {lo hi : Option Int} {i : Nat} {x : V} (h : (cutV xs lo hi)[i]? = some x) : x ∈ xs := by
  have m := List.mem_of_getElem? h
  unfold cutV at m
  exact List.mem_of_mem_drop (List.mem_of_mem_take m)
theorem cut_ints {ns : List Int} {lo hi : Option Int} {i : Nat} {x : V} (h : (cutV (ns.map V.int) lo hi)[i]? = some x) : ∃ z : Int, x = .int z := by
  obtain ⟨z, _, e⟩ := List.mem_map.mp (cut_mem h)
  exact ⟨z, e.symm⟩
/-! ### new things, the heap a letter -/
section
variable {H : Hp} {Q : VK} {K : PySem.W.Frag} {σ : L2.St} {xs ys : List V} {p : Addr} {c : Bool} {ta tb : TE}
theorem a_tup (hl : xs.length ≤ 1000) (h : ∀ (p : Addr) (H' : Hp), H p = none → Same H H' → H' p = some (.tup xs) → Q (.ref p) H') : NewT xs H Q :=
  ⟨Nat.le_trans hl (by decide), fun p hp => h p _ hp (same_new hp) upd_same⟩
theorem a_lst (hl : xs.length ≤ 1000) (h : ∀ (p : Addr) (H' : Hp), H p = none → Same H H' → H' p = some (.lst xs) → Q (.ref p) H') : NewL xs H Q :=
  ⟨Nat.le_trans hl (by decide), fun p hp => h p _ hp (same_new hp) upd_same⟩
theorem a_slL {lo hi : Option Int} (h : SqL K H p ys) (q : ∀ (l : Addr) (H' : Hp), H l = none → Same H H' → H' l = some (.lst (cutV ys lo hi)) → Q (.ref l) H') : rSlL K (.ref p) lo hi H Q := v_slL h fun l hl => q l _ hl (same_new hl) upd_same
theorem a_tupL (h : SqL K H p ys) (q : ∀ (l : Addr) (H' : Hp), H l = none → Same H H' → H' l = some (.tup ys) → Q (.ref l) H') : rTupOf K [.ref p] H Q := v_tupL h fun l hl => q l _ hl (same_new hl) upd_same
theorem a_cat {q : Addr} {zs : List V} (h : H p = some (.lst xs)) (h2 : H q = some (.lst zs)) (hl : xs.length + zs.length ≤ 100000) (k : ∀ (l : Addr) (H' : Hp), H l = none → Same H H' → H' l = some (.lst (xs ++ zs)) → Q (.ref l) H') : rCat (.ref p) (.ref q) H Q :=
  v_cat h h2 hl fun l hl => k l _ hl (same_new hl) upd_same
/-- two ways to an int -/
theorem v_joinI (ha : c = true → ∀ Q' : VK, (∀ o : Int, Q' (.int o) H) → ta σ H Q') (hb : c = false → ∀ Q' : VK, (∀ o : Int, Q' (.int o) H) → tb σ H Q') (h : ∀ o : Int, Q (.int o) H) : if c = true then ta σ H Q else tb σ H Q := by
  cases c with
  | true => simpa using ha rfl Q h
  | false => simpa using hb rfl Q h
/-- a and b, b only asked where a is so -/
theorem v_andJ {d : Bool} (h : c = true → ∀ Q' : VK, Q' (.bl d) H → tb σ H Q') (q : Q (.bl (c && d)) H) : if c = true then tb σ H Q else Q (.bl false) H := by
  cases c with
  | true => simpa using h rfl Q (by simpa using q)
  | false => simpa using q
theorem v_orJ {d : Bool} (h : c = false → ∀ Q' : VK, Q' (.bl d) H → tb σ H Q') (q : Q (.bl (c || d)) H) : if c = true then Q (.bl true) H else tb σ H Q := by
  cases c with
  | true => simpa using q
  | false => simpa using h rfl Q (by simpa using q)
theorem v_tandJ {t : TT} {QT : Bool → Hp → Prop} {d : Bool} (h : c = true → ∀ Q' : Bool → Hp → Prop, Q' d H → t σ H Q') (q : QT (c && d) H) : if c = true then t σ H QT else QT false H := by
  cases c with
  | true => simpa using h rfl QT (by simpa using q)
  | false => simpa using q
theorem v_torJ {t : TT} {QT : Bool → Hp → Prop} {d : Bool} (h : c = false → ∀ Q' : Bool → Hp → Prop, Q' d H → t σ H Q') (q : QT (c || d) H) : if c = true then QT true H else t σ H QT := by
  cases c with
  | true => simpa using q
  | false => simpa using h rfl QT (by simpa using q)
/-- two ways to a number of a kind -/
theorem v_joinN (P : Nat → Prop) (ha : c = true → ∀ Q' : VK, (∀ o : Nat, P o → Q' (.int o) H) → ta σ H Q') (hb : c = false → ∀ Q' : VK, (∀ o : Nat, P o → Q' (.int o) H) → tb σ H Q') (h : ∀ o : Nat, P o → Q (.int o) H) : if c = true then ta σ H Q else tb σ H Q := by
  cases c with
  | true => simpa using ha rfl Q h
  | false => simpa using hb rfl Q h
end
theorem dp_ints {K : PySem.W.Frag} {H : Hp} : ∀ ns : List Nat, DpAll K H (ns.map fun n : Nat => V.int (n : Int)) (ns.map fun n : Nat => PyData.int (n : Int))
  | [] => .nil
  | _ :: ns => .cons (.int _) (dp_ints ns)
theorem same_sx {W : Addr} {H H1 H2 : Hp} (hW : H W = none) (s1 : Same H H1) (sx : Sx W H1 H2) : Same H H2 := fun b o e => sx b o (ne_of_none e hW) (s1 b o e)
theorem Sx.free {W : Addr} {H H' : Hp} (s : Sx W H H') {l : Addr} (h : H' l = Option.none) (n : l ≠ W) : H l = Option.none := by
  cases z : H l with
  | none => rfl
  | some o =>
    rw [s l o n z] at h
    cases h
theorem Wl.ne {tl : List V} {W p : Addr} {H : Hp} (w : Wl tl H W) (h : H p = none) : p ≠ W := by
  obtain ⟨x, y, u, e⟩ := w
  exact (ne_of_none e h).symm
theorem Wl.ne' {tl : List V} {W p : Addr} {H : Hp} (w : Wl tl H W) (h : H p = none) : W ≠ p := fun e => w.ne h e.symm
theorem tyL {K : PySem.W.Frag} {H : Hp} {p : Addr} {xs : List V} (h : H p = some (.lst xs)) : tyV K "list" (.ref p) H := .inl ⟨rfl, _, sqL_of h⟩
theorem v_allT {K : PySem.W.Frag} {H : Hp} {p : Addr} {n : Nat} {Q : VK} (h : H p = some (.lst (List.replicate n (.bl true)))) (q : Q (.bl true) H) : rAll K [.ref p] H Q :=
  v_all (bs := List.replicate n true) (sqL_of (by rw [List.map_replicate]; exact h)) (by simpa using q)
theorem rep_more {α : Type} (n : Nat) (x : α) : List.replicate n x ++ [x] = List.replicate (n + 1) x := (List.replicate_succ' ..).symm
theorem r_int {K : PySem.W.Frag} {H : Hp} {Q : VK} {i : Int} (h : Leaf (.int i)) (q : Q (.str (PyData.shown (.int i))) H) : rRepr K [.int i] H Q := v_repr (.int i) h.shw q
/-! ### keywords: places -/
def picks {α : Type} (is : List Nat) (xs : List α) : List α := is.filterMap fun i => xs[i]?
def gpick {α : Type} (n m : Nat) (is : List Nat) (us ws : List α) : List α := if us.length = n ∧ ws.length = m then picks is (us ++ ws) else []
theorem picks_rel {xs : List V} {us : List Value} (r : Vals xs us) : ∀ is : List Nat, Vals (picks is xs) (picks is us)
  | [] => .nil
  | i :: is => by
    have ih := picks_rel r is
    unfold picks at ih ⊢
    cases e : xs[i]? with
    | none => rw [List.filterMap_cons_none e, List.filterMap_cons_none (r.none_of e)]; exact ih
    | some x =>
      obtain ⟨u, hu, ru⟩ := r.get e
      rw [List.filterMap_cons_some e, List.filterMap_cons_some hu]
      exact .cons ru ih
theorem gpick_rel (n m : Nat) (is : List Nat) {vs zs : List V} {us ws : List Value} (r : Vals vs us) (rz : Vals zs ws) : Vals (gpick n m is vs zs) (gpick n m is us ws) := by
  unfold gpick
  rw [r.length, rz.length]
  split
  · exact picks_rel (r.append rz) is
  · exact .nil
/-! ### bits of what is not negative -/
theorem bA (a b : Nat) : Builtin.bitAnd (a : Int) (b : Int) = ((a &&& b : Nat) : Int) := by
  rw [bitAnd_pp (Int.natCast_nonneg _) (Int.natCast_nonneg _), Int.toNat_natCast, Int.toNat_natCast]
theorem bO (a b : Nat) : Builtin.bitOr (a : Int) (b : Int) = ((a ||| b : Nat) : Int) := by
  rw [bitOr_nn (Int.natCast_nonneg _) (Int.natCast_nonneg _), Int.toNat_natCast, Int.toNat_natCast]
theorem or_add (a b : Nat) : (a ||| b) + (a &&& b) = a + b := by
  have h := bitOr_and (a : Int) (b : Int)
  rw [bO, bA] at h
  omega
theorem xor_add (a b : Nat) : (a ^^^ b) + 2 * (a &&& b) = a + b := by
  have h1 := or_add (a ^^^ b) (a &&& b)
  have e1 : (a ^^^ b) ||| (a &&& b) = a ||| b := by
    apply Nat.eq_of_testBit_eq
    intro i
    simp only [Nat.testBit_or, Nat.testBit_xor, Nat.testBit_and]
    cases a.testBit i <;> cases b.testBit i <;> rfl
  have e2 : (a ^^^ b) &&& (a &&& b) = 0 := by
    apply Nat.eq_of_testBit_eq
    intro i
    simp only [Nat.testBit_xor, Nat.testBit_and, Nat.zero_testBit]
    cases a.testBit i <;> cases b.testBit i <;> rfl
  have h2 := or_add a b
  rw [e1, e2] at h1
  omega
theorem bX (a b : Nat) : Builtin.bitXor (a : Int) (b : Int) = ((a ^^^ b : Nat) : Int) := by
  have h := xor_add a b
  have h2 := or_add a b
  show Builtin.bitOr (a : Int) (b : Int) - Builtin.bitAnd (a : Int) (b : Int) = _
  rw [bO, bA]
  omega
theorem shl1 (n : Nat) : (1 : Int) * 2 ^ ((n : Int).toNat) = ((2 ^ n : Nat) : Int) := by
  rw [Int.toNat_natCast, Int.one_mul]
  exact (PySem.W.kbt_cast n).symm
theorem natOf {r : Int} (h : 0 ≤ r) : ∃ n : Nat, r = (n : Int) := ⟨r.toNat, (Int.toNat_of_nonneg h).symm⟩
theorem lt_and {a b n : Nat} (h : a < 2 ^ n) : a &&& b < 2 ^ n := Nat.lt_of_le_of_lt Nat.and_le_left h
theorem lt_or {a b n : Nat} (h : a < 2 ^ n) (h2 : b < 2 ^ n) : a ||| b < 2 ^ n := Nat.or_lt_two_pow h h2
theorem lt_xor {a b n : Nat} (h : a < 2 ^ n) (h2 : b < 2 ^ n) : a ^^^ b < 2 ^ n := Nat.xor_lt_two_pow h h2
theorem lt_bit {k n : Nat} (h : k < n) : 2 ^ k < 2 ^ n := Nat.pow_lt_pow_right (by decide) h
theorem bits_ext {a b n : Nat} (ha : a < 2 ^ n) (hb : b < 2 ^ n) (h : ∀ i, i < n → a.testBit i = b.testBit i) : a = b := by
  apply Nat.eq_of_testBit_eq
  intro i
  by_cases hi : i < n
  · exact h i hi
  · have e := Nat.pow_le_pow_right (n := 2) (by decide) (Nat.le_of_not_lt hi)
    rw [Nat.testBit_lt_two_pow (Nat.lt_of_lt_of_le ha e), Nat.testBit_lt_two_pow (Nat.lt_of_lt_of_le hb e)]
theorem bit_high {a n i : Nat} (ha : a < 2 ^ n) (hi : n ≤ i) : a.testBit i = false := Nat.testBit_lt_two_pow (Nat.lt_of_lt_of_le ha (Nat.pow_le_pow_right (by decide) hi))
end Vc
namespace Vc
open PySem PySem.Spec PyProof.Rows L2
/-! ### the binary digits of a number -/
def binS (n : Nat) : PySem.Str := ⟨((Nat.toDigits 2 n).map Char.toNat).toArray⟩
section
open Builtin Builtin.Str Builtin.Int
theorem gives_b (n : Nat) (t u : Tok) : Gives (Builtin.«int.__format__» ⟨[.int (n : Int) t, .str (Str.ofString "b") u], []⟩) (.str (binS n)) := by
  intro prog w A R s hq
  have e0 : (decide ((n : Int) < 0)) = false := decide_eq_false (by omega)
  unfold Builtin.«int.__format__»
  simp only [selfAndOne, noKeywords, Int.intOfSelf, asInt?, asStr?, List.isEmpty_nil, if_true, pure_bind, bind_pure, bind_assoc, Bool.false_eq_true, if_false,
    show (Value.str (Str.ofString "b") u == Value.none) = false from rfl, show ((Str.ofString "b").length == 0) = false by decide]
  refine wpAny_bind (wpAny_typeNameOf (T := "str") (typeIs_str _ _ _) (by decide) fun _ => ?_)
  rw [if_neg (by decide)]
  refine wpAny_bind (wpAny_typeNameOfCut_int ?_)
  obtain ⟨f, hp, ht, hpr, hz, hal, hw, hgr, hsg, hfi⟩ : ∃ f, Float.parseFormatSpec (Str.ofString "b").cps.toList "int" 62 = .ok f ∧ f.type = some 98 ∧ f.precision = none ∧ f.noNeg0 = false ∧ f.alt = false ∧ f.width = none ∧ f.grouping = none ∧ f.sign = none ∧ (f.fill == 48) = false :=
    ⟨_, rfl, rfl, rfl, rfl, rfl, rfl, rfl, rfl, rfl⟩
  rw [hp]
  simp only [ht, Option.getD_some]
  rw [if_pos (by decide)]
  show wpAny _ _ (if _ then _ else _) _ _ _
  rw [if_neg (by simp [hpr])]
  show wpAny _ _ (if _ then _ else _) _ _ _
  rw [if_neg (by simp [hz])]
  show wpAny _ _ (if _ then _ else _) _ _ _
  rw [if_neg (by decide)]
  show wpAny _ _ (if _ then _ else _) _ _ _
  rw [if_neg (by decide)]
  show wpAny _ _ (if _ then _ else _) _ _ _
  rw [if_neg (by simp [hw])]
  have key : intField' f (decide ((n : Int) < 0)) (if f.alt then [] else []) ((Nat.toDigits 2 n).map fun c => (if (98 : Nat) == 88 then c.toUpper else c).toNat) [] 4 = binS n := by
    have hne : ((Nat.toDigits 2 n).map fun c => (if (98 : Nat) == 88 then c.toUpper else c).toNat) = (Nat.toDigits 2 n).map Char.toNat := by simp
    rw [hne, e0, hal]
    unfold intField' binS
    simp only [hw, hgr, hsg, hfi, Bool.false_and, Bool.false_eq_true, if_false]
    split <;> simp_all
  show wpAny _ _ (retStr _) _ _ _
  unfold retStr
  simp only [hal, Bool.false_eq_true, if_false, Int.natAbs_natCast] at key ⊢
  have q1 : (binS n).length ≤ sizeLine := hq.1
  have q2 := hq.2
  rw [← key] at q1 q2
  simp only [intField', hw, hgr, hsg, hfi, Bool.false_and, Bool.false_eq_true, if_false] at q1 q2
  refine wpAny_bind (wpAny_mkStr (wpAny_pure ?_) ?hs2)
  case hs2 =>
    conv => lhs; arg 1; whnf
    simp only [hw, hgr, hsg, hfi, Bool.false_and, Bool.false_eq_true, if_false]
    exact q1
  · dsimp only
    conv => arg 1; arg 1; arg 1; arg 1; whnf
    simp only [hw, hgr, hsg, hfi, Bool.false_and, Bool.false_eq_true, if_false]
    exact q2
end
theorem binS_len (n : Nat) : (binS n).length ≤ n + 1 := by
  show ((Nat.toDigits 2 n).map Char.toNat).toArray.size ≤ _
  rw [List.size_toArray, List.length_map]
  exact tDigits_len_le 2 n
/-- the number of ones among the binary digits -/
def ones : Nat → Nat
  | 0 => 0
  | n + 1 => (n + 1) % 2 + ones ((n + 1) / 2)
decreasing_by omega
theorem ones_eq (n : Nat) : ones n = n % 2 + ones (n / 2) := by
  cases n with
  | zero => simp [ones]
  | succ n => rw [ones]
def oneL (l : List Char) : Nat := (l.filter fun c => c == '1').length
theorem core_ones : ∀ (fuel n : Nat) (ds : List Char), n < fuel → oneL (Nat.toDigitsCore 2 fuel n ds) = ones n + oneL ds
  | 0, n, ds, h => by omega
  | fuel + 1, n, ds, h => by
    rw [Nat.toDigitsCore]
    have hd : oneL ((n % 2).digitChar :: ds) = n % 2 + oneL ds := by
      have h2 : n % 2 = 0 ∨ n % 2 = 1 := by omega
      rcases h2 with e | e
      · rw [e]; simp [oneL, Nat.digitChar]
      · rw [e]; simp [oneL, Nat.digitChar]; omega
    split
    · rename_i hz
      rw [hd, ones_eq n, hz]
      simp [ones]
    · rename_i hz
      rw [core_ones fuel (n / 2) _ (by omega), hd, ones_eq n]
      omega
theorem cnt_map (l : List Char) : cnt 49 (l.map Char.toNat) = (oneL l : Nat) := by
  induction l with
  | nil => rfl
  | cons c r ih =>
    rw [List.map_cons, cnt_cons, ih]
    by_cases h : c = '1'
    · subst h
      simp [oneL]
      omega
    · have hn : ¬ c.toNat = 49 := fun e => h (by
        apply Char.ext
        apply UInt32.toNat_inj.mp
        exact e)
      rw [if_neg hn]
      have : (c == '1') = false := by simpa using h
      simp [oneL, this]
theorem count_bin (n : Nat) : Txt.count (binS n) ⟨#[49]⟩ = (ones n : Nat) := by
  rw [count_is]
  show cnt 49 (binS n).cps.toList = _
  show cnt 49 ((Nat.toDigits 2 n).map Char.toNat) = _
  rw [cnt_map]
  have := core_ones (n + 1) n [] (by omega)
  show ((oneL (Nat.toDigitsCore 2 (n + 1) n []) : Nat) : Int) = _
  rw [this]
  simp [oneL]
end Vc
namespace Vc
open PySem PySem.Spec PyProof.Rows L2
theorem core_len : ∀ (fuel n k : Nat) (ds : List Char), n < 2 ^ k → 1 ≤ k → (Nat.toDigitsCore 2 fuel n ds).length ≤ ds.length + k
  | 0, n, k, ds, _, _ => by rw [Nat.toDigitsCore]; omega
  | fuel + 1, n, k, ds, h, hk => by
    rw [Nat.toDigitsCore]
    split
    · rw [List.length_cons]; omega
    · rename_i hz
      have hk2 : 2 ≤ k := by
        refine Nat.le_of_not_lt fun z => hz ?_
        have e : k = 1 := by omega
        rw [e] at h
        omega
      have h2 : n / 2 < 2 ^ (k - 1) := by
        have e : 2 ^ k = 2 * 2 ^ (k - 1) := by
          rw [← Nat.pow_succ']
          congr 1
          omega
        omega
      have := core_len fuel (n / 2) (k - 1) ((n % 2).digitChar :: ds) h2 (by omega)
      rw [List.length_cons] at this
      omega
theorem binS_le {n k : Nat} (h : n < 2 ^ k) (hk : 1 ≤ k) : (binS n).length ≤ k := by
  show ((Nat.toDigits 2 n).map Char.toNat).toArray.size ≤ _
  rw [List.size_toArray, List.length_map]
  have := core_len (n + 1) n k [] h hk
  show (Nat.toDigitsCore 2 (n + 1) n []).length ≤ k
  simpa using this
/-- the text of a number's binary digits -/
def tBin (te : TE) : TE := fun σ H Q => te σ H fun x H1 => ∃ n : Nat, x = .int (n : Int) ∧ n < 2 ^ 600 ∧ Q (.str (binS n)) H1
def rCount : V → List V → Hp → VK → Prop := fun x xs H Q => ∃ a b, x = .str a ∧ xs = [.str b] ∧ Q (.int (Txt.count a b)) H
section
variable {X : Cx}
theorem pe_fmtB {e : Expr} {te : TE} {k : Nat} {p1 p2 p3 pos : Pos} (he : PE X e te) : PE X (.JoinedStr [.FormattedValue e (-1) (some (.JoinedStr [.Constant (.str (Str.ofString "b")) k p1] p2)) p3] pos) (tBin te) := by
  refine pe_joined1 ⟨fun pins s σ H Q I h => ?_⟩
  refine wpAny_FormattedValue_spec (thn (he.run pins s σ H _ I h) fun u s1 hh => ?_)
  obtain ⟨x, H1, I1, rx, n, rfl, hn, q⟩ := hh
  have sp : PE X (.JoinedStr [.Constant (.str (Str.ofString "b")) k p1] p2) (tC (.str (Str.ofString "b"))) := pe_joined1 pe_str
  refine thn (sp.run pins s1 σ H1 (fun v H2 => v = .str (Str.ofString "b") ∧ H2 = H1) I1 ⟨rfl, rfl⟩) fun r s2 hr => ?_
  obtain ⟨y, H2, I2, ry, rfl, rfl⟩ := hr
  obtain ⟨t2, rfl⟩ := ry
  obtain ⟨t, rfl⟩ := rx
  refine ⟨_, _, rfl, ?_⟩
  refine wpAny_formatField_spec (by decide) (fun s' => typeIs_int s' _ t) PySem.F.slot_int_format PySem.F.entry_int_format PySem.F.args_int_format_2 (fun u => gives_b n t u) ?_ (by decide) ?_
  · exact ⟨.str _, H2, I2.tok _, ⟨_, rfl⟩, q⟩
  · have := binS_le hn (by decide)
    rw [sizeLine_eq]
    omega
theorem mv_count : MtR X "str.count" rCount := mt_count
end
section
variable {σ : L2.St} {H : Hp} {Q : VK} {te : TE}
theorem v_bin (h : te σ H fun x H1 => ∃ n : Nat, x = .int (n : Int) ∧ n < 2 ^ 600 ∧ Q (.str (binS n)) H1) : tBin te σ H Q := h
theorem v_count {n : Nat} (q : Q (.int (ones n : Nat)) H) : rCount (.str (binS n)) [.str (Str.ofString "1")] H Q := ⟨_, _, rfl, rfl, by
  have e : (Str.ofString "1") = ⟨#[49]⟩ := by decide
  rw [e, count_bin]
  exact q⟩
end
/-! ### how many ones -/
theorem ones_le : ∀ (k n : Nat), n < 2 ^ k → ones n ≤ k
  | 0, n, h => by
    have : n = 0 := by simpa using h
    subst this
    simp [ones]
  | k + 1, n, h => by
    have := ones_le k (n / 2) (by rw [Nat.pow_succ] at h; omega)
    rw [ones_eq]
    omega
theorem ones_pos {n : Nat} (h : 0 < n) : 0 < ones n := by
  induction n using Nat.strongRecOn with
  | _ n ih =>
    rw [ones_eq]
    by_cases h2 : n % 2 = 0
    · have := ih (n / 2) (by omega) (by omega)
      omega
    · omega
theorem ones_drop {n : Nat} (h : 0 < n) : ones (n &&& (n - 1)) + 1 = ones n := by
  induction n using Nat.strongRecOn with
  | _ n ih =>
    have hm : ¬ (n &&& (n - 1)) % 2 = 1 := by
      rw [Nat.and_mod_two_eq_one]
      omega
    rw [ones_eq (n &&& (n - 1)), ones_eq n, Nat.and_div_two]
    by_cases ho : n % 2 = 1
    · have e : (n - 1) / 2 = n / 2 := by omega
      rw [e, Nat.and_self]
      omega
    · have e : (n - 1) / 2 = n / 2 - 1 := by omega
      have := ih (n / 2) (by omega) (by omega)
      rw [e]
      omega
theorem and_lt {n : Nat} (h : 0 < n) : n &&& (n - 1) < n := Nat.lt_of_le_of_lt Nat.and_le_right (by omega)
/-- within: as many ones at most, and if as many, then the same -/
theorem ones_sub (a b : Nat) (h : a &&& b = a) : ones a ≤ ones b ∧ (ones a = ones b → a = b) := by
  induction a using Nat.strongRecOn generalizing b with
  | _ a ih =>
    by_cases h0 : a = 0
    · subst h0
      refine ⟨by simp [ones], fun e => ?_⟩
      by_cases hb : b = 0
      · exact hb.symm
      · have := ones_pos (n := b) (by omega)
        simp [ones] at e
        omega
    · have hd : a / 2 &&& b / 2 = a / 2 := by rw [← Nat.and_div_two, h]
      have hm : a % 2 = 1 → b % 2 = 1 := fun e => by
        have e2 : (a &&& b) % 2 = 1 := by rw [h]; exact e
        exact (Nat.and_mod_two_eq_one.mp e2).2
      have := ih (a / 2) (by omega) (b / 2) hd
      rw [ones_eq a, ones_eq b]
      refine ⟨by omega, fun e => ?_⟩
      have e2 := this.2 (by omega)
      omega
/-! ### words that no cut can feign -/
def wholeP (p : Nat) : Prop := p % 1024 = 512 - ones (p / 1024)
def wordD (d : Nat) : Nat := d * 1024 + (512 - ones d)
theorem wordD_div {d : Nat} : wordD d / 1024 = d := by unfold wordD; omega
theorem wordD_mod {d : Nat} : wordD d % 1024 = 512 - ones d := by unfold wordD; omega
theorem wordD_whole (d : Nat) : wholeP (wordD d) := by
  unfold wholeP
  rw [wordD_div, wordD_mod]
theorem wholeP_eq {p : Nat} (h : wholeP p) : p = wordD (p / 1024) := by
  unfold wholeP at h
  unfold wordD
  omega
theorem and_div (a b : Nat) : (a &&& b) / 1024 = a / 1024 &&& b / 1024 := by
  have := Nat.shiftRight_and_distrib (a := a) (b := b) (i := 10)
  simpa [Nat.shiftRight_eq_div_pow] using this
theorem and_mod' (a b : Nat) : (a &&& b) % 1024 = a % 1024 &&& b % 1024 := by
  have := Nat.and_mod_two_pow (a := a) (b := b) (n := 10)
  simpa using this
theorem ones512 {p : Nat} (h : p < 2 ^ 522) : ones (p / 1024) ≤ 512 := ones_le 512 _ (by
  have e : (2 : Nat) ^ 522 = 1024 * 2 ^ 512 := by rw [show (1024 : Nat) = 2 ^ 10 by decide, ← Nat.pow_add]
  rw [e] at h
  exact Nat.div_lt_of_lt_mul h)
/-- of two whole words, one within the other one, both are the same -/
theorem berger {p q : Nat} (hp : wholeP p) (hq : wholeP q) (p2 : p < 2 ^ 522) (q2 : q < 2 ^ 522) (h : p &&& q = p) : p = q := by
  have e1 : p / 1024 &&& q / 1024 = p / 1024 := by rw [← and_div, h]
  have e2 : p % 1024 &&& q % 1024 = p % 1024 := by rw [← and_mod', h]
  have l : p % 1024 ≤ q % 1024 := by
    rw [← e2]
    exact Nat.and_le_right
  have s := ones_sub _ _ e1
  have a := ones512 p2
  have b := ones512 q2
  unfold wholeP at hp hq
  have := s.2 (by omega)
  omega
theorem wordD_lt {d : Nat} (h : d < 2 ^ 512) : wordD d < 2 ^ 522 := by
  have e : (2 : Nat) ^ 522 = 2 ^ 512 * 1024 := by rw [show (1024 : Nat) = 2 ^ 10 by decide, ← Nat.pow_add]
  rw [e]
  have := Nat.mul_le_mul_right 1024 (show d + 1 ≤ 2 ^ 512 by omega)
  unfold wordD
  omega
/-- the word is within what is left: whole exactly if it is the word -/
theorem whole_iff {p x : Nat} (hp : wholeP p) (p2 : p < 2 ^ 522) (x2 : x < 2 ^ 522) (h : p &&& x = p) : wholeP x ↔ x = p := by
  constructor
  · intro hx
    exact (berger hp hx p2 x2 h).symm
  · intro e
    rw [e]
    exact hp
end Vc
namespace Vc
open PySem PySem.Spec PyProof.Rows L2
theorem v_while {c : TT} {tb : TS} {D : Ends} {σ : L2.St} {H : Hp} (h : ∃ W : Nat → L2.St → Hp → Prop, (∃ m, W m σ H) ∧ ∀ m σ H, W m σ H →
  c σ H fun b H1 => if b = true then ∃ N : L2.St → Hp → Prop, (∀ σ' H', N σ' H' → ∃ m', m' < m ∧ W m' σ' H') ∧ tb { D with nx := N, ct := N, bk := D.nx } σ H1 else D.nx σ H1) : tWhile c tb D σ H := h
theorem pylong {i : Int} {k b : Nat} (h : k < 2 ^ b) (h0 : 0 < b) (h9 : b ≤ 9000) : Builtin.divisionGoesByPylong i (k : Int) = false :=
  PyProof.noPylong_of_log2 (Nat.lt_of_lt_of_le (PySem.Flt.log2_lt_of h0 (by rw [Int.natAbs_natCast]; exact h)) h9)
theorem nd (x y : Nat) : decide ((x : Int) = (y : Int)) = decide (x = y) := by simp [Int.natCast_inj]
theorem ndn (x y : Nat) : decide ((x : Int) ≠ (y : Int)) = decide (x ≠ y) := by simp [Int.natCast_inj]
theorem ndl (x y : Nat) : decide ((x : Int) < (y : Int)) = decide (x < y) := by simp
theorem shlN (d k : Nat) : (d : Int) * 2 ^ ((k : Int).toNat) = ((d * 2 ^ k : Nat) : Int) := by
  rw [Int.toNat_natCast, Int.natCast_mul, PySem.W.kbt_cast]
theorem shlP (k : Nat) : (1 : Int) * 2 ^ k = ((2 ^ k : Nat) : Int) := by
  rw [Int.one_mul, PySem.W.kbt_cast]
theorem shl_okN {d j n : Nat} (h : d < 2 ^ n) (hn : n + j ≤ 134217728) : CShl (d : Int) (j : Int) := shl_ok (n := n) (by rw [Int.natAbs_natCast]; exact h) hn
theorem shrN (d k : Nat) : (d : Int) / 2 ^ ((k : Int).toNat) = ((d / 2 ^ k : Nat) : Int) := by
  rw [Int.toNat_natCast, show (2 : Int) ^ k = ((2 ^ k : Nat) : Int) from (PySem.W.kbt_cast k).symm, Int.natCast_ediv]
theorem atI_mem {xs : List V} {i : Nat} (h : i < xs.length) : ∃ x, x ∈ xs ∧ atI xs (i : Int) = some x := ⟨xs[i], List.getElem_mem h, atI_nat (List.getElem?_eq_getElem h)⟩
theorem Same.toSx {W : Addr} {H H' : Hp} (s : Same H H') : Sx W H H' := Sx.of s
/-- the numbers of a row as data -/
def fold (ns : List Nat) : Nat := ns.foldl (fun d x => d * 65536 + x) ns.length
def dataOf (ns : List Nat) : Nat := fold ns * 2 ^ (16 * (31 - ns.length))
theorem foldl_lt : ∀ (ns : List Nat) (d k : Nat), (∀ n ∈ ns, n < 65536) → d < 65536 ^ k → ns.foldl (fun d x => d * 65536 + x) d < 65536 ^ (k + ns.length)
  | [], d, k, _, h => by simpa using h
  | n :: ns, d, k, hn, h => by
    have h1 : n < 65536 := hn n List.mem_cons_self
    have h2 : d * 65536 + n < 65536 ^ (k + 1) := by
      rw [Nat.pow_succ]
      have := Nat.mul_le_mul_right 65536 (show d + 1 ≤ 65536 ^ k by omega)
      omega
    have := foldl_lt ns (d * 65536 + n) (k + 1) (fun m hm => hn m (List.mem_cons_of_mem _ hm)) h2
    rw [List.foldl_cons, List.length_cons, show k + (ns.length + 1) = k + 1 + ns.length by omega]
    exact this
theorem fold_lt {ns : List Nat} (hn : ∀ n ∈ ns, n < 65536) (hl : ns.length ≤ 31) : fold ns < 65536 ^ (1 + ns.length) := foldl_lt ns _ 1 hn (by omega)
theorem dataOf_lt {ns : List Nat} (hn : ∀ n ∈ ns, n < 65536) (hl : ns.length ≤ 31) : dataOf ns < 2 ^ 512 := by
  have h := fold_lt hn hl
  unfold dataOf
  have e : (2 : Nat) ^ 512 = 65536 ^ (1 + ns.length) * 2 ^ (16 * (31 - ns.length)) := by
    rw [show (65536 : Nat) = 2 ^ 16 by decide, ← Nat.pow_mul, ← Nat.pow_add]
    congr 1
    omega
  rw [e]
  exact Nat.mul_lt_mul_of_pos_right h (Nat.pow_pos (by decide))
theorem fold_big {ns : List Nat} (hn : ∀ n ∈ ns, n < 65536) (hl : ns.length ≤ 31) : fold ns < 2 ^ 512 := by
  refine Nat.lt_of_lt_of_le (fold_lt hn hl) ?_
  rw [show (65536 : Nat) = 2 ^ 16 by decide, ← Nat.pow_mul]
  exact Nat.pow_le_pow_right (by decide) (by omega)
end Vc
namespace Vc
open PySem PySem.Spec PyProof.Rows L2
theorem sqT_sx {K : PySem.W.Frag} {tl : List V} {W p : Addr} {H H' : Hp} {xs : List V} (h : SqT K H p xs) (w : Wl tl H W) (s : Sx W H H') : SqT K H' p xs := by
  obtain ⟨a, b, c, e⟩ := w
  rcases h with (h | ⟨o, h⟩) | h
  · exact .inl (.inl (s _ _ (fun z => by rw [z, e] at h; cases h) h))
  · exact .inl (.inr ⟨o, s _ _ (fun z => by rw [z, e] at h; cases h) h⟩)
  · exact .inr h
theorem sqL_sx {K : PySem.W.Frag} {W p : Addr} {H H' : Hp} {xs : List V} (h : SqL K H p xs) (n : p ≠ W) (s : Sx W H H') : SqL K H' p xs := by
  rcases h with (h | ⟨o, h⟩) | h
  · exact .inl (.inl (s _ _ n h))
  · exact .inl (.inr ⟨o, s _ _ n h⟩)
  · exact .inr h
theorem fold_take {ns : List Nat} {i n d : Nat} (h : ns[i]? = some n) : (ns.take (i + 1)).foldl (fun d x => d * 65536 + x) d = (ns.take i).foldl (fun d x => d * 65536 + x) d * 65536 + n := by
  rw [List.take_add_one, h, List.foldl_append]
  rfl
abbrev vN : Nat → V := fun n => V.int (n : Int)
theorem vN_get {ns : List Nat} {i : Nat} {x : V} (h : (ns.map vN)[i]? = some x) : ∃ n, ns[i]? = some n ∧ x = vN n := by
  rw [List.getElem?_map] at h
  cases e : ns[i]? with
  | none => rw [e] at h; cases h
  | some n => rw [e] at h; exact ⟨n, rfl, (Option.some.inj h).symm⟩
theorem small_of {x : V} {m : Nat} {ks : List Nat} (hk : ∀ k ∈ ks, k ≤ m) (h : x ∈ ks.map vN) : ∃ n : Nat, n ≤ m ∧ x = V.int (n : Int) := by
  obtain ⟨n, hn, e⟩ := List.mem_map.mp h
  exact ⟨n, hk n hn, e.symm⟩
end Vc
namespace Vc
open PySem PySem.Spec PyProof.Rows L2
/-- two ways to what P says -/
theorem v_joinP {H : Hp} {Q : VK} {σ : L2.St} {c : Bool} {ta tb : TE} (P : V → Hp → Prop) (ha : c = true → ∀ Q' : VK, (∀ v H', P v H' → Q' v H') → ta σ H Q') (hb : c = false → ∀ Q' : VK, (∀ v H', P v H' → Q' v H') → tb σ H Q') (h : ∀ v H', P v H' → Q v H') : if c = true then ta σ H Q else tb σ H Q := by
  cases c with
  | true => simpa using ha rfl Q h
  | false => simpa using hb rfl Q h
theorem v_neB {a b : Bool} {H : Hp} {Q : VK} (h : Q (.bl (!decide (a = b))) H) : rNotB (.bl a) (.bl b) H Q := ⟨a, b, rfl, rfl, h⟩
theorem v_isB {a b : Bool} {H : Hp} {Q : VK} (h : Q (.bl (decide (a = b))) H) : rIsB (.bl a) (.bl b) H Q := ⟨a, b, rfl, rfl, h⟩
theorem v_notN {x : V} {H : Hp} {Q : VK} (h : Q (.bl (!decide (x = .non))) H) : (fun (x y : V) (H : Hp) (Q : VK) => y = .non ∧ Q (.bl (!decide (x = .non))) H) x .non H Q := ⟨rfl, h⟩
end Vc
namespace Vc
open PySem PySem.Spec PyProof.Rows L2
/-! ### range(i, j, c) as a value -/
def RgO (p : Addr) (i j c : Int) : HO := .ext fun h => ∃ t u v, IsRange h p i j c t u v
theorem rgO_ok {P : Program} {w : World} {H : Hp} {h : Heap} {p : Addr} {i j c : Int} {t u v : Tok} (e : IsRange h p i j c t u v) : ObjOk P w H h p (RgO p i j c) :=
  ⟨⟨t, u, v, e⟩, ⟨_, e⟩, fun _ _ ⟨t, u, v, e⟩ k => ⟨t, u, v, k _ e⟩⟩
def rRange3 : List V → Hp → VK → Prop := fun xs H Q => ∃ i j c, xs = [.int i, .int j, .int c] ∧ c ≠ 0 ∧ c.natAbs < 1073741824 ∧ ∀ p, H p = none → Q (.ref p) (upd H p (RgO p i j c))
def iRgv (te : TE) : TI := fun σ H R => te σ H fun x H1 => ∃ (p : Addr) (i j c : Int) (n : Nat), x = .ref p ∧ H1 p = some (RgO p i j c) ∧ RgC i j c n ∧ R (Itc i c n) H1
section
variable {X : Cx}
theorem cv_range3 : CallR X (.type "range") rRange3 := by
  intro pins s σ H xs us Q I r h
  obtain ⟨i, j, c, rfl, c0, c1, q⟩ := h
  cases r with
  | cons r rr =>
    cases rr with
    | cons r' rr =>
      cases rr with
      | cons r'' rr =>
        cases rr
        obtain ⟨t, rfl⟩ := r
        obtain ⟨t', rfl⟩ := r'
        obtain ⟨t'', rfl⟩ := r''
        refine call_range_3 c0 ?_ (.inl (PyProof.noPylong_small c1))
        exact ⟨.ref s.heap.objs.size, _, I.laid (t' := s.toks) (fun b u e => Heap.get?_push_of_some _ e) (Nat.le_refl _) (rgO_ok (IsRange.new ..)), rfl, q _ (I.hok.fresh (Nat.le_refl _))⟩
theorem pi_rgv {tg e : Expr} {te : TE} (he : PE X e te) : PI X tg e (iRgv te) := by
  refine ⟨fun pins s σ H R I h => ?_⟩
  refine thn (he.run pins s σ H _ I h) fun v s1 ⟨x, H1, I1, r1, q1⟩ => ?_
  obtain ⟨p, i, j, k, n, e1, hp, ⟨c0, c1, c2, c3⟩, q⟩ := q1
  subst e1
  cases r1
  obtain ⟨⟨t, u, v, hr⟩, _⟩ := I1.hok _ _ hp
  refine wpAny_pyIter_range hr c2 ?_
  refine pi_one (tk := s1.toks) I1 _ (turn_rangeC _ i k n) ?_ q
  have e1 : i + ((0 : Nat) : Int) * k = i := by simp
  have e2 : (n : Int) - ((0 : Nat) : Int) = Builtin.Range.rangeSize i j k := by rw [c3]; simp
  show IsRangeIter _ _ (i + ((0 : Nat) : Int) * k) ((n : Int) - ((0 : Nat) : Int)) k
  rw [e1, e2]
  exact Heap.get?_push_size _ rfl
end
theorem v_iRgv {te : TE} {σ : L2.St} {H : Hp} {R : It → Hp → Prop} (h : te σ H fun x H1 => ∃ (p : Addr) (i j c : Int) (n : Nat), x = .ref p ∧ H1 p = some (RgO p i j c) ∧ RgC i j c n ∧ R (Itc i c n) H1) : iRgv te σ H R := h
theorem lc_rangeC {lo c : Int} {n : Nat} {g : TG} {tt : TT} {te : TE} {vs : List Nat} {σ : L2.St} {H1 : Hp} {D : Addr} {Qd : Hp → Prop} (Pv : Nat → Hp → Prop) (h0 : Pv 0 (upd H1 D (.lst [])))
    (hs : ∀ i H, i < n → Pv i H → g (.int (lo + i * c)) (wipe σ vs) H fun σ2 H2 => wipe σ2 vs = wipe σ vs ∧ tt σ2 H2 fun b H3 =>
      if b = true then te σ2 H3 fun y H4 => ∃ acc, H4 D = some (.lst acc) ∧ acc.length < sizeLine ∧ Pv (i + 1) (upd H4 D (.lst (acc ++ [y]))) else Pv (i + 1) H3) (hd : ∀ H, Pv n H → Qd H) :
    ∃ W : Nat → Nat → Hp → Prop, (∃ m, W 0 m (upd H1 D (.lst []))) ∧ ∀ i m H, W i m H →
      ((Itc lo c n).stop i H ∧ Qd H) ∨ ((Itc lo c n).go i H ∧ ∃ Nx : Hp → Prop, (∀ H', Nx H' → ∃ m', m' < m ∧ W (i + 1) m' H') ∧ ∀ x H', (Itc lo c n).yld i H x H' → g x (wipe σ vs) H' fun σ2 H2 => wipe σ2 vs = wipe σ vs ∧ tt σ2 H2 fun b H3 =>
        if b = true then te σ2 H3 fun y H4 => ∃ acc, H4 D = some (.lst acc) ∧ acc.length < sizeLine ∧ Nx (upd H4 D (.lst (acc ++ [y]))) else Nx H3) := by
  refine ⟨fun i m H => m = n - i ∧ i ≤ n ∧ Pv i H, ⟨n, by simp, Nat.zero_le _, h0⟩, ?_⟩
  rintro i m H ⟨rfl, hi, p⟩
  by_cases hlt : i < n
  · refine .inr ⟨hlt, Pv (i + 1), fun H' p' => ⟨n - (i + 1), by omega, rfl, hlt, p'⟩, fun x H' y => ?_⟩
    obtain ⟨e, y⟩ := y
    subst e y
    exact hs i _ hlt p
  · have e : i = n := by omega
    subst e
    exact .inl ⟨Nat.le_refl _, hd H p⟩
/-! ### a, *b = a tuple -/
theorem tuple_from {prog : Program} {w : World} {A : Around} (hh : A.handled = none) (I ax : Addr) (hne : ax ≠ I) (x : Value) (items : List Value) :
    Walks prog w A I [I, ax] [I] items.length (fun i v => items[i]? = some v) (fun i h => h.IsTupleIter I ax (1 + i) ∧ h.IsTuple ax (x :: items).toArray) where
  sub := fun b hb => by simp at hb; simp [hb]
  frame := fun _ _ _ st hk => ⟨st.1.at fun o e => hk I (by simp) o e, st.2.at fun o e => hk ax (by simp) o e⟩
  item := fun i s Q E hi st hQ => by
    refine wpAny_pyNext_tuple_item st.1 st.2 (x := items[i]) (by simp [Nat.add_comm 1 i, hi]) fun h' hit' hs' => ?_
    exact hQ _ h' s.toks (by simp [hi]) ⟨by rw [← Nat.add_assoc]; exact hit', st.2.extBut hs'.extBut hne⟩ fun b o hb e => hs'.extBut b o (fun h => hb (by simp [h])) e
  done := fun s Q E st hQ => wpAny_pyNext_tuple_end hh st.1 st.2 (by simp [Nat.add_comm 1]) fun h' he' => hQ h' s.toks fun b o hb e => he' b o (fun h => hb (by simp [h])) e
  self := fun _ _ _ _ st hQ => wpAny_pyIter_tupleiter st.1 hQ
def gHead (K : PySem.W.Frag) (g1 g2 : TG) : TG := fun v σ H Q => ∃ a x xs, v = .ref a ∧ SqT K H a (x :: xs) ∧ xs.length ≤ 1000 ∧ ∀ l, H l = none → g1 x σ (upd H l (.lst xs)) fun σ1 H1 => g2 (.ref l) σ1 H1 Q
section
variable {X : Cx}
theorem pg_head {t1 t2 : Expr} {p2 pos : Pos} {k : Nat} {g1 g2 : TG} (hc : X.calm = true) (h1 : PG X t1 g1) (h2 : PG X t2 g2)
    (hs : assignEach [t1, .Starred t2 p2] X.env = [(false, assign t1 X.env), (true, assign t2 X.env)] := by rfl) : PG X (.Tuple [t1, .Starred t2 p2] k pos) (gHead X.K g1 g2) := by
  refine ⟨fun pins s σ H v u Q I r hw => ?_⟩
  obtain ⟨a, x, xs, e1, hq, hl, hw⟩ := hw
  subst e1
  cases r
  obtain ⟨its, rv, ht, hz⟩ := I.tuple hq
  cases rv with
  | cons rx rxs =>
    rename_i ux uxs
    have hlt : a ≠ s.heap.objs.size := by obtain ⟨o, ho, _⟩ := ht; exact Nat.ne_of_lt (Heap.lt_size ho)
    rw [assign_Tuple]
    refine wpAny_bind (wpAny_standAt ?_)
    unfold unpack
    rw [hs]
    refine wpAny_bind (wpAny_holding ?_)
    show wpAny _ _ (unpackItems (.ref a) 2 (some 1)) _ _ _
    unfold unpackItems
    refine wpAny_bind ?_
    unfold notIterableAtAll
    refine wpAny_bind (wpAny_specialOf ht.typeIs slot_tuple_iter.lookup ?_)
    refine wpAny_pure ?_
    simp only [Bool.false_eq_true, if_false]
    refine wpAny_bind (wpAny_holding (iter_tuple ht ?_))
    refine wpAny_bind (wpAny_holding (draw_tuple hlt 1 0 _ _ ⟨_, Heap.get?_push_size _ rfl, rfl, rfl⟩ (ht.push _) (by simp) fun h₁ hit₁ hs₁ => ?_))
    have e0 : List.take 1 (List.drop 0 ((ux :: uxs).toArray.toList)) = [ux] := by simp
    rw [e0]
    rw [if_neg (by simp)]
    have ht₁ : IsTup h₁ a (ux :: uxs).toArray := (ht.push _).extBut hs₁.extBut hlt
    have hz1 : s.heap.objs.size < h₁.objs.size := by obtain ⟨o, ho, _⟩ := hit₁; exact Heap.lt_size ho
    refine wpAny_bind (wpAny_holding (wpAny_collect_iter (.inr (.inr (.inr rfl))) (tuple_from (A := X.A.in1) (I.ok.hd hc) s.heap.objs.size a hlt ux uxs).toS (fun _ _ st => Heap.IsTupleIter.typeIs st.1) ⟨hit₁, ht₁⟩ (fun b hb => ?_) (List.mem_cons_self) (fun s' acc hm ha => ?_) ?_))
    · rcases List.mem_cons.mp hb with rfl | hb
      · exact hz1
      · rw [List.mem_singleton.mp hb]
        obtain ⟨o, ho, _⟩ := ht₁
        exact Heap.lt_size ho
    · have ea : acc.toList = uxs := by
        obtain ⟨n1, n2⟩ := ha
        refine List.ext_getElem? fun i => ?_
        cases e : acc[i]? with
        | some y => rw [n2 i y e, Array.getElem?_toList, e]
        | none =>
          have : acc.size ≤ i := by simpa using e
          rw [List.getElem?_eq_none (by simpa using this), List.getElem?_eq_none (by omega)]
      rw [ea]
      rw [if_neg (by simp)]
      have kk : ∀ b o, s.heap.get? b = some o → s'.heap.get? b = some o := fun b o e => hm.heap b o (fun z => by
        rw [List.mem_singleton.mp z] at e
        exact absurd (Heap.lt_size e) (Nat.lt_irrefl _)) (hs₁.extBut b o (Nat.ne_of_lt (Heap.lt_size e)) (Heap.get?_push_of_some _ e))
      rw [show 2 - 1 - 1 = 0 from rfl, Nat.sub_zero, List.take_length, List.drop_length]
      have I1 : Inv X pins σ H s' := by
        have q := I.kept (t' := s'.toks) kk
        obtain ⟨hp', g', d', tk', os'⟩ := s'
        have e2 : g' = s.gens := hm.gens
        have e3 : d' = s.drawn := hm.drawn
        have e4 : os' = s.os := hm.os
        subst e2 e3 e4
        exact q
      refine wpAny_bind (wpAny_newList ?_ ?_)
      · refine wpAny_pure ?_
        have I2 : Inv X pins σ (upd H s'.heap.objs.size (.lst xs)) { s' with heap := s'.heap.push { cls := .type "list", data := .seq uxs.toArray } } :=
          I1.laid (t' := s'.toks) (fun b u e => Heap.get?_push_of_some _ e) (Nat.le_refl _) (show ObjOk X.prog X.w _ _ _ (.lst xs) from ⟨Nat.le_trans hl (by decide), uxs, _, rxs, Heap.get?_push_size _ rfl⟩)
        show wpAny _ _ (assignInOrder [assign t1 X.env, assign t2 X.env] [ux, .ref s'.heap.objs.size]) _ _ _
        refine assignInOrder_cons (thn (h1.run pins _ σ _ x ux _ I2 rx (hw _ (I1.hok.fresh (Nat.le_refl _)))) fun _ s3 ⟨σ3, H3, I3, q3⟩ => ?_)
        refine assignInOrder_cons (thn (h2.run pins s3 σ3 H3 (.ref s'.heap.objs.size) _ _ I3 rfl q3) fun _ s4 ⟨σ4, H4, I4, q4⟩ => ?_)
        exact assignInOrder_nil ⟨σ4, H4, I4, q4⟩
      · rw [← rxs.length]
        exact Nat.le_trans hl (by decide)
    · rw [← rxs.length]
      exact Nat.le_trans hl (by decide)
end
/-! ### any, of ints by their truth -/
def rAnyI (K : PySem.W.Frag) : List V → Hp → VK → Prop := fun vs H Q => ∃ (a : Addr) (ns : List Int), vs = [V.ref a] ∧ SqL K H a (ns.map V.int) ∧ Q (.bl (ns.any (· ≠ 0))) H
section
variable {X : Cx}
theorem truth_ints {prog : Program} {w : World} {A : Around} {ns : List Int} {its : List Value} (e : Vals (ns.map V.int) its) :
    TruthOf prog w A (fun i v => its.toArray[i]? = some v) (fun i => (ns.map fun z => decide (z ≠ 0)).getD i false) := fun i v s Q E hv hq => by
  have hv' : its[i]? = some v := by simpa using hv
  have hi : i < its.length := by
    rcases Nat.lt_or_ge i its.length with h | h
    · exact h
    · rw [List.getElem?_eq_none h] at hv'; cases hv'
  have el := Paired.length e
  rw [List.length_map] at el
  have hn : ns[i]? = some (ns[i]'(by omega)) := List.getElem?_eq_getElem (by omega)
  generalize ns[i]'(by omega) = n at hn
  obtain ⟨w', hw, rw'⟩ := Vals.get e (i := i) (by rw [List.getElem?_map, hn]; rfl)
  rw [hv'] at hw
  cases hw
  obtain ⟨t, rfl⟩ := rw'
  have hg : (ns.map (fun z => decide (z ≠ 0))).getD i false = (n != 0) := by rw [List.getD_eq_getElem?_getD, List.getElem?_map, hn, bne, Option.map_some, Option.getD_some]; by_cases h : n = 0 <;> simp [h]
  have hq' : Q ((ns.map (fun z => decide (z ≠ 0))).getD i false) s := hq
  rw [hg] at hq'
  exact PyProof.Rows.truthy_int hq'
theorem cr_anyI (hc : X.calm = true) : CallR X (.builtin "any") (rAnyI X.K) := by
  intro pins s σ H vs us Q I r h
  obtain ⟨a, ns, rfl, hs, q⟩ := h
  obtain ⟨its, rv, hl, _⟩ := I.list hs
  rw [Vals.ref1 r]
  refine call_any_walk (iter_any hl.isList fun s₂ e2 st hne => ?_)
  subst e2
  refine ⟨_, _, _, _, _, _, _, rfl, Walks.list (A := X.A.in1) (I.ok.hd hc) _ a hne its.toArray, st, truth_ints rv, fun h' tk hk => ?_⟩
  refine ⟨.bl _, H, I.kept fun b o eo => hk b o (fun hmem => ?_) (Heap.get?_push_of_some _ eo), ?_, q⟩
  · rcases List.mem_cons.mp hmem with e1 | hmem
    · exact absurd (e1 ▸ Heap.lt_size eo) (Nat.lt_irrefl _)
    · cases hmem
  · show Value.bool _ = Value.bool _
    have e := rv.length
    rw [List.length_map] at e
    rw [show ns.any (fun z => decide (z ≠ 0)) = (ns.map fun z => decide (z ≠ 0)).any id by rw [List.any_map]; rfl, ← L2.any_range, List.size_toArray, List.length_map, ← e]
end
theorem v_rng3 {i j c : Int} {H : Hp} {Q : VK} (c0 : c ≠ 0) (c1 : c.natAbs < 1073741824) (q : ∀ p, H p = none → Q (.ref p) (upd H p (RgO p i j c))) : rRange3 [.int i, .int j, .int c] H Q := ⟨i, j, c, rfl, c0, c1, q⟩
theorem v_anyI {K : PySem.W.Frag} {H : Hp} {Q : VK} {p : Addr} {ns : List Int} (h : SqL K H p (ns.map V.int)) (q : Q (.bl (ns.any (· ≠ 0))) H) : rAnyI K [.ref p] H Q := ⟨p, ns, rfl, h, q⟩
theorem v_head {K : PySem.W.Frag} {g1 g2 : TG} {a : Addr} {x : V} {xs : List V} {σ : L2.St} {H : Hp} {Q : L2.St → Hp → Prop} (h : SqT K H a (x :: xs)) (hl : xs.length ≤ 1000) (q : ∀ (l : Addr) (H' : Hp), H l = none → Same H H' → H' l = some (.lst xs) → g1 x σ H' fun σ1 H1 => g2 (.ref l) σ1 H1 Q) : gHead K g1 g2 (.ref a) σ H Q :=
  ⟨a, x, xs, rfl, h, hl, fun l hl => q l _ hl (same_new hl) upd_same⟩
/-! ### the units of data -/
theorem fold_split : ∀ (B : List Nat) (d : Nat), B.foldl (fun d x => d * 65536 + x) d = d * 65536 ^ B.length + B.foldl (fun d x => d * 65536 + x) 0
  | [], d => by simp
  | b :: B, d => by
    rw [List.foldl_cons, List.foldl_cons, fold_split B (d * 65536 + b), fold_split B (0 * 65536 + b), List.length_cons, Nat.pow_succ]
    rw [Nat.zero_mul, Nat.zero_add, Nat.add_mul, Nat.mul_assoc, Nat.mul_comm 65536 (65536 ^ B.length)]
    omega
theorem digit {A B : List Nat} {x : Nat} (hx : x < 65536) (hB : ∀ n ∈ B, n < 65536) :
    (A ++ x :: B).foldl (fun d x => d * 65536 + x) 0 / 65536 ^ B.length % 65536 = x := by
  have hb := foldl_lt B 0 0 hB (by decide)
  rw [Nat.zero_add] at hb
  rw [List.foldl_append, List.foldl_cons, fold_split B]
  rw [Nat.add_comm, Nat.add_mul_div_right _ _ (Nat.pow_pos (by decide)), Nat.div_eq_of_lt hb, Nat.zero_add]
  omega
theorem fold_zeros : ∀ (k d : Nat), (List.replicate k 0).foldl (fun d x => d * 65536 + x) d = d * 65536 ^ k
  | 0, d => by simp
  | k + 1, d => by
    rw [List.replicate_succ, List.foldl_cons, fold_zeros k, Nat.add_zero, Nat.pow_succ, Nat.mul_assoc, Nat.mul_comm 65536]
def rowU (ns : List Nat) : List Nat := ns.length :: ns ++ List.replicate (31 - ns.length) 0
theorem dataOf_units (ns : List Nat) : dataOf ns = (rowU ns).foldl (fun d x => d * 65536 + x) 0 := by
  unfold dataOf rowU fold
  rw [List.foldl_append, List.foldl_cons, fold_zeros, Nat.zero_mul, Nat.zero_add, show (65536 : Nat) = 2 ^ 16 by decide, ← Nat.pow_mul]
theorem rowU_lt {ns : List Nat} (hn : ∀ n ∈ ns, n < 65536) (hl : ns.length ≤ 31) : ∀ n ∈ rowU ns, n < 65536 := by
  intro n h
  unfold rowU at h
  rcases List.mem_append.mp h with h | h
  · rcases List.mem_cons.mp h with rfl | h
    · omega
    · exact hn n h
  · rw [(List.mem_replicate.mp h).2]
    decide
theorem rowU_len {ns : List Nat} (hl : ns.length ≤ 31) : (rowU ns).length = 32 := by
  unfold rowU
  rw [List.length_append, List.length_cons, List.length_replicate]
  omega
theorem unit_at {ns : List Nat} (hn : ∀ n ∈ ns, n < 65536) (hl : ns.length ≤ 31) {i x : Nat} (h : (rowU ns)[i]? = some x) : wordD (dataOf ns) / 2 ^ (506 - 16 * i) % 65536 = x := by
  have hi : i < 32 := by
    rw [← rowU_len hl]
    rcases Nat.lt_or_ge i (rowU ns).length with h' | h'
    · exact h'
    · rw [List.getElem?_eq_none h'] at h; cases h
  have hlt := rowU_lt hn hl
  have e : rowU ns = (rowU ns).take i ++ x :: (rowU ns).drop (i + 1) := by
    have hi' : i < (rowU ns).length := by rw [rowU_len hl]; exact hi
    rw [List.getElem?_eq_getElem hi'] at h
    have h2 := Option.some.inj h
    rw [← h2, List.getElem_cons_drop, List.take_append_drop]
  have hB : ((rowU ns).drop (i + 1)).length = 31 - i := by
    rw [List.length_drop, rowU_len hl]
    omega
  have d := digit (A := (rowU ns).take i) (x := x) (B := (rowU ns).drop (i + 1)) (hlt x (List.mem_of_getElem? h)) (fun n hn => hlt n (List.mem_of_mem_drop hn))
  rw [← e, ← dataOf_units, hB] at d
  rw [show 2 ^ (506 - 16 * i) = 1024 * 65536 ^ (31 - i) by
    rw [show (65536 : Nat) = 2 ^ 16 by decide, show (1024 : Nat) = 2 ^ 10 by decide, ← Nat.pow_mul, ← Nat.pow_add]
    congr 1
    omega]
  rw [← Nat.div_div_eq_div_mul, wordD_div]
  exact d
theorem unit_row {ns : List Nat} (hn : ∀ n ∈ ns, n < 65536) (hl : ns.length ≤ 31) : (List.range 32).map (fun i => wordD (dataOf ns) / 2 ^ (506 - 16 * i) % 65536) = rowU ns := by
  refine List.ext_getElem? fun i => ?_
  rw [List.getElem?_map]
  rcases Nat.lt_or_ge i 32 with hi | hi
  · have hi' : i < (rowU ns).length := by rw [rowU_len hl]; exact hi
    rw [List.getElem?_range hi, Option.map_some, List.getElem?_eq_getElem hi', unit_at hn hl (List.getElem?_eq_getElem hi')]
  · rw [List.getElem?_eq_none (by rw [List.length_range]; exact hi), List.getElem?_eq_none (by rw [rowU_len hl]; exact hi), Option.map_none]
theorem cut_from (xs ys : List V) (k : Nat) (h : xs.length = k) : cutV (xs ++ ys) (some (k : Int)) none = ys := by
  have e : HT.sIx (xs ++ ys).length 0 (some (k : Int)) = k := by
    rw [HT.sIx_nat, List.length_append]
    omega
  have e2 : HT.sIx (xs ++ ys).length (xs ++ ys).length none = (xs ++ ys).length := rfl
  unfold cutV
  rw [e, e2, ← h, List.drop_left, List.length_append, List.take_of_length_le (by omega)]
theorem cut_to (xs ys : List V) (k : Nat) (h : xs.length = k) : cutV (xs ++ ys) none (some (k : Int)) = xs := by
  have e : HT.sIx (xs ++ ys).length (xs ++ ys).length (some (k : Int)) = k := by
    rw [HT.sIx_nat, List.length_append]
    omega
  have e2 : HT.sIx (xs ++ ys).length 0 none = 0 := rfl
  unfold cutV
  rw [e, e2, ← h, List.drop_zero, Nat.sub_zero, List.take_left]
end Vc
namespace Vc
open PySem PySem.Spec PyProof.Rows L2
/-! ### enumerate(a tuple) -/
section
variable {prog : Program} {w : World} {A : Around} {E : Value → Shared → Prop} {s : Shared}
theorem tup_next {j a : Addr} {i : Nat} {xs : Array Value} {v : Value} {Q : Value → Shared → Prop} (hj : IsTupIter s.heap j a i) (ha : IsTup s.heap a xs) (hv : xs[i]? = some v)
    (q : ∀ h', IsTupIter h' j a (i + 1) → Heap.SameBut j s.heap h' → Q v { s with heap := h' }) : wpAny (model prog w) A (Builtin.SmallTypes.nextOf (.ref j)) Q E s := by
  obtain ⟨oj, gj, cj, dj⟩ := id hj
  obtain ⟨oa, ga, _, na, da⟩ := ha
  unfold Builtin.SmallTypes.nextOf
  refine wpAny_bind (wpAny_callSpecial?_slot (name := Str.ofString "__next__") hj.typeIs slot_tupleiter_next (wpAny_call_entry slot_tupleiter_next hj.typeIs entry_tupleiter_next ?_ (args_tupleiter_next _)))
  show wpAny _ _ (field (.ref j) 0 >>= _) _ _ s
  refine wpAny_bind (wpAny_field gj dj (x := .ref a) rfl ?_)
  show wpAny _ _ (if (Value.ref a == Value.none) = true then _ else _) _ _ s
  rw [if_neg (show ¬ ((Value.ref a == Value.none) = true) from Bool.false_ne_true)]
  show wpAny _ _ (field (.ref j) 1 >>= _) _ _ s
  refine wpAny_bind (wpAny_field gj dj (x := .int i 0) rfl ?_)
  show wpAny _ _ (seqItems? (.ref a) >>= _) _ _ s
  refine wpAny_bind (wpAny_seqItems ga da ?_)
  simp only [Int.toNat_natCast, hv]
  refine wpAny_bind (wpAny_setField gj dj (by simp) (wpAny_pure ⟨v, rfl, wpAny_pure (q _ ⟨_, Heap.get?_update_self _ gj (Obj.isFreed_of_fields (Obj.data_mapFields dj _)), (Obj.cls_mapFields ..).trans cj, ?_⟩ (Heap.SameBut.update ..))⟩))
  rw [Obj.data_mapFields dj]
  simp [rawInt]
theorem tup_last {j a : Addr} {i : Nat} {xs : Array Value} {Q : Value → Shared → Prop} (hh : A.handled = none) (hj : IsTupIter s.heap j a i) (ha : IsTup s.heap a xs) (hv : xs[i]? = none)
    (q : ∀ h' e, Heap.ExtBut j s.heap h' → (∃ o, h'.get? e = some o ∧ o.cls = .type "StopIteration") → E (.ref e) { s with heap := h' }) : wpAny (model prog w) A (Builtin.SmallTypes.nextOf (.ref j)) Q E s := by
  obtain ⟨oj, gj, cj, dj⟩ := id hj
  obtain ⟨oa, ga, _, na, da⟩ := ha
  unfold Builtin.SmallTypes.nextOf
  refine wpAny_bind (wpAny_callSpecial?_slot (name := Str.ofString "__next__") hj.typeIs slot_tupleiter_next (wpAny_call_entry slot_tupleiter_next hj.typeIs entry_tupleiter_next ?_ (args_tupleiter_next _)))
  show wpAny _ _ (field (.ref j) 0 >>= _) _ _ s
  refine wpAny_bind (wpAny_field gj dj (x := .ref a) rfl ?_)
  show wpAny _ _ (if (Value.ref a == Value.none) = true then _ else _) _ _ s
  rw [if_neg (show ¬ ((Value.ref a == Value.none) = true) from Bool.false_ne_true)]
  show wpAny _ _ (field (.ref j) 1 >>= _) _ _ s
  refine wpAny_bind (wpAny_field gj dj (x := .int i 0) rfl ?_)
  show wpAny _ _ (seqItems? (.ref a) >>= _) _ _ s
  refine wpAny_bind (wpAny_seqItems ga da ?_)
  simp only [Int.toNat_natCast, hv]
  refine wpAny_bind (wpAny_rule (wpAny_bind (wpAny_setField gj dj (by simp) ?_)))
  show wpAny _ _ (newExc (.type "StopIteration") [] >>= _) _ _ _
  refine wpAny_bind ?_
  simp only [newExc, newTuple]
  refine wpAny_bind (wpAny_newObj_type ?_ (by size_fits))
  refine wpAny_bind (m := firstArgMember _ _) (wpAny_of_eq (a := Value.none) (by first | rfl | (simp only [firstArgMember]; rfl)) ?_)
  refine wpAny_newObj_type ?_ (by size_fits)
  simp only [raiseNew]
  refine wpAny_bind (wpAny_handled ?_)
  first | rw [show A.in1.handled = none from hh] | rw [hh]
  refine wpAny_bind (wpAny_pure (wpAny_throw ?_))
  exact q _ _ (((Heap.SameBut.update ..).extBut.push _).push _) ⟨_, Heap.get?_push_size _ rfl, rfl⟩
end
theorem draws_tup {prog : Program} {w : World} {A : Around} (hh : A.handled = none) (j a : Addr) (ne : a ≠ j) (xs : Array Value) :
    Draws prog w A j [j, a] xs.size (fun i v => xs[i]? = some v) (fun i h => IsTupIter h j a i ∧ IsTup h a xs) where
  live := fun _ _ ⟨⟨o, ho, _⟩, _⟩ => ⟨o, ho⟩
  frame := fun _ _ _ ⟨⟨o, ho, r⟩, ⟨o2, ho2, r2⟩⟩ k => ⟨⟨o, k j (by simp) _ ho, r⟩, ⟨o2, k a (by simp) _ ho2, r2⟩⟩
  item := fun i s Q E hi st hQ => tup_next st.1 st.2 (v := xs[i]) (by simp [hi]) fun h' t1 t2 => hQ _ h' s.toks (by simp [hi]) ⟨t1, st.2.extBut t2.extBut ne⟩ t2
  done := fun s Q E st hE => tup_last hh st.1 st.2 (by simp) hE
theorem enum_makes (a : Addr) (xs : Array Value) (n : Nat) (dct : Option Addr) (sl : Array (Option Value)) :
    Meets (Builtin.«enumerate.__new__» ⟨[.type "enumerate", .ref a], []⟩) (fun _ R s => s.heap.get? a = some { cls := .type "tuple", dict := dct, data := .seq xs n, slots := sl } ∧
      R (.ok (.ret (.ref (s.heap.push { cls := .type "tuple_iterator", data := .fields #[.ref a, .int 0 0] }).objs.size)))
        { s with heap := (s.heap.push { cls := .type "tuple_iterator", data := .fields #[.ref a, .int 0 0] }).push { cls := .type "enumerate", data := .fields #[.none, .bool false, .ref s.heap.objs.size, rawInt 0, .none, .none] } }) :=
  .of_wp fun prog w A R s hyp => by
    obtain ⟨hp, gs, dr, tk, os⟩ := s
    obtain ⟨ha, hyp⟩ := hyp
    have se := sub_enumerate
    have isT : IsTup (Shared.heap ⟨hp, gs, dr, tk, os⟩) a xs := ⟨_, ha, rfl, n, rfl⟩
    wp_walk using AutoSeq1.wpAny_loadPart' ha
    refine wpAny_stack_any fun _ => wpAny_pure ?_
    split
    · rename_i c _ _ _ _ _
      cases (c == Value.type "enumerate") <;> wp_walk using AutoSeq1.wpAny_loadPart' ha, iter_tuple isT <;> exact ⟨_, rfl, hyp⟩
    · wp_walk using AutoSeq1.wpAny_loadPart' ha, iter_tuple isT
      exact ⟨_, rfl, hyp⟩
end Vc
namespace Vc
open PySem PySem.Spec PyProof.Rows L2
theorem enum_tup {prog : Program} {w : World} {A : Around} {E : Value → Shared → Prop} {s : Shared} {a : Addr} {xs : Array Value} {Q : Value → Shared → Prop} (ha : IsTup s.heap a xs)
    (h : ∀ h', IsEnum h' (s.heap.objs.size + 1) s.heap.objs.size 0 .none → IsTupIter h' s.heap.objs.size a 0 → (∀ b o, s.heap.get? b = some o → h'.get? b = some o) → Q (.ref (s.heap.objs.size + 1)) { s with heap := h' }) :
    wpAny (model prog w) A (call (.type "enumerate") [.ref a]) Q E s := by
  obtain ⟨⟨c, dct, dt, sl⟩, ga, gc, n, gd⟩ := ha
  replace gc : c = .type "tuple" := gc
  replace gd : dt = .seq xs n := gd
  subst gc gd
  refine callType_new F.called_enumerate (by decide) (F.typeCall_enumerate_1 _) (F.newCall_enumerate_1 _) (fun ob => F.args_object_init_2 ob _) F.entry_enumerate_new (enum_makes a xs n dct sl) ⟨ga, ?_⟩
  have z : (s.heap.push { cls := .type "tuple_iterator", data := .fields #[.ref a, .int 0 0] }).objs.size = s.heap.objs.size + 1 := Heap.size_push ..
  have g := Heap.get?_push_size (s.heap.push { cls := .type "tuple_iterator", data := .fields #[.ref a, .int 0 0] })
    (o := { cls := .type "enumerate", data := .fields #[.none, .bool false, .ref s.heap.objs.size, rawInt 0, .none, .none] }) rfl
  show _ ∧ _
  rw [z] at g ⊢
  exact ⟨⟨_, g, rfl⟩, h _ g ⟨_, Heap.get?_push_of_some _ (Heap.get?_push_size _ rfl), rfl, rfl⟩ fun b o x => Heap.get?_push_of_some _ (Heap.get?_push_of_some _ x)⟩
theorem draws_end {prog : Program} {w : World} {A : Around} (hh : A.handled = none) (j a : Addr) (ne : a ≠ j) (xs : Array Value) (i : Nat) (hn : xs[i]? = none) :
    Draws prog w A j [j, a] i (fun _ _ => True) (fun k h => k = i ∧ IsTupIter h j a i ∧ IsTup h a xs) where
  live := fun _ _ st => let ⟨_, ⟨o, ho, _⟩, _⟩ := st; ⟨o, ho⟩
  frame := fun _ _ _ st k => let ⟨e, ⟨o, ho, r⟩, ⟨o2, ho2, r2⟩⟩ := st; ⟨e, ⟨o, k j (by simp) _ ho, r⟩, ⟨o2, k a (by simp) _ ho2, r2⟩⟩
  item := fun k s Q E hi st hQ => absurd st.1 (Nat.ne_of_lt hi)
  done := fun s Q E st hE => tup_last hh st.2.1 st.2.2 hn hE
/-- the tuple at a, each item in a new pair -/
def Itq (K : PySem.W.Frag) (a : Addr) : It :=
  ⟨fun i H => ∃ (xs : List V) (x : V), SqT K H a xs ∧ xs[i]? = some x, fun i H v H' => ∃ T x, v = .ref T ∧ H T = none ∧ H' = upd H T (.tup [.int (i : Nat), x]) ∧ ∀ xs, SqT K H a xs → xs[i]? = some x, fun i H => ∃ xs : List V, SqT K H a xs ∧ xs.length ≤ i⟩
theorem turn_q {P : Program} {w : World} {K : PySem.W.Frag} {elts : List Expr} {kk : Nat} {tpos : Pos} (a e it : Addr) :
    Turn P w K (.Tuple elts kk tpos) (Itq K a) [e, it] e (fun i h => (∃ old, IsEnum h e it ((i : Nat) : Int) old) ∧ IsTupIter h it a i ∧ e ≠ it ∧ a ≠ it ∧ a ≠ e) where
  mem := List.mem_cons_self
  obj := fun i h st b hb => by
    obtain ⟨⟨old, he⟩, ⟨o, ho, hc, hd⟩, hr⟩ := st
    rcases List.mem_cons.mp hb with z | z
    · subst z
      exact ⟨_, he, fun v q => nomatch q⟩
    · rw [List.mem_singleton.mp z]
      exact ⟨o, ho, fun v q => by rw [hd] at q; cases q⟩
  keep := fun i h h' st k => let ⟨⟨old, he⟩, ⟨o, ho, r⟩, ne⟩ := st; ⟨⟨old, k e (by simp) _ he⟩, ⟨o, k it (by simp) _ ho, r⟩, ne⟩
  item := by
    intro X hP hw hK hc i pins s σ H E I hf st hg
    subst hP hw hK
    obtain ⟨⟨old, he⟩, hit, ne, na, ne2⟩ := st
    obtain ⟨xs, x, hq, hx⟩ := hg
    obtain ⟨its, rv, p, hz⟩ := I.tuple hq
    obtain ⟨u, hu, ru⟩ := rv.get hx
    have lt_e : e < s.heap.objs.size := Heap.lt_size he
    have lt_i : it < s.heap.objs.size := by obtain ⟨_, g, _⟩ := hit; exact Heap.lt_size g
    have hui : its.toArray[i]? = some u := by simpa using hu
    have hlt : i < its.toArray.size := by
      rcases Nat.lt_or_ge i its.toArray.size with z | z
      · exact z
      · rw [Array.getElem?_eq_none z] at hui; cases hui
    refine wpAny_pyNext_enum_itemD (draws_tup (A := X.A.in1) (I.ok.hd hc) it a na its.toArray) he ⟨hit, p⟩ hlt ne (by simp [ne, Ne.symm ne2]) fun x' h' tk hx' ho st' hT hsz hk => ?_
    have ex : x' = u := by
      have hx' : its.toArray[i]? = some x' := hx'
      rw [hui] at hx'
      exact (Option.some.inj hx').symm
    subst ex
    refine ⟨_, rfl, wpAny_letOwnedTupleGo_enum (s := { s with heap := h', toks := tk + 1 }) ho fun h2 he2 sb => ?_⟩
    have hT2 := (sb.2 _ (Nat.ne_of_gt lt_e)).trans hT
    have I1 : Inv X pins σ (upd H s.heap.objs.size (.tup [.int (i : Nat), x])) { s with heap := h2, toks := tk + 1 } :=
      I.turnedNew (ch := [e, it]) (fun b ob hb q => (sb.2 b (fun z => hb (by simp [z]))).trans (hk b ob (fun z => hb (by simp [z])) (fun z => hb (by simp [z])) q)) hf (Nat.le_refl _)
        (show ObjOk X.prog X.w _ h2 _ (.tup _) from ⟨by show 2 ≤ sizeLine; decide, [.int i tk, x'], .cons ⟨_, rfl⟩ (.cons ru .nil), ⟨_, hT2, rfl, _, rfl⟩⟩)
    refine ⟨.ref s.heap.objs.size, _, I1, rfl, ⟨_, x, rfl, I.hok.fresh (Nat.le_refl _), rfl, fun ys hy => ?_⟩, ⟨⟨x', by rw [show ((i + 1 : Nat) : Int) = (i : Int) + 1 by omega]; exact he2⟩, ?_, ne, na, ne2⟩, fun b hb => ?_⟩
    · rw [I.tuple_inj hy hq]
      exact hx
    · obtain ⟨o, g, r⟩ := st'.1
      exact ⟨o, (sb.2 it (Ne.symm ne)).trans g, r⟩
    · have hb' : b < s.heap.objs.size := by
        rcases List.mem_cons.mp hb with z | z
        · rw [z]; exact lt_e
        · rw [List.mem_singleton.mp z]; exact lt_i
      rw [upd_ne (Nat.ne_of_lt hb')]
      exact (hf b hb).1
  done := by
    intro X hP hw hK hc i pins s σ H E I hf st hg
    subst hP hw hK
    obtain ⟨⟨old, he⟩, hit, ne, na, ne2⟩ := st
    obtain ⟨xs, hq, hx⟩ := hg
    obtain ⟨its, rv, p, hz⟩ := I.tuple hq
    obtain ⟨f0, f1, f2, f3, f4, f5⟩ := hf it (by simp)
    have hn : its.toArray[i]? = none := by
      have := rv.length
      simp
      omega
    exact wpAny_pyNext_enum_endD (draws_end (A := X.A.in1) (I.ok.hd hc) it a na its.toArray i hn) he ⟨rfl, hit, p⟩ fun h' eb => ⟨rfl, I.turned (t' := s.toks) (fun b o hb q => eb b o hb q) f0 f1 f3 f4 f5⟩
  self := fun A i s Q E st h => let ⟨⟨_, he⟩, _⟩ := st; wpAny_pyIter_enum he h
def iEnq (K : PySem.W.Frag) (ta : TA) : TI := fun σ H R => ta σ H fun vs H1 => ∃ a xs, vs = [.ref a] ∧ SqT K H1 a xs ∧ R (Itq K a) H1
theorem v_iEnq {K : PySem.W.Frag} {ta : TA} {σ : L2.St} {H : Hp} {R : It → Hp → Prop} (h : ta σ H fun vs H1 => ∃ a xs, vs = [.ref a] ∧ SqT K H1 a xs ∧ R (Itq K a) H1) : iEnq K ta σ H R := h
theorem pi_enq {X : Cx} {e : Expr} {ta : TA} {p pos tpos : Pos} {elts : List Expr} {kk : Nat} (hg : Gl X "enumerate") (hm : X.mg "enumerate" = none) (ha : PA X [e] ta) (hs : starEach [e] X.env = [(false, eval e X.env)] := by rfl) :
    PI X (.Tuple elts kk tpos) (.Call (.Name "enumerate" p) [e] [] pos) (iEnq X.K ta) := by
  refine ⟨fun pins s σ H R I h => Call_ (ld_blt I hg hm boot_enumerate (PyProof.Rows.callWith_type1 (thn (ha.run pos pins s σ H _ I h) fun us s1 ⟨vs, H1, I1, r1, q1⟩ => ?_) hs rfl))⟩
  obtain ⟨a, xs, rfl, hq, q⟩ := q1
  obtain ⟨u, rfl, ru⟩ := vals1 r1
  cases ru
  obtain ⟨its, rv, p', hz⟩ := I1.tuple hq
  have la : a < s1.heap.objs.size := by obtain ⟨o, ho, _⟩ := p'; exact Heap.lt_size ho
  refine enum_tup p' fun h' he hit hk => wpAny_pyIter_enum he ⟨s1.heap.objs.size + 1, [s1.heap.objs.size + 1, s1.heap.objs.size], _, _, H1, rfl, I1.kept (t' := s1.toks) hk, turn_q a (s1.heap.objs.size + 1) s1.heap.objs.size,
    ⟨⟨.none, he⟩, hit, Nat.succ_ne_self _, Nat.ne_of_lt la, Nat.ne_of_lt (Nat.lt_succ_of_lt la)⟩, fun b hb => ?_, q⟩
  have hle : s1.heap.objs.size ≤ b := by
    rcases List.mem_cons.mp hb with z | z
    · rw [z]; exact Nat.le_add_right _ _
    · rw [List.mem_singleton.mp z]; exact Nat.le_refl _
  exact I1.fpOk hle (I1.hok.fresh hle)
theorem for_enq {K : PySem.W.Frag} {a : Addr} {xs : List V} {g : TG} {tb : TS} {D : Ends} {σ : L2.St} {H : Hp} (Pv : Nat → L2.St → Hp → Prop) (h0 : Pv 0 σ H) (ht : ∀ i σ H, i ≤ xs.length → Pv i σ H → SqT K H a xs)
    (hs : ∀ i x σ H T H', xs[i]? = some x → Pv i σ H → H T = none → Same H H' → H' T = some (.tup [.int (i : Nat), x]) → g (.ref T) σ H' fun σ2 H2 => tb { D with nx := Pv (i + 1), ct := Pv (i + 1), bk := D.nx } σ2 H2) (hd : ∀ σ H, Pv xs.length σ H → D.nx σ H) :
    ∃ W : Nat → Nat → L2.St → Hp → Prop, (∃ m, W 0 m σ H) ∧ ∀ i m σ H, W i m σ H →
      ((Itq K a).stop i H ∧ D.nx σ H) ∨ ((Itq K a).go i H ∧ ∃ N : L2.St → Hp → Prop, (∀ σ' H', N σ' H' → ∃ m', m' < m ∧ W (i + 1) m' σ' H') ∧ ∀ x H', (Itq K a).yld i H x H' → g x σ H' fun σ2 H2 => tb { D with nx := N, ct := N, bk := D.nx } σ2 H2) := by
  refine ⟨fun i m σ H => m + i = xs.length ∧ Pv i σ H, ⟨xs.length, Nat.add_zero _, h0⟩, ?_⟩
  rintro i m σ H ⟨hm, p⟩
  have t := ht i σ H (by omega) p
  cases m with
  | zero =>
    have e : i = xs.length := by omega
    subst e
    exact .inl ⟨⟨xs, t, Nat.le_refl _⟩, hd σ H p⟩
  | succ m =>
    have hi : xs[i]? = some (xs[i]'(by omega)) := List.getElem?_eq_getElem (by omega)
    refine .inr ⟨⟨xs, _, t, hi⟩, Pv (i + 1), fun σ' H' p' => ⟨m, Nat.lt_succ_self _, by omega, p'⟩, ?_⟩
    rintro x H' ⟨T, y, rfl, hT, rfl, hy⟩
    exact hs i y σ H T _ (hy xs t) p hT (same_new hT) upd_same
/-! ### a local name that holds a def -/
theorem pe_callVG {X : Cx} {k i : Nat} {f : Addr} {fd : FuncData} {ps : List Str} {ds : List Value} {dvs : List V} {sp : Sp} {x : Str} {e : Expr} {es : List Expr} {t : TA} {p pos : Pos}
    (F : FnG X.prog X.w X.K X.mg X.base k f fd ps sp) (hgd : X.A.guards = some []) (hr : Room k X.A) (hk : PySem.W.keepIn X.K (.ref f) = true) (hb : Binds X.K fd ps ds) (hd : Vals dvs ds) (hN : X.N[i]? = some x) (hv : Vis X.env.scope x) (ha : PA X (e :: es) t)
    (h1 : (x == ("__debug__" : Str)) = false := by decide) (h2 : (x == ("__classdict__" : Str)) = false := by decide)
    (he : starEach (e :: es) X.env = (false, eval e X.env) :: starEach es X.env := by rfl) (hpl : (backTo pos (starEach es X.env)).any (·.1) = false := by rfl) :
    PE X (.Call (.Name x p) (e :: es) [] pos) (fun σ H Q => σ[i]? = some (some (.ref f)) ∧ tCall sp dvs E0 t σ H Q) := by
  refine ⟨fun pins s σ H Q I h => ?_⟩
  obtain ⟨hs, h⟩ := h
  refine wpAny_Call_Name_kw (thn ((pe_var (pos := p) (i := i) hN hv h1 h2).run pins s σ H (fun v H1 => v = .ref f ∧ H1 = H) I ⟨.ref f, hs, rfl, rfl⟩) fun u s1 ⟨v, H1, I1, r1, ev, eH⟩ => ?_)
  subst ev eH
  cases r1
  exact PySem.W.callWith_K (h₀ := X.base) I.ok.mod.kin hk (thn (ha.run pos pins s1 σ _ _ I1 h) fun us s2 hh => by obtain ⟨vs, H2, I2, r, q⟩ := hh; exact ⟨I2.kIn, runG F hgd hr hb hd I2 r q⟩) he hpl
/-! ### the type of a tuple -/
theorem ty_tup {K : PySem.W.Frag} {H : Hp} {p : Addr} {xs : List V} (h : SqT K H p xs) : TyX K H (.ref p) (.type "tuple") := by
  rcases h with (h | ⟨o, h⟩) | ⟨o, its, n, e, c, _⟩
  · exact .base (.tup h)
  · exact .fTuple h
  · exact .kTuple e c
theorem v_isTup {K : PySem.W.Frag} {H : Hp} {Q : VK} {p : Addr} {xs : List V} (h : SqT K H p xs) (q : Q (.bl true) H) : rIsi K [.ref p, .ty "tuple"] H Q := ⟨_, _, _, _, true, rfl, .ty _, ty_tup h, kit_ty (by decide +kernel), q⟩
theorem v_star {K : PySem.W.Frag} {te : TE} {t : TA} {σ : L2.St} {H : Hp} {QA : List V → Hp → Prop} (h : te σ H fun x H1 => ∃ p xs, x = V.ref p ∧ (SqT K H1 p xs ∨ SqL K H1 p xs) ∧ t σ H1 fun ys H2 => QA (xs ++ ys) H2) : StX.tStar K te t σ H QA := h
theorem v_aug {i : Nat} {te : TE} {ti : TIp} {D : Ends} {σ : L2.St} {H : Hp} {x : V} (e : σ[i]? = some (some x)) (h : te σ H fun y H1 => ti x y H1 fun z H2 => D.nx (σ.set i (some z)) H2) : tAug i te ti D σ H := ⟨x, e, h⟩
/-! ### numbers set side by side -/
theorem or_side {a b n : Nat} (h : b < 2 ^ n) : a * 2 ^ n ||| b = a * 2 ^ n + b := by
  have := Nat.shiftLeft_add_eq_or_of_lt h a
  rw [Nat.shiftLeft_eq] at this
  exact this.symm
end Vc
namespace Vc
open PySem PySem.Spec PyProof.Rows L2
/-! ### data of any kind, the empty dict too; lists and tuples of it lie outside M -/
inductive D where
  | non
  | bl (b : Bool)
  | int (i : Int)
  | str (s : PySem.Str)
  | lst (xs : List D)
  | tup (xs : List D)
  | dic
mutual
inductive Is (M : Addr → Prop) (H : Hp) : V → D → Prop
  | non : Is M H .non .non
  | bl (b : Bool) : Is M H (.bl b) (.bl b)
  | int (i : Int) : Is M H (.int i) (.int i)
  | str (s : PySem.Str) : Is M H (.str s) (.str s)
  | lst {a : Addr} {xs : List V} {ds : List D} (e : H a = some (.lst xs)) (n : ¬ M a) (h : IsAll M H xs ds) : Is M H (.ref a) (.lst ds)
  | tup {a : Addr} {xs : List V} {ds : List D} (e : H a = some (.tup xs)) (n : ¬ M a) (h : IsAll M H xs ds) : Is M H (.ref a) (.tup ds)
  | dic {a : Addr} (e : H a = some (.dK [])) (n : ¬ M a) : Is M H (.ref a) .dic
inductive IsAll (M : Addr → Prop) (H : Hp) : List V → List D → Prop
  | nil : IsAll M H [] []
  | cons {v : V} {vs : List V} {d : D} {ds : List D} (h : Is M H v d) (t : IsAll M H vs ds) : IsAll M H (v :: vs) (d :: ds)
end
def Fr (M : Addr → Prop) (H H' : Hp) : Prop := ∀ b o, ¬ M b → H b = some o → H' b = some o
section
variable {M M' : Addr → Prop} {H H' : Hp}
mutual
theorem Is.to (f : ∀ b o, ¬ M b → H b = some o → H' b = some o ∧ ¬ M' b) : ∀ (d : D) (v : V), Is M H v d → Is M' H' v d
  | .non, _, h => by cases h; exact .non
  | .bl _, _, h => by cases h; exact .bl _
  | .int _, _, h => by cases h; exact .int _
  | .str _, _, h => by cases h; exact .str _
  | .lst ds, _, h => by
    cases h with
    | lst e n h => exact .lst (f _ _ n e).1 (f _ _ n e).2 (IsAll.to f ds _ h)
  | .tup ds, _, h => by
    cases h with
    | tup e n h => exact .tup (f _ _ n e).1 (f _ _ n e).2 (IsAll.to f ds _ h)
  | .dic, _, h => by
    cases h with
    | dic e n => exact .dic (f _ _ n e).1 (f _ _ n e).2
theorem IsAll.to (f : ∀ b o, ¬ M b → H b = some o → H' b = some o ∧ ¬ M' b) : ∀ (ds : List D) (vs : List V), IsAll M H vs ds → IsAll M' H' vs ds
  | [], _, h => by cases h; exact .nil
  | d :: ds, _, h => by
    cases h with
    | cons h t => exact .cons (Is.to f d _ h) (IsAll.to f ds _ t)
end
theorem Is.fr {v : V} {d : D} (h : Is M H v d) (f : Fr M H H') : Is M H' v d := Is.to (fun b o n e => ⟨f b o n e, n⟩) d v h
theorem IsAll.fr {vs : List V} {ds : List D} (h : IsAll M H vs ds) (f : Fr M H H') : IsAll M H' vs ds := IsAll.to (fun b o n e => ⟨f b o n e, n⟩) ds vs h
theorem Is.same {v : V} {d : D} (h : Is M H v d) (s : Same H H') : Is M H' v d := h.fr fun b o _ e => s b o e
theorem IsAll.same {vs : List V} {ds : List D} (h : IsAll M H vs ds) (s : Same H H') : IsAll M H' vs ds := h.fr fun b o _ e => s b o e
theorem Is.weak {v : V} {d : D} (h : Is M H v d) (f : ∀ b, M' b → M b) : Is M' H v d := Is.to (fun b o n e => ⟨e, fun m => n (f b m)⟩) d v h
theorem IsAll.weak {vs : List V} {ds : List D} (h : IsAll M H vs ds) (f : ∀ b, M' b → M b) : IsAll M' H vs ds := IsAll.to (fun b o n e => ⟨e, fun m => n (f b m)⟩) ds vs h
theorem IsAll.len {vs : List V} : ∀ {ds : List D}, IsAll M H vs ds → vs.length = ds.length
  | [], h => by cases h; rfl
  | _ :: ds, h => by
    cases h with
    | cons _ t => rw [List.length_cons, List.length_cons, t.len]
theorem IsAll.get {x : V} : ∀ {vs : List V} {ds : List D} {i : Nat}, IsAll M H vs ds → vs[i]? = some x → ∃ d, ds[i]? = some d ∧ Is M H x d
  | [], [], i, _, e => by simp at e
  | v :: vs, d :: ds, 0, h, e => by
    cases h with
    | cons h t =>
      rw [List.getElem?_cons_zero] at e
      cases e
      exact ⟨d, rfl, h⟩
  | v :: vs, d :: ds, i + 1, h, e => by
    cases h with
    | cons h t =>
      rw [List.getElem?_cons_succ] at e ⊢
      exact t.get e
theorem IsAll.mem {x : V} {vs : List V} {ds : List D} (h : IsAll M H vs ds) (m : x ∈ vs) : ∃ d, d ∈ ds ∧ Is M H x d := by
  obtain ⟨i, hi⟩ := List.getElem?_of_mem m
  obtain ⟨d, hd, r⟩ := h.get hi
  exact ⟨d, List.mem_of_getElem? hd, r⟩
theorem IsAll.app {vs ws : List V} {ds es : List D} (h : IsAll M H vs ds) (t : IsAll M H ws es) : IsAll M H (vs ++ ws) (ds ++ es) := by
  induction vs generalizing ds with
  | nil => cases h; exact t
  | cons v vs ih =>
    cases h with
    | cons a b => exact .cons a (ih b)
theorem IsAll.take : ∀ {vs : List V} {ds : List D} (k : Nat), IsAll M H vs ds → IsAll M H (vs.take k) (ds.take k)
  | [], [], k, _ => by simp; exact .nil
  | _ :: _, _ :: _, 0, _ => .nil
  | v :: vs, d :: ds, k + 1, h => by
    cases h with
    | cons a b => exact .cons a (b.take k)
theorem IsAll.drop : ∀ {vs : List V} {ds : List D} (k : Nat), IsAll M H vs ds → IsAll M H (vs.drop k) (ds.drop k)
  | [], [], k, _ => by simp; exact .nil
  | _ :: _, _ :: _, 0, h => h
  | v :: vs, d :: ds, k + 1, h => by
    cases h with
    | cons a b => exact b.drop k
theorem IsAll.rev {vs : List V} {ds : List D} (h : IsAll M H vs ds) : IsAll M H vs.reverse ds.reverse := by
  induction vs generalizing ds with
  | nil => cases h; exact .nil
  | cons v vs ih =>
    cases h with
    | cons a b => rw [List.reverse_cons, List.reverse_cons]; exact (ih b).app (.cons a .nil)
theorem IsAll.rep {v : V} {d : D} (h : Is M H v d) : ∀ k : Nat, IsAll M H (List.replicate k v) (List.replicate k d)
  | 0 => .nil
  | k + 1 => .cons h (IsAll.rep h k)
end
/-! ### its kinds -/
def D.ty : D → String
  | .non => "NoneType"
  | .bl _ => "bool"
  | .int _ => "int"
  | .str _ => "str"
  | .lst _ => "list"
  | .tup _ => "tuple"
  | .dic => "dict"
theorem Is.tyx {K : PySem.W.Frag} {M : Addr → Prop} {H : Hp} {v : V} {d : D} (h : Is M H v d) : TyX K H v (.type d.ty) := by
  cases h with
  | non => exact .base .non
  | bl b => exact .base (.bl b)
  | int i => exact .base (.int i)
  | str s => exact .base (.str s)
  | lst e n h => exact .base (.lst e)
  | tup e n h => exact .base (.tup e)
  | dic e n => exact .base (.dK e)
def D.isInt : D → Bool
  | .int _ => true
  | .bl _ => true
  | _ => false
def D.isBl : D → Bool
  | .bl _ => true
  | _ => false
def D.isStr : D → Bool
  | .str _ => true
  | _ => false
def D.isTup : D → Bool
  | .tup _ => true
  | _ => false
def D.num : D → Option Int
  | .int i => some i
  | _ => none
section
variable {K : PySem.W.Frag} {M : Addr → Prop} {H : Hp} {v : V} {d : D} {Q : VK}
theorem d_isInt (h : Is M H v d) (q : Q (.bl d.isInt) H) : rIsi K [v, .ty "int"] H Q :=
  ⟨_, _, _, _, d.isInt, rfl, .ty _, h.tyx, kit_ty (by cases d <;> (simp only [D.ty, D.isInt, D.isBl, D.isStr, D.isTup]; decide +kernel)), q⟩
theorem d_isBl (h : Is M H v d) (q : Q (.bl d.isBl) H) : rIsi K [v, .ty "bool"] H Q :=
  ⟨_, _, _, _, d.isBl, rfl, .ty _, h.tyx, kit_ty (by cases d <;> (simp only [D.ty, D.isInt, D.isBl, D.isStr, D.isTup]; decide +kernel)), q⟩
theorem d_isStr (h : Is M H v d) (q : Q (.bl d.isStr) H) : rIsi K [v, .ty "str"] H Q :=
  ⟨_, _, _, _, d.isStr, rfl, .ty _, h.tyx, kit_ty (by cases d <;> (simp only [D.ty, D.isInt, D.isBl, D.isStr, D.isTup]; decide +kernel)), q⟩
theorem d_isTup (h : Is M H v d) (q : Q (.bl d.isTup) H) : rIsi K [v, .ty "tuple"] H Q :=
  ⟨_, _, _, _, d.isTup, rfl, .ty _, h.tyx, kit_ty (by cases d <;> (simp only [D.ty, D.isInt, D.isBl, D.isStr, D.isTup]; decide +kernel)), q⟩
end
/-- a whole number from j up to k -/
def D.btw (j k : Int) : D → Bool
  | .int i => decide (j ≤ i ∧ i ≤ k)
  | _ => false
def D.whole : D → Bool
  | .int _ => true
  | _ => false
/-! ### displays of data -/
def Old (H : Hp) (b : Addr) : Prop := H b ≠ none
def tD (d : D) : TE := fun _ H Q => ∀ v H', Same H H' → Is (Old H) H' v d → Q v H'
def tDs (ds : List D) : TA := fun _ H Q => ∀ vs H', Same H H' → IsAll (Old H) H' vs ds → Q vs H'
theorem old_same {H H' : Hp} (s : Same H H') : ∀ b, Old H b → Old H' b := fun b h => by
  unfold Old at h ⊢
  cases e : H b with
  | none => exact absurd e h
  | some o => rw [s b o e]; exact fun z => nomatch z
theorem new_old {H H' : Hp} {p : Addr} (s : Same H H') (h : H' p = none) : ¬ Old H p := fun z => (old_same s p z) h
section
variable {X : Cx} {e : Expr} {es : List Expr} {t : TE} {d : D} {ds : List D} {pos : Pos}
theorem pd_of (he : PE X e t) (h : ∀ σ H Q, tD d σ H Q → t σ H Q) : PE X e (tD d) := ⟨fun pins s σ H Q I q => he.run pins s σ H Q I (h σ H Q q)⟩
theorem pd_int {i : Int} {j} : PE X (.Constant (.int i) j pos) (tD (.int i)) := pd_of pe_int fun σ H Q h => h _ H (fun _ _ e => e) (.int i)
theorem pd_bl {b : Bool} {j} : PE X (.Constant (.bool b) j pos) (tD (.bl b)) := pd_of pe_bl fun σ H Q h => h _ H (fun _ _ e => e) (.bl b)
theorem pd_non {j} : PE X (.Constant .none j pos) (tD .non) := pd_of pe_non fun σ H Q h => h _ H (fun _ _ e => e) .non
theorem pd_str {x : PySem.Str} {j} : PE X (.Constant (.str x) j pos) (tD (.str x)) := pd_of pe_str fun σ H Q h => h _ H (fun _ _ e => e) (.str x)
theorem pd_neg {i : Int} {j} {p1 : Pos} : PE X (.UnaryOp .USub (.Constant (.int i) j p1) pos) (tD (.int (-i))) := pd_of (pe_un un_neg pe_int) fun σ H Q h => ⟨i, rfl, h _ H (fun _ _ e => e) (.int _)⟩
theorem pd_dic : PE X (.Dict [] [] pos) (tD .dic) := pd_of pe_dnewK fun σ H Q h p hp => h _ _ (same_new hp) (.dic upd_same fun z => z hp)
theorem pd_pow {i k : Int} {j1 j2} {p1 p2 : Pos} (h : 0 ≤ k ∧ k ≤ 1000000) (h2 : i.natAbs < 2 ^ 64) : PE X (.BinOp (.Constant (.int i) j1 p1) .Pow (.Constant (.int k) j2 p2) pos) (tD (.int (i ^ k.toNat))) := pd_of (pe_op op_pow pe_int pe_int) fun σ H Q q => ⟨i, k, rfl, rfl, ⟨h.1, h.2, h2⟩, q _ H (fun _ _ e => e) (.int _)⟩
theorem pds_nil : PA X [] (tDs []) := ⟨fun p pins s σ H Q I h => pa_nil.run p pins s σ H Q I (h _ H (fun _ _ e => e) .nil)⟩
theorem pds_cons (ha : PE X e (tD d)) (hr : PA X es (tDs ds)) (hs : starEach (e :: es) X.env = (false, eval e X.env) :: starEach es X.env := by rfl) : PA X (e :: es) (tDs (d :: ds)) :=
  ⟨fun p pins s σ H Q I h => (pa_cons ha hr hs).run p pins s σ H Q I fun v H1 s1 i1 vs H2 s2 i2 => h _ H2 (fun b o e => s2 _ _ (s1 _ _ e)) (.cons (i1.same s2) (i2.weak (old_same s1)))⟩
theorem pd_tup {x1} (h : PA X es (tDs ds)) (hl : ds.length ≤ 1000) : PE X (.Tuple es x1 pos) (tD (.tup ds)) := pd_of (pe_tup h) fun σ H Q q vs H1 s1 i1 =>
  ⟨by rw [i1.len]; exact Nat.le_trans hl (by decide), fun p hp => q _ _ (fun b o e => same_new hp _ _ (s1 _ _ e)) (.tup upd_same (new_old s1 hp) (i1.same (same_new hp)))⟩
theorem pd_lst (h : PA X es (tDs ds)) (hl : ds.length ≤ 1000) : PE X (.List es pos) (tD (.lst ds)) := pd_of (pe_lst h) fun σ H Q q vs H1 s1 i1 =>
  ⟨by rw [i1.len]; exact Nat.le_trans hl (by decide), fun p hp => q _ _ (fun b o e => same_new hp _ _ (s1 _ _ e)) (.lst upd_same (new_old s1 hp) (i1.same (same_new hp)))⟩
theorem pd_rep {e2 : Expr} {k : Nat} {d : D} (h : PE X e (tD (.tup [d]))) (h2 : PE X e2 (tC (.int (k : Int)))) (h0 : 2 ≤ k) (h1 : k ≤ 1000) : PE X (.BinOp e .Mult e2 pos) (tD (.tup (List.replicate k d))) := pd_of (pe_op op_repT h h2) fun σ H Q q v H1 s1 i1 => by
  cases i1 with
  | tup e n i =>
    cases i with
    | @cons v vs d ds i t =>
      cases t
      refine ⟨_, _, _, rfl, rfl, sqT_of e, by simp, by omega, by omega, by simp, fun p hp => q _ _ (fun b o e => same_new hp _ _ (s1 _ _ e)) (.tup upd_same (new_old s1 hp) ?_)⟩
      rw [Int.toNat_natCast, show (List.replicate k [v]).flatten = List.replicate k v by simp]
      exact IsAll.rep (i.same (same_new hp)) k
end
theorem v_D {d : D} {σ : L2.St} {H : Hp} {Q : VK} (h : ∀ v H', Same H H' → Is (Old H) H' v d → Q v H') : tD d σ H Q := h

/-! ### the same as the library's data -/
mutual
def D.toP : D → PyData
  | .non => .none
  | .bl b => .bool b
  | .int i => .int i
  | .str s => .str s
  | .lst ds => .list (D.toPs ds)
  | .tup ds => .tuple (D.toPs ds)
  | .dic => .dict []
def D.toPs : List D → List PyData
  | [] => []
  | d :: ds => d.toP :: D.toPs ds
end
mutual
def D.nod : D → Bool
  | .lst ds => D.nods ds
  | .tup ds => D.nods ds
  | .dic => false
  | _ => true
def D.nods : List D → Bool
  | [] => true
  | d :: ds => d.nod && D.nods ds
end
section
variable {K : PySem.W.Frag} {M : Addr → Prop} {H : Hp}
mutual
theorem Is.dp : ∀ (d : D) (v : V), d.nod = true → Is M H v d → Dp K H v d.toP
  | .non, _, _, h => by cases h; exact .non
  | .bl _, _, _, h => by cases h; exact .bl _
  | .int _, _, _, h => by cases h; exact .int _
  | .str _, _, _, h => by cases h; exact .str _
  | .lst ds, _, g, h => by
    cases h with
    | lst e n h => exact .lst (sqL_of e) (IsAll.dp ds _ (by simpa only [D.nod] using g) h)
  | .tup ds, _, g, h => by
    cases h with
    | tup e n h => exact .tup (sqT_of e) (IsAll.dp ds _ (by simpa only [D.nod] using g) h)
  | .dic, _, g, _ => by simp [D.nod] at g
theorem IsAll.dp : ∀ (ds : List D) (vs : List V), D.nods ds = true → IsAll M H vs ds → DpAll K H vs (D.toPs ds)
  | [], _, _, h => by cases h; exact .nil
  | d :: ds, _, g, h => by
    simp only [D.nods, Bool.and_eq_true] at g
    cases h with
    | cons h t => exact .cons (Is.dp d _ g.1 h) (IsAll.dp ds _ g.2 t)
end
end
theorem toPs_len : ∀ ds : List D, (D.toPs ds).length = ds.length
  | [] => rfl
  | d :: ds => by simp only [D.toPs, List.length_cons, toPs_len ds]
theorem toPs_mem : ∀ {ds : List D} {x : PyData}, x ∈ D.toPs ds → ∃ d, d ∈ ds ∧ x = d.toP
  | d :: ds, x, h => by
    simp only [D.toPs, List.mem_cons] at h
    rcases h with h | h
    · exact ⟨d, List.mem_cons_self, h⟩
    · obtain ⟨e, m, r⟩ := toPs_mem h
      exact ⟨e, List.mem_cons_of_mem _ m, r⟩
theorem nods_all : ∀ {ds : List D}, (∀ d ∈ ds, d.nod = true) → D.nods ds = true
  | [], _ => by simp [D.nods]
  | d :: ds, h => by
    simp only [D.nods, Bool.and_eq_true]
    exact ⟨h d List.mem_cons_self, nods_all fun x hx => h x (List.mem_cons_of_mem _ hx)⟩
/-- a number, a truth, a text of few signs, or a list of truths -/
def Cell (d : D) : Prop := (∃ i : Int, d = .int i ∧ i.natAbs < 2 ^ 1920) ∨ ∃ bs : List Bool, d = .lst (bs.map D.bl) ∧ bs.length ≤ 8
theorem Cell.nod {d : D} (h : Cell d) : d.nod = true := by
  rcases h with ⟨i, rfl, _⟩ | ⟨bs, rfl, _⟩
  · rfl
  · simp only [D.nod]
    exact nods_all fun d hd => by obtain ⟨b, _, rfl⟩ := List.mem_map.mp hd; rfl
theorem Cell.mix {d : D} (h : Cell d) : shb d.toP = true ∧ nsz d.toP ≤ 200 ∧ d.toP.depth ≤ 1 := by
  rcases h with ⟨i, rfl, hi⟩ | ⟨bs, rfl, hb⟩
  · have := leaf_int hi
    exact ⟨this.1, Nat.le_trans this.2.1 (by decide), by rw [show (D.int i).toP = .int i from rfl, this.2.2]; decide⟩
  · have lf : ∀ x ∈ D.toPs (bs.map D.bl), Leaf x := fun x hx => by
      obtain ⟨d, hd, rfl⟩ := toPs_mem hx
      obtain ⟨b, _, rfl⟩ := List.mem_map.mp hd
      exact leaf_bool b
    have a := nszs_all (n := 20) fun x hx => (lf x hx).2.1
    have b := depth_all (n := 0) fun x hx => Nat.le_of_eq (lf x hx).2.2
    rw [toPs_len, List.length_map] at a
    simp only [D.toP]
    exact ⟨by simpa only [shb] using shbs_all fun x hx => (lf x hx).1, by simp only [nsz]; omega, by simp only [PyData.depth]; omega⟩
theorem shw_cells {ds : List D} (h : ∀ d ∈ ds, Cell d) (hl : ds.length ≤ 39) : Shw (.list (D.toPs ds)) := by
  have m : ∀ x ∈ D.toPs ds, shb x = true ∧ nsz x ≤ 200 ∧ x.depth ≤ 1 := fun x hx => by
    obtain ⟨d, hd, rfl⟩ := toPs_mem hx
    exact (h d hd).mix
  have a := nszs_all (n := 200) fun x hx => (m x hx).2.1
  have b := depth_all (n := 1) fun x hx => (m x hx).2.2
  rw [toPs_len] at a
  exact ⟨by simpa only [shb] using shbs_all fun x hx => (m x hx).1, by simp only [nsz]; omega, by simp only [PyData.depth]; omega⟩
/-! ### how great it is: the longest text or row, how deep -/
mutual
def D.mx : D → Nat
  | .str s => s.length
  | .lst ds => max ds.length (D.mxs ds)
  | .tup ds => max ds.length (D.mxs ds)
  | _ => 0
def D.mxs : List D → Nat
  | [] => 0
  | d :: ds => max d.mx (D.mxs ds)
end
mutual
def D.dep : D → Nat
  | .lst ds => D.deps ds + 1
  | .tup ds => D.deps ds + 1
  | _ => 0
def D.deps : List D → Nat
  | [] => 0
  | d :: ds => max d.dep (D.deps ds)
end
end Vc
namespace Vc
open PySem PySem.Spec PyProof.Rows L2
/-! ### two lists that grow side by side, and the drawn numbers' list W -/
def M3 (T U W : Addr) (b : Addr) : Prop := b = T ∨ b = U ∨ b = W
def Apt (T U W : Addr) : Prop := T ≠ U ∧ T ≠ W ∧ U ≠ W
structure TDx (T U W : Addr) (tv uv : List V) (ds es : List D) (H : Hp) : Prop where
  t : H T = some (.lst tv)
  u : H U = some (.lst uv)
  w : Wl [] H W
  ap : Apt T U W
  ti : IsAll (M3 T U W) H tv ds
  ui : IsAll (M3 T U W) H uv es
section
variable {T U W : Addr} {tv uv : List V} {ds es : List D} {H H' : Hp}
theorem fr_T {o : HO} : Fr (M3 T U W) H (upd H T o) := fun b u n e => by rw [upd_ne fun z => n (.inl z)]; exact e
theorem fr_U {o : HO} : Fr (M3 T U W) H (upd H U o) := fun b u n e => by rw [upd_ne fun z => n (.inr (.inl z))]; exact e
theorem fr_W (s : Sx W H H') : Fr (M3 T U W) H H' := fun b u n e => s b u (fun z => n (.inr (.inr z))) e
theorem fr_S {M : Addr → Prop} (s : Same H H') : Fr M H H' := fun b u _ e => s b u e
theorem TDx.same (h : TDx T U W tv uv ds es H) (s : Same H H') : TDx T U W tv uv ds es H' := ⟨s _ _ h.t, s _ _ h.u, h.w.of s, h.ap, h.ti.fr (fr_S s), h.ui.fr (fr_S s)⟩
theorem TDx.sx (h : TDx T U W tv uv ds es H) (s : Sx W H H') (w : Wl [] H' W) : TDx T U W tv uv ds es H' := ⟨s _ _ h.ap.2.1 h.t, s _ _ h.ap.2.2 h.u, w, h.ap, h.ti.fr (fr_W s), h.ui.fr (fr_W s)⟩
theorem TDx.addT {v : V} {d : D} (h : TDx T U W tv uv ds es H) (i : Is (M3 T U W) H v d) : TDx T U W (tv ++ [v]) uv (ds ++ [d]) es (upd H T (.lst (tv ++ [v]))) :=
  ⟨upd_same, by rw [upd_ne h.ap.1.symm]; exact h.u, by obtain ⟨a, b, c, e⟩ := h.w; exact ⟨a, b, c, by rw [upd_ne h.ap.2.1.symm]; exact e⟩, h.ap, (h.ti.app (.cons i .nil)).fr fr_T, h.ui.fr fr_T⟩
theorem TDx.addU {v : V} {d : D} (h : TDx T U W tv uv ds es H) (i : Is (M3 T U W) H v d) : TDx T U W tv (uv ++ [v]) ds (es ++ [d]) (upd H U (.lst (uv ++ [v]))) :=
  ⟨by rw [upd_ne h.ap.1]; exact h.t, upd_same, by obtain ⟨a, b, c, e⟩ := h.w; exact ⟨a, b, c, by rw [upd_ne h.ap.2.2.symm]; exact e⟩, h.ap, h.ti.fr fr_U, (h.ui.app (.cons i .nil)).fr fr_U⟩
theorem TDx.free {p : Addr} (h : TDx T U W tv uv ds es H) (e : H p = none) : ¬ M3 T U W p := by
  rintro (rfl | rfl | rfl)
  · rw [h.t] at e; cases e
  · rw [h.u] at e; cases e
  · exact h.w.ne e rfl
theorem TDx.old (h : TDx T U W tv uv ds es H) : ∀ b, M3 T U W b → Old H b := fun b m z => h.free z m
theorem TDx.old' (h : TDx T U W tv uv ds es H) (s : Sx W H H') {v : V} {d : D} (i : Is (Old H) H' v d) : Is (M3 T U W) H' v d := i.weak h.old
end
theorem old_sx {W : Addr} {H H' : Hp} (s : Sx W H H') (w : Wl [] H' W) : ∀ b, Old H b → Old H' b := fun b h => by
  unfold Old at h ⊢
  by_cases e : b = W
  · subst e
    obtain ⟨_, _, _, z⟩ := w
    rw [z]
    exact fun z => nomatch z
  · cases q : H b with
    | none => exact absurd q h
    | some o => rw [s b o e q]; exact fun z => nomatch z
theorem wl_old {W : Addr} {H : Hp} (w : Wl [] H W) : Old H W := by
  obtain ⟨_, _, _, z⟩ := w
  unfold Old
  rw [z]
  exact fun z => nomatch z
theorem Is.sx {W : Addr} {H H1 H2 : Hp} {v : V} {d : D} (h : Is (Old H) H1 v d) (w : Wl [] H W) (s : Sx W H1 H2) : Is (Old H) H2 v d := h.fr fun b o n e => s b o (fun z => n (z ▸ wl_old w)) e
theorem all_of {α : Type} {P : α → Prop} [DecidablePred P] {xs : List α} (h : (xs.all fun x => decide (P x)) = true) (x : α) (hx : x ∈ xs) : P x := of_decide_eq_true (List.all_eq_true.mp h x hx)
end Vc
namespace Vc
open PySem PySem.Spec PyProof.Rows L2
theorem a_rep {l : Addr} {v : V} {H : Hp} {Q : VK} {k : Nat} (h : H l = some (.lst [v])) (hk : k ≤ 1000) (q : ∀ (p : Addr) (H' : Hp), H p = none → Same H H' → H' p = some (.lst (List.replicate k v)) → Q (.ref p) H') : rRep (.ref l) (.int (k : Int)) H Q := by
  refine ⟨l, k, [v], rfl, rfl, h, by omega, by omega, by rw [Int.toNat_natCast]; simp; exact Nat.le_trans hk (by decide), fun p hp => ?_⟩
  have := q p _ hp (same_new hp) upd_same
  rw [Int.toNat_natCast, show (List.replicate k [v]).flatten = List.replicate k v by simp]
  exact this
end Vc

namespace K03
open PySem PySem.Spec PyProof.Rows L2 Vc
local macro_rules | `(tactic| walk_at "v") => `(tactic| first
  | (with_reducible refine v_seq ?_)
  | (with_reducible refine v_asg ?_)
  | ((with_reducible refine v_var (v := ?vv) ?hv ?_); (case hv => exact rfl))
  | ((with_reducible refine v_name ?_); try dsimp only [List.set_cons_zero, List.set_cons_succ])
  | (with_reducible refine v_c ?_)
  | (with_reducible refine v_op ?_)
  | (with_reducible refine v_cons ?_)
  | (with_reducible refine v_nil ?_)
  | (with_reducible refine v_call ?_)
  | (with_reducible refine v_callK ?_)
  | (with_reducible refine v_cb ?_)
  | (with_reducible refine v_I0 ?_)
  | (with_reducible refine v_ret ?_)
  | (with_reducible refine v_retN ?_)
  | (with_reducible refine v_drop ?_)
  | (with_reducible refine v_if ?_)
  | (with_reducible refine v_ifE ?_)
  | (with_reducible refine v_test ?_)
  | (with_reducible refine v_B ?_)
  | (with_reducible refine v_bl ?_)
  | (with_reducible refine v_and ?_)
  | (with_reducible refine v_or ?_)
  | (with_reducible refine v_not ?_)
  | (with_reducible refine v_andV ?_)
  | (with_reducible refine v_orV ?_)
  | (with_reducible refine v_notV ?_)
  | (with_reducible refine v_chain ?_)
  | (with_reducible refine v_eqI ?_)
  | (with_reducible refine v_neI ?_)
  | (with_reducible refine v_eqS0 ?_)
  | (with_reducible refine v_neS0 ?_)
  | (with_reducible refine v_par ?_)
  | (with_reducible refine v_par3 ?_)
  | ((with_reducible refine v_two ?_); try dsimp only [List.set_cons_zero, List.set_cons_succ])
  | ((with_reducible refine v_three ?_); try dsimp only [List.set_cons_zero, List.set_cons_succ])
  | (with_reducible refine v_un ?_)
  | (with_reducible refine v_U ?_)
  | (with_reducible refine v_isInt ?_)
  | (with_reducible refine v_isBool ?_)
  | (with_reducible refine v_int1 ?_)
  | (with_reducible refine v_abs ?_)
  | (with_reducible refine v_max ?_)
  | (with_reducible refine v_min ?_)
  | (with_reducible refine v_for ?_)
  | (with_reducible refine v_rng1 ?_)
  | (with_reducible refine v_iList ?_)
  | (with_reducible refine v_iTup ?_)
  | (with_reducible refine v_ref ?_)
  | (with_reducible refine v_sl ?_)
  | (with_reducible refine v_noPart ?_)
  | (with_reducible refine v_part ?_)
  | (with_reducible refine v_pInt ?_)
  | (with_reducible refine v_lc ?_)
  | (with_reducible refine v_yes ?_)
  | (with_reducible refine v_if0 ?_)
  | (with_reducible refine v_if1 ?_)
  | (with_reducible refine v_ifn ?_)
  | (with_reducible refine v_gsub ?_)
  | (with_reducible refine v_gcons ?_)
  | (with_reducible refine v_gnil ?_)
  | (with_reducible refine v_tup ?_)
  | (with_reducible refine v_lst ?_)
  | (with_reducible refine v_bmL ?_)
  | ((with_reducible refine v_next ?_); try dsimp only)
  | ((with_reducible refine v_I ?hc ?_); (case hc => first | exact Or.inl (by decide) | exact Or.inr (by decide) | exact cm_r (by decide) (by decide) (by decide) | (show (_ : Int) ≠ _; decide) | (show (0 : Int) < _; decide) | (show _ ∧ _; decide))))
local macro_rules | `(tactic| walk_at "vv") => `(tactic| repeat walk_at "v")
abbrev BLv : Int := 13729595320261219429963801598162786434538870600286610818788926918371086366795312104245119281322909109954592622782961716074243975999433287625148056582230114303
def MX : Nat := 2 ^ 522
def FL : Nat := MX - 1
theorem BLv_eq : BLv = ((FL : Nat) : Int) := by decide +kernel
theorem MX_pos : FL + 1 = MX := by decide +kernel
theorem MX_pow : MX = 2 ^ 522 := rfl
theorem full_eq : (1 : Int) * 2 ^ (522 : Int).toNat - 1 = ((FL : Nat) : Int) := by decide +kernel
theorem sh_eq : (1 : Int) * 2 ^ (522 : Int).toNat = ((MX : Nat) : Int) := by decide +kernel
theorem sh9_eq (k : Nat) : (k : Int) * 2 ^ (522 : Int).toNat = ((k * MX : Nat) : Int) := by
  rw [show (2 : Int) ^ (522 : Int).toNat = ((MX : Nat) : Int) by decide +kernel, Int.natCast_mul]
theorem MX_small : MX * 16 < 2 ^ 1920 := by decide +kernel
theorem MX_big : 600 < MX := by decide +kernel
theorem fl_bit {i : Nat} (h : i < 522) : FL.testBit i = true := by
  show (2 ^ 522 - 1).testBit i = true
  rw [Nat.testBit_two_pow_sub_one]
  exact decide_eq_true h
theorem and_fl {a : Nat} (h : a < MX) : a &&& FL = a := by
  apply bits_ext (n := 522) (lt_and h) h
  intro i hi
  rw [Nat.testBit_and, fl_bit hi, Bool.and_true]
theorem or_iff (a b : Nat) : (a ||| b = a) ↔ (b &&& a = b) := by
  constructor
  · intro h
    apply Nat.eq_of_testBit_eq
    intro i
    have e := congrArg (fun z => z.testBit i) h
    simp only [Nat.testBit_or] at e
    rw [Nat.testBit_and]
    revert e
    cases a.testBit i <;> cases b.testBit i <;> decide
  · intro h
    apply Nat.eq_of_testBit_eq
    intro i
    have e := congrArg (fun z => z.testBit i) h
    simp only [Nat.testBit_and] at e
    rw [Nat.testBit_or]
    revert e
    cases a.testBit i <;> cases b.testBit i <;> decide
theorem pow522 {k : Nat} (h : k < 522) : 2 ^ k < MX := lt_bit h
theorem cut_and {f s b : Nat} (hf : f < MX) : f &&& (s ||| (b &&& FL)) = f &&& (s ||| b) := by
  apply bits_ext (n := 522) (lt_and hf) (lt_and hf)
  intro i hi
  simp only [Nat.testBit_and, Nat.testBit_or, fl_bit hi, Bool.and_true]
/-- what a program leaves lies so -/
theorem left_word {f s b l : Nat} (h : f &&& (s ||| b) = l) : (f ||| l = f) ∧ (l ||| (f &&& s) = l) := by
  subst h
  constructor
  · apply Nat.eq_of_testBit_eq
    intro i
    simp only [Nat.testBit_and, Nat.testBit_or]
    cases f.testBit i <;> cases s.testBit i <;> cases b.testBit i <;> rfl
  · apply Nat.eq_of_testBit_eq
    intro i
    simp only [Nat.testBit_and, Nat.testBit_or]
    cases f.testBit i <;> cases s.testBit i <;> cases b.testBit i <;> rfl
theorem word_left {f s l : Nat} (h1 : f ||| l = f) (h2 : l ||| (f &&& s) = l) : f &&& (s ||| l) = l := by
  apply Nat.eq_of_testBit_eq
  intro i
  have e1 := congrArg (fun z => z.testBit i) h1
  have e2 := congrArg (fun z => z.testBit i) h2
  simp only [Nat.testBit_and, Nat.testBit_or] at e1 e2 ⊢
  revert e1 e2
  cases f.testBit i <;> cases s.testBit i <;> cases l.testBit i <;> decide
theorem left_erase {f b l : Nat} (h : f ||| b = l) : f ||| l = l := by
  subst h
  rw [← Nat.or_assoc, Nat.or_self]
theorem leafN {a : Nat} (h : a < MX * 16) : Leaf (.int (a : Int)) := leaf_int (by
  have := MX_small
  rw [Int.natAbs_natCast]
  omega)
theorem full512 : (1 : Int) * 2 ^ (512 : Int).toNat - 1 = ((2 ^ 512 - 1 : Nat) : Int) := by decide +kernel
theorem shr10 (p : Nat) : (p : Int) / 2 ^ (10 : Int).toNat = ((p / 1024 : Nat) : Int) := by
  show (p : Int) / 1024 = _
  omega
theorem m1023 (p : Nat) : p &&& 1023 = p % 1024 := Nat.and_two_pow_sub_one_eq_mod p 10
theorem low10 : (1 : Int) * 2 ^ (10 : Int).toNat - 1 = ((1023 : Nat) : Int) := rfl
theorem data_lt {p : Nat} (h : p < MX) : p / 1024 < 2 ^ 512 := by
  have e : MX = 1024 * 2 ^ 512 := by decide +kernel
  rw [e] at h
  exact Nat.div_lt_of_lt_mul h
def stateS (p : Nat) : PySem.Str := if p = FL then PySem.Str.ofString "blank" else if p % 1024 = 512 - ones (p / 1024) then PySem.Str.ofString "whole" else PySem.Str.ofString "half"
theorem leaf_state (p : Nat) : Leaf (.str (stateS p)) := by
  unfold stateS
  split
  · exact ⟨by decide, by decide, rfl⟩
  · split
    · exact ⟨by decide, by decide, rfl⟩
    · exact ⟨by decide, by decide, rfl⟩
theorem fl_and {x : Nat} (h : x < MX) : FL &&& x = x := by rw [Nat.and_comm, and_fl h]
theorem fl_lt : FL < MX := by have := MX_pos; omega
theorem prog_blank {p m : Nat} (hp : p < MX) : FL &&& (p ||| m) = p ||| (m &&& FL) := by
  apply bits_ext (n := 522) (lt_and fl_lt) (lt_or hp (Nat.lt_of_le_of_lt Nat.and_le_right fl_lt))
  intro i hi
  simp only [Nat.testBit_and, Nat.testBit_or, fl_bit hi, Bool.true_and, Bool.and_true]
theorem or_lt (p m : Nat) (hp : p < MX) : p ||| (m &&& FL) < MX := lt_or (n := 522) hp (show m &&& FL < MX from Nat.lt_of_le_of_lt Nat.and_le_right fl_lt)
theorem sub_or (p y : Nat) : p &&& (p ||| y) = p := by
  apply Nat.eq_of_testBit_eq
  intro i
  simp only [Nat.testBit_and, Nat.testBit_or]
  cases p.testBit i <;> cases y.testBit i <;> rfl
theorem word_lt {d : Nat} (h : d < 2 ^ 512) : wordD d < MX := wordD_lt h
theorem whole_state {p x : Nat} (hp : wholeP p) (p2 : p < MX) (x2 : x < MX) (h : p &&& x = p) : stateS x = if x = FL then PySem.Str.ofString "blank" else if x = p then PySem.Str.ofString "whole" else PySem.Str.ofString "half" := by
  unfold stateS
  have := whole_iff hp p2 x2 h
  unfold wholeP at this
  simp only [this]
theorem whole_ne {p : Nat} (h : wholeP p) : p ≠ FL := by
  intro e
  have h2 := wordD_mod (d := p / 1024)
  rw [← wholeP_eq h, e] at h2
  have : FL % 1024 = 1023 := by decide +kernel
  omega
theorem st_iff {x : Nat} : stateS x = PySem.Str.ofString "whole" ↔ (x ≠ FL ∧ wholeP x) := by
  unfold stateS wholeP
  by_cases h : x = FL
  · rw [if_pos h]
    exact ⟨fun e => absurd e (by decide), fun e => absurd h e.1⟩
  · rw [if_neg h]
    by_cases h2 : x % 1024 = 512 - ones (x / 1024)
    · rw [if_pos h2]
      exact ⟨fun _ => ⟨h, h2⟩, fun _ => rfl⟩
    · rw [if_neg h2]
      exact ⟨fun e => absurd e (by decide), fun e => absurd e.2 h2⟩
section
variable {p q : Nat} (hp : p < MX) (hq : q < MX) (wp : wholeP p) (wq : wholeP q)
include hp hq wp wq
theorem A1 : decide (p &&& q = p) = decide (p = q) := by
  by_cases h : p = q
  · subst h; simp
  · rw [decide_eq_false h, decide_eq_false fun e => h (berger wp wq hp hq e)]
theorem A9 : decide (stateS (p &&& q) = PySem.Str.ofString "whole") = decide (p = q) := by
  by_cases h : p = q
  · subst h
    rw [Nat.and_self, decide_eq_true (st_iff.mpr ⟨whole_ne wp, wp⟩)]
    simp
  · rw [decide_eq_false h, decide_eq_false fun e => ?_]
    have w := (st_iff.mp e).2
    have e1 := berger w wp (lt_and (n := 522) hp) hp (by rw [Nat.and_comm, ← Nat.and_assoc, Nat.and_self])
    have e2 := berger w wq (lt_and (n := 522) hp) hq (by rw [Nat.and_assoc, Nat.and_self])
    exact h (e1.symm.trans e2)
theorem A10 : decide (stateS (p ||| q) = PySem.Str.ofString "whole") = decide (p = q) := by
  by_cases h : p = q
  · subst h
    rw [Nat.or_self, decide_eq_true (st_iff.mpr ⟨whole_ne wp, wp⟩)]
    simp
  · rw [decide_eq_false h, decide_eq_false fun e => ?_]
    have w := (st_iff.mp e).2
    have l := lt_or (n := 522) hp hq
    have e1 := berger wp w hp l (sub_or p q)
    have e2 := berger wq w hq l (by rw [Nat.or_comm]; exact sub_or q p)
    exact h (e1.trans e2.symm)
end
def vD : PyData → V
  | .bool b => .bl b
  | .str s => .str s
  | .int i => .int i
  | _ => .non
def sD : PyData → Prop
  | .bool _ => True
  | .str _ => True
  | .int _ => True
  | .none => True
  | _ => False
theorem dp_sD {K : PySem.W.Frag} {H : Hp} : ∀ ds : List PyData, (∀ d ∈ ds, sD d) → DpAll K H (ds.map vD) ds
  | [], _ => .nil
  | d :: ds, h => by
    refine .cons ?_ (dp_sD ds fun x hx => h x (List.mem_cons_of_mem _ hx))
    have := h d List.mem_cons_self
    cases d with
    | bool b => exact .bl b
    | str s => exact .str s
    | int i => exact .int i
    | none => exact .non
    | _ => exact this.elim
def told4 (b : Bool) : List PyData := [.bool b, .bool b, .bool true, .bool true, .bool false, .bool false, .bool true, .bool true, .str (PySem.Str.ofString "whole"), .str (PySem.Str.ofString "whole"), .bool b, .bool b]
theorem told4_ok (b : Bool) : ∀ d ∈ told4 b, sD d ∧ Leaf d := by
  have l : Leaf (.str (PySem.Str.ofString "whole")) := ⟨by decide, by decide, rfl⟩
  intro d h
  simp only [told4, List.mem_cons, List.not_mem_nil, or_false] at h
  rcases h with h | h | h | h | h | h | h | h | h | h | h | h <;> subst h
  all_goals first | exact ⟨trivial, leaf_bool _⟩ | exact ⟨trivial, l⟩
def un (p : Nat) : List Nat := (List.range 32).map fun i => p / 2 ^ (506 - 16 * i) % 65536
def u0 (p : Nat) : Nat := p / 2 ^ 506 % 65536
def us (p : Nat) : List Nat := (List.range 31).map fun i => p / 2 ^ (506 - 16 * (i + 1)) % 65536
theorem un_eq (p : Nat) : un p = u0 p :: us p := by
  unfold un us u0
  rw [show 32 = 31 + 1 from rfl, List.range_succ_eq_map, List.map_cons, List.map_map]
  rfl
theorem us_len (p : Nat) : (us p).length = 31 := by
  unfold us
  rw [List.length_map, List.length_range]
def badB (p : Nat) : Bool := decide (31 < u0 p) || ((us p).drop (u0 p)).any fun x => decide (x ≠ 0)
def tells (p : Nat) : List Nat := (us p).take (u0 p)
def wholeS : PySem.Str := PySem.Str.ofString "whole"
def Tl (p : Nat) (H : Hp) (v : V) : Prop := ((stateS p ≠ wholeS ∨ badB p = true) ∧ v = .non) ∨ (stateS p = wholeS ∧ badB p = false ∧ ∃ t, v = .ref t ∧ H t = some (.tup ((tells p).map vN)))
theorem cut_lo (xs : List V) (k : Nat) (h : k ≤ xs.length) : cutV xs (some (k : Int)) none = xs.drop k := by
  unfold cutV
  rw [HT.sIx_nat, HT.sIx_none, Nat.min_eq_left h]
  exact List.take_of_length_le (by rw [List.length_drop]; omega)
theorem cut_hi (xs : List V) (k : Nat) : cutV xs none (some (k : Int)) = xs.take k := by
  unfold cutV
  rw [HT.sIx_nat, HT.sIx_none, List.drop_zero, Nat.sub_zero]
  rcases Nat.le_total k xs.length with h | h
  · rw [Nat.min_eq_left h]
  · rw [Nat.min_eq_right h, List.take_of_length_le (Nat.le_refl _), List.take_of_length_le h]
theorem any_int (xs : List Nat) : (xs.map fun n : Nat => (n : Int)).any (fun z => decide (z ≠ 0)) = xs.any fun x => decide (x ≠ 0) := by
  induction xs with
  | nil => rfl
  | cons x xs ih =>
    rw [List.map_cons, List.any_cons, List.any_cons, ih]
    congr 1
    by_cases h : x = 0 <;> simp [h]
theorem vN_int (xs : List Nat) : xs.map vN = (xs.map fun n : Nat => (n : Int)).map V.int := by
  rw [List.map_map]
  rfl
def Nu (p : Nat) (H : Hp) (v : V) : Prop := (¬ wholeP p ∧ v = .non) ∨ (wholeP p ∧ ∃ t, v = .ref t ∧ ((badB p = true ∧ H t = some (.tup [])) ∨ (badB p = false ∧ H t = some (.tup ((tells p).map vN)))))
abbrev dN : Nat → PyData := fun n => PyData.int (n : Int)
theorem eqv_nil_l (ns : List Nat) : PyData.eqv (.list (ns.map dN)) (.list []) = decide (ns = []) := by
  cases ns <;> simp [PyData.eqv, PyData.eqvAll]
theorem eqv_nil_t (ns : List Nat) : PyData.eqv (.tuple (ns.map dN)) (.tuple []) = decide (ns = []) := by
  cases ns <;> simp [PyData.eqv, PyData.eqvAll]
theorem can_N : ∀ ns : List Nat, PyData.canLayAll0 (ns.map dN) = true
  | [] => by simp [PyData.canLayAll0]
  | n :: ns => by simp [PyData.canLayAll0, PyData.canLay0, can_N ns]
theorem dep_N : ∀ ns : List Nat, PyData.depthAll (ns.map dN) = 0
  | [] => by simp [PyData.depthAll]
  | n :: ns => by simp [PyData.depthAll, PyData.depth, dep_N ns]
theorem shp_l (ns : List Nat) : SeqAt.shaped (.list (ns.map dN)) = true := by
  simp [SeqAt.shaped, PyData.canLay0, PyData.depth, can_N, dep_N]
theorem shp_t (ns : List Nat) : SeqAt.shaped (.tuple (ns.map dN)) = true := by
  simp [SeqAt.shaped, PyData.canLay0, PyData.depth, can_N, dep_N]
theorem filt_any (xs : List Nat) : (xs.any fun x => decide (x ≠ 0)) = !decide (xs.filter (fun x => decide (x ≠ 0)) = []) := by
  induction xs with
  | nil => rfl
  | cons x xs ih =>
    by_cases h : x = 0
    · subst h
      simpa using ih
    · simp [h]
theorem shift_un (p i : Nat) (hi : i < 32) : p / 1024 / 2 ^ (496 - 16 * i) = p / 2 ^ (506 - 16 * i) := by
  rw [Nat.div_div_eq_div_mul, show (1024 : Nat) = 2 ^ 10 by decide, ← Nat.pow_add]
  congr 2
  omega
theorem cut_mid (xs : List V) {k : Nat} (h : k + 1 ≤ xs.length) : cutV xs (some 1) (some ((k + 1 : Nat) : Int)) = (xs.drop 1).take k := by
  have e := HT.sIx_nat xs.length 0 1
  unfold cutV
  rw [HT.sIx_nat, show (some (1 : Int)) = some ((1 : Nat) : Int) from rfl, e, Nat.min_eq_left h, Nat.min_eq_left (by omega), Nat.add_sub_cancel]
theorem word0 : wordD (dataOf []) = 512 := by decide +kernel
theorem bad512 : badB 512 = false := by decide +kernel
theorem un_zero {p : Nat} (hp : p < MX) (h : ∀ x ∈ un p, x = 0) : p / 1024 = 0 := by
  have st : ∀ i, i < 32 → p / 2 ^ (506 - 16 * i) % 65536 = 0 := fun i hi => h _ (List.mem_map.mpr ⟨i, List.mem_range.mpr hi, rfl⟩)
  have all : ∀ i, i < 32 → p / 2 ^ (506 - 16 * i) = 0 := by
    intro i
    induction i with
    | zero =>
      intro hi
      have a := st 0 hi
      have l : p / 2 ^ (506 - 16 * 0) < 65536 := Nat.div_lt_of_lt_mul (by
        have e : MX = 2 ^ 506 * 65536 := by decide +kernel
        rw [e] at hp
        exact hp)
      omega
    | succ i ih =>
      intro hi
      have a := st (i + 1) hi
      have b := ih (by omega)
      rw [show 506 - 16 * i = (506 - 16 * (i + 1)) + 16 by omega, Nat.pow_add, ← Nat.div_div_eq_div_mul] at b
      generalize p / 2 ^ (506 - 16 * (i + 1)) = z at a b ⊢
      rw [show (2 : Nat) ^ 16 = 65536 by decide] at b
      omega
  exact all 31 (by decide)
theorem tells_none {p : Nat} (hp : p < MX) (w : wholeP p) (b : badB p = false) (c : tells p = []) : p = 512 := by
  have l := us_len p
  unfold tells at c
  have z : u0 p = 0 := by
    rcases Nat.eq_zero_or_pos (u0 p) with h | h
    · exact h
    · have e := congrArg List.length c
      rw [List.length_take, List.length_nil] at e
      omega
  unfold badB at b
  rw [z, List.drop_zero, Bool.or_eq_false_iff, List.any_eq_false] at b
  have d := un_zero hp (fun x hx => by
    rw [un_eq, List.mem_cons] at hx
    rcases hx with rfl | hx
    · exact z
    · have := b.2 x hx
      simpa using this)
  have e := wholeP_eq w
  rw [d] at e
  rw [e]
  decide +kernel
section
variable {K : PySem.W.Frag} {H : Hp} {Q : VK} {a b : Addr} {xs ys : List V}
theorem a_slA {lo hi : Option Int} (h : SqT K H a xs) (q : ∀ (l : Addr) (H' : Hp), Same H H' → SqT K H' l (cutV xs lo hi) → Q (.ref l) H') : rSlA K (.ref a) lo hi H Q := by
  refine ⟨a, xs, rfl, h, fun e => q a H (fun _ _ z => z) ?_, fun _ p hp => q p _ (same_new hp) (sqT_of upd_same)⟩
  have e2 : cutV xs lo hi = xs := by
    unfold cutV
    rw [e.1, e.2, List.drop_zero, Nat.sub_zero, List.take_length]
  rw [e2]
  exact h
theorem a_catA (h : SqT K H a xs) (h2 : SqT K H b ys) (hl : xs.length + ys.length ≤ 100000) (q : ∀ (l : Addr) (H' : Hp), Same H H' → SqT K H' l (xs ++ ys) → Q (.ref l) H') : rCatA K (.ref a) (.ref b) H Q := by
  refine ⟨a, b, xs, ys, rfl, rfl, h, h2, Nat.le_trans hl (by decide), fun e => q b H (fun _ _ z => z) (by rw [e]; exact h2), fun _ e => q a H (fun _ _ z => z) (by rw [e, List.append_nil]; exact h), fun _ _ p hp => q p _ (same_new hp) (sqT_of upd_same)⟩
end
section
variable {ns : List Nat} (hn : ∀ n ∈ ns, n < 65536) (hl : ns.length ≤ 31)
include hn hl
theorem word_un : u0 (wordD (dataOf ns)) = ns.length ∧ us (wordD (dataOf ns)) = ns ++ List.replicate (31 - ns.length) 0 := by
  have e := unit_row hn hl
  rw [show (List.range 32).map (fun i => wordD (dataOf ns) / 2 ^ (506 - 16 * i) % 65536) = un (wordD (dataOf ns)) from rfl, un_eq] at e
  unfold rowU at e
  rw [List.cons_append] at e
  exact ⟨(List.cons.inj e).1, (List.cons.inj e).2⟩
theorem word_bad : badB (wordD (dataOf ns)) = false := by
  obtain ⟨a, b⟩ := word_un hn hl
  unfold badB
  rw [a, b, List.drop_left, decide_eq_false (by omega), Bool.false_or]
  simp
theorem word_tells : tells (wordD (dataOf ns)) = ns := by
  obtain ⟨a, b⟩ := word_un hn hl
  unfold tells
  rw [a, b, List.take_left]
theorem tl_word {H : Hp} {v : V} (h : Tl (wordD (dataOf ns)) H v) : ∃ t, v = .ref t ∧ H t = some (.tup (ns.map vN)) := by
  rcases h with ⟨h, _⟩ | ⟨_, _, t, rfl, e⟩
  · rcases h with h | h
    · exact absurd (st_iff.mpr ⟨whole_ne (wordD_whole _), wordD_whole _⟩) h
    · rw [word_bad hn hl] at h; cases h
  · rw [word_tells hn hl] at e
    exact ⟨t, rfl, e⟩
end
theorem word_one {ns ms : List Nat} (hn : ∀ n ∈ ns, n < 65536) (hl : ns.length ≤ 31) (hm : ∀ n ∈ ms, n < 65536) (hk : ms.length ≤ 31) (h : wordD (dataOf ns) = wordD (dataOf ms)) : ns = ms := by
  rw [← word_tells hn hl, h, word_tells hm hk]
theorem shw_mix {ds : List PyData} (h : ∀ d ∈ ds, shb d = true ∧ nsz d ≤ 700 ∧ d.depth ≤ 3) (hl : ds.length ≤ 10) : Shw (.list ds) := by
  have a := nszs_all (n := 700) fun d hd => (h d hd).2.1
  have b := depth_all (n := 3) fun d hd => (h d hd).2.2
  exact ⟨by simpa only [shb] using shbs_all fun d hd => (h d hd).1, by simp only [nsz]; omega, by simp only [PyData.depth]; omega⟩
theorem mix_leaf {d : PyData} (h : Leaf d) : shb d = true ∧ nsz d ≤ 700 ∧ d.depth ≤ 3 := ⟨h.1, Nat.le_trans h.2.1 (by decide), by rw [h.2.2]; decide⟩
theorem mix_row {ns : List Nat} (hn : ∀ n ∈ ns, n < 65536) (hl : ns.length ≤ 31) : shb (.tuple (ns.map dN)) = true ∧ nsz (.tuple (ns.map dN)) ≤ 700 ∧ (PyData.tuple (ns.map dN)).depth ≤ 3 := by
  have lf : ∀ d ∈ ns.map dN, Leaf d := fun d hd => by
    obtain ⟨n, hn2, rfl⟩ := List.mem_map.mp hd
    exact leafN (by have a := hn n hn2; have b : 65536 < MX := (by decide +kernel); omega)
  have a := nszs_all (n := 20) fun d hd => (lf d hd).2.1
  have b := depth_all (n := 0) fun d hd => Nat.le_of_eq (lf d hd).2.2
  rw [List.length_map] at a
  exact ⟨by simpa only [shb] using shbs_all fun d hd => (lf d hd).1, by simp only [nsz]; omega, by simp only [PyData.depth]; omega⟩
theorem dec_ne {a b : Nat} (h : a = b) : decide (a ≠ b) = false := by
  subst h
  simp
theorem fmodN (a k : Nat) : (a : Int).fmod (k : Int) = ((a % k : Nat) : Int) := by
  rw [Int.fmod_eq_emod_of_nonneg _ (Int.natCast_nonneg _), Int.natCast_emod]
theorem near_at {ns : List Nat} {sp n m : Nat} (h : ns[sp]? = some n) (hm : m ≠ n) : ns.take sp ++ [m] ++ ns.drop (sp + 1) ≠ ns := by
  intro e
  have hs : sp < ns.length := by
    rcases Nat.lt_or_ge sp ns.length with z | z
    · exact z
    · rw [List.getElem?_eq_none z] at h; cases h
  have l : (ns.take sp).length = sp := by rw [List.length_take]; omega
  have e2 : (ns.take sp ++ [m] ++ ns.drop (sp + 1))[sp]? = ns[sp]? := congrArg (fun xs : List Nat => xs[sp]?) e
  rw [List.append_assoc, List.getElem?_append_right (by omega), l, Nat.sub_self, h] at e2
  exact hm (Option.some.inj e2)
def dat2 (ns : List Nat) : List PyData := [dN (wordD (dataOf ns)), dN (wordD (dataOf ns)), .tuple (ns.map dN), .tuple (ns.map dN), .str (PySem.Str.ofString "whole"), dN (512 - ones (dataOf ns)), dN (512 - ones (dataOf ns))]
theorem dat2_ok {ns : List Nat} (hn : ∀ n ∈ ns, n < 65536) (hl : ns.length ≤ 31) : ∀ d ∈ dat2 ns, shb d = true ∧ nsz d ≤ 700 ∧ d.depth ≤ 3 := by
  have hw := word_lt (dataOf_lt hn hl)
  have hb := MX_big
  have l1 : Leaf (dN (wordD (dataOf ns))) := leafN (by omega)
  have l2 : Leaf (dN (512 - ones (dataOf ns))) := leafN (by omega)
  have l3 : Leaf (.str (PySem.Str.ofString "whole")) := ⟨by decide, by decide, rfl⟩
  have l4 := mix_row hn hl
  intro d h
  simp only [dat2, List.mem_cons, List.not_mem_nil, or_false] at h
  rcases h with h | h | h | h | h | h | h <;> subst h
  all_goals first | exact mix_leaf l1 | exact mix_leaf l2 | exact mix_leaf l3 | exact l4
theorem dec_ne2 {a b : Nat} (h : a ≠ b) : decide (a ≠ b) = true := by simp [h]
def dd (p : Nat) : PyData := if stateS p ≠ wholeS ∨ badB p = true then .none else .tuple ((tells p).map dN)
theorem tells_ok (p : Nat) : (∀ n ∈ tells p, n < 65536) ∧ (tells p).length ≤ 31 := by
  constructor
  · intro n h
    have h2 := List.mem_of_mem_take h
    unfold us at h2
    obtain ⟨i, _, rfl⟩ := List.mem_map.mp h2
    exact Nat.mod_lt _ (by decide)
  · unfold tells
    rw [List.length_take, us_len]
    omega
theorem dd_shw (p : Nat) : Shw (dd p) := by
  unfold dd
  split
  · exact leaf_none.shw
  · refine shw_tuple (fun d hd => ?_) (by rw [List.length_map]; have := (tells_ok p).2; omega)
    obtain ⟨n, hn, rfl⟩ := List.mem_map.mp hd
    have a := (tells_ok p).1 n hn
    have b : 65536 < MX := (by decide +kernel)
    exact leafN (by omega)
theorem tl_dp {K : PySem.W.Frag} {H : Hp} {p : Nat} {v : V} (h : Tl p H v) : Dp K H v (dd p) := by
  unfold dd
  rcases h with ⟨h, rfl⟩ | ⟨a, b, t, rfl, e⟩
  · rw [if_pos h]
    exact .non
  · rw [if_neg (by rw [b]; simp [a])]
    exact .tup (sqT_of e) (dp_ints _)
theorem v_ifI {c : Prop} {i : Decidable c} {A B : Prop} (h1 : c → A) (h2 : ¬ c → B) : @ite Prop c i A B := by
  cases i with
  | isTrue h => exact h1 h
  | isFalse h => exact h2 h
theorem v_iRng3 {ta : TA} {σ : L2.St} {H : Hp} {R : It → Hp → Prop} (h : ta σ H fun vs H1 => ∃ (i j c : Int) (n : Nat), vs = [.int i, .int j, .int c] ∧ RgC i j c n ∧ R (Itc i c n) H1) : iRng3 ta σ H R := h
theorem rg16_ : ∀ k : Fin 32, Builtin.Range.small 490 (505 - 16 * ((k : Nat) : Int)) (-16) = true ∧ Builtin.Range.rangeSize 490 (505 - 16 * ((k : Nat) : Int)) (-16) = ((k : Nat) : Int) := by decide +kernel
theorem rg16 {k : Nat} (h : k ≤ 31) : RgC 490 (505 - 16 * (k : Int)) (-16) k := ⟨by decide, by decide, (rg16_ ⟨k, by omega⟩).1, (rg16_ ⟨k, by omega⟩).2⟩
theorem u0_eq {p : Nat} (hp : p < MX) : u0 p = p / 2 ^ 506 := by
  unfold u0
  refine Nat.mod_eq_of_lt (Nat.div_lt_of_lt_mul ?_)
  have e : MX = 2 ^ 506 * 65536 := by decide +kernel
  rw [e] at hp
  exact hp
theorem lowz (p : Nat) : ∀ j, j ≤ 31 → (p % 2 ^ (10 + 16 * j) / 1024 = 0 ↔ ∀ i, 31 - j ≤ i → i < 31 → p / 2 ^ (506 - 16 * (i + 1)) % 65536 = 0) := by
  intro j
  induction j with
  | zero =>
    intro _
    refine ⟨fun _ i h1 h2 => by omega, fun _ => ?_⟩
    exact Nat.div_eq_of_lt (Nat.mod_lt _ (by decide))
  | succ j ih =>
    intro hj
    have ih := ih (by omega)
    have e : p % 2 ^ (10 + 16 * (j + 1)) = p % 2 ^ (10 + 16 * j) + 2 ^ (10 + 16 * j) * (p / 2 ^ (10 + 16 * j) % 65536) := by
      rw [show 10 + 16 * (j + 1) = (10 + 16 * j) + 16 by omega, Nat.pow_add, Nat.mod_mul]
    have e2 : (506 - 16 * ((31 - (j + 1)) + 1)) = 10 + 16 * j := by omega
    have big : 1024 ≤ 2 ^ (10 + 16 * j) := by
      rw [Nat.pow_add]
      exact Nat.le_mul_of_pos_right _ (Nat.pow_pos (by decide))
    rw [e]
    generalize hz : p / 2 ^ (10 + 16 * j) % 65536 = z
    constructor
    · intro h i h1 h2
      have hlt : p % 2 ^ (10 + 16 * j) + 2 ^ (10 + 16 * j) * z < 1024 := by
        by_cases c : p % 2 ^ (10 + 16 * j) + 2 ^ (10 + 16 * j) * z < 1024
        · exact c
        · have := Nat.div_pos (Nat.le_of_not_lt c) (by decide)
          omega
      have z0 : z = 0 := by
        rcases Nat.eq_zero_or_pos z with h | h
        · exact h
        · have := Nat.le_mul_of_pos_right (2 ^ (10 + 16 * j)) h
          omega
      by_cases c : i = 31 - (j + 1)
      · subst c
        rw [e2, hz, z0]
      · subst z0
        exact ih.mp (by rw [Nat.mul_zero, Nat.add_zero] at h; exact h) i (by omega) h2
    · intro h
      have h0 := h (31 - (j + 1)) (Nat.le_refl _) (by omega)
      rw [e2, hz] at h0
      rw [h0, Nat.mul_zero, Nat.add_zero]
      exact ih.mpr fun i h1 h2 => h i (by omega) h2
theorem badN {p : Nat} (hu : u0 p ≤ 31) : badB p = decide (p % 2 ^ (506 - 16 * u0 p) / 1024 ≠ 0) := by
  have L := lowz p (31 - u0 p) (by omega)
  rw [show 10 + 16 * (31 - u0 p) = 506 - 16 * u0 p by omega, show 31 - (31 - u0 p) = u0 p by omega] at L
  unfold badB
  rw [decide_eq_false (by omega), Bool.false_or]
  have key : ((us p).drop (u0 p)).any (fun x => decide (x ≠ 0)) = false ↔ ∀ i, u0 p ≤ i → i < 31 → p / 2 ^ (506 - 16 * (i + 1)) % 65536 = 0 := by
    rw [List.any_eq_false]
    constructor
    · intro h i h1 h2
      have m : (us p)[i]? = some (p / 2 ^ (506 - 16 * (i + 1)) % 65536) := by
        unfold us
        rw [List.getElem?_map, List.getElem?_range h2]
        rfl
      have := h (p / 2 ^ (506 - 16 * (i + 1)) % 65536) (List.mem_iff_getElem?.mpr ⟨i - u0 p, by rw [List.getElem?_drop, show u0 p + (i - u0 p) = i by omega]; exact m⟩)
      simpa using this
    · intro h x hx
      obtain ⟨k, hk⟩ := List.mem_iff_getElem?.mp hx
      rw [List.getElem?_drop] at hk
      have hl := (List.getElem?_eq_some_iff.mp hk).1
      rw [us_len] at hl
      unfold us at hk
      rw [List.getElem?_map, List.getElem?_range hl] at hk
      have := h (u0 p + k) (by omega) hl
      simp only [Option.map_some, Option.some.injEq] at hk
      rw [hk] at this
      simpa using this
  rw [← L] at key
  cases hb : ((us p).drop (u0 p)).any (fun x => decide (x ≠ 0)) with
  | false => rw [decide_eq_false (fun z => z (key.mp hb))]
  | true =>
    rw [decide_eq_true]
    intro z
    rw [key.mpr z] at hb
    cases hb
def TlN (p : Nat) (H : Hp) (v : V) : Prop := (badB p = true ∧ v = .non) ∨ (badB p = false ∧ ∃ t, v = .ref t ∧ H t = some (.tup ((tells p).map vN)))
theorem tells_eq {p : Nat} (hu : u0 p ≤ 31) : tells p = (List.range (u0 p)).map fun i => p / 2 ^ (490 - 16 * i) % 65536 := by
  unfold tells us
  rw [← List.map_take, List.take_range, Nat.min_eq_left hu]
  refine List.map_congr_left fun i _ => ?_
  rw [show 506 - 16 * (i + 1) = 490 - 16 * i by omega]
def dat3 (p : Nat) : List PyData := [.str (stateS p), .str (stateS p), .bool (decide (p = FL)), .bool (decide (p = FL)), dd p, dd p, dN (512 - ones (p / 1024)), dN (512 - ones (p / 1024))]
theorem mix_dd (p : Nat) : shb (dd p) = true ∧ nsz (dd p) ≤ 700 ∧ (dd p).depth ≤ 3 := by
  unfold dd
  split
  · exact mix_leaf leaf_none
  · exact mix_row (tells_ok p).1 (tells_ok p).2
theorem dat3_ok (p : Nat) : ∀ d ∈ dat3 p, shb d = true ∧ nsz d ≤ 700 ∧ d.depth ≤ 3 := by
  have hb := MX_big
  have l2 : Leaf (dN (512 - ones (p / 1024))) := leafN (by omega)
  intro d h
  simp only [dat3, List.mem_cons, List.not_mem_nil, or_false] at h
  rcases h with h | h | h | h | h | h | h | h <;> subst h
  all_goals first | exact mix_leaf (leaf_state p) | exact mix_leaf (leaf_bool _) | exact mix_dd p | exact mix_leaf l2
theorem cell_two (a b : Bool) : Cell (.lst [.bl a, .bl b]) := .inr ⟨[a, b], rfl, by show 2 ≤ 8; decide⟩
/-! ### the text by places -/
def topS (i : Nat) : Stmt := PySem.Challenge.pw_flashtrees_k03_whole_pages_of_anything.main.body.getD i (.Pass ⟨0, 0, 0, 0⟩)
abbrev s_Ldraw : Stmt := topS 28
abbrev N_Ldraw : List Str := ["_law_spring_here", "_law_high", "_law_figure", "_law_seed"]
theorem sc_Ldraw : FnScope N_Ldraw ["_law_spring_here", "_law_high"] (defScope s_Ldraw) := ⟨rfl, rfl, rfl, by decide +kernel, rfl, by decide +kernel, by decide +kernel⟩
abbrev s_Lpick : Stmt := topS 29
abbrev N_Lpick : List Str := ["_law_spring_here", "_law_some"]
theorem sc_Lpick : FnScope N_Lpick ["_law_spring_here", "_law_some"] (defScope s_Lpick) := ⟨rfl, rfl, rfl, by decide +kernel, rfl, by decide +kernel, by decide +kernel⟩
abbrev s_Lodd : Stmt := topS 38
abbrev N_Lodd : List Str := ["_law_spring_here"]
theorem sc_Lodd : FnScope N_Lodd ["_law_spring_here"] (defScope s_Lodd) := ⟨rfl, rfl, rfl, by decide +kernel, rfl, by decide +kernel, by decide +kernel⟩
abbrev s_Lthings : Stmt := topS 40
abbrev N_Lthings : List Str := ["_law_spring_here", "_law_page"]
theorem sc_Lthings : FnScope N_Lthings ["_law_spring_here", "_law_page"] (defScope s_Lthings) := ⟨rfl, rfl, rfl, by decide +kernel, rfl, by decide +kernel, by decide +kernel⟩
abbrev s_Lones : Stmt := topS 32
abbrev N_Lones : List Str := ["_law_number", "_law_total"]
theorem sc_Lones : FnScope N_Lones ["_law_number"] (defScope s_Lones) := ⟨rfl, rfl, rfl, by decide +kernel, rfl, by decide +kernel, by decide +kernel⟩
abbrev s_Lword : Stmt := topS 33
abbrev N_Lword : List Str := ["_law_numbers_here", "_law_data_here", "_law_each"]
theorem sc_Lword : FnScope N_Lword ["_law_numbers_here"] (defScope s_Lword) := ⟨rfl, rfl, rfl, by decide +kernel, rfl, by decide +kernel, by decide +kernel⟩
abbrev s_Lwhole : Stmt := topS 36
abbrev N_Lwhole : List Str := ["_law_data_here"]
theorem sc_Lwhole : FnScope N_Lwhole ["_law_data_here"] (defScope s_Lwhole) := ⟨rfl, rfl, rfl, by decide +kernel, rfl, by decide +kernel, by decide +kernel⟩
abbrev s_Lrow : Stmt := topS 31
abbrev N_Lrow : List Str := ["_law_spring_here", "_law_row_here", "_law_turn"]
theorem sc_Lrow : FnScope N_Lrow ["_law_spring_here"] (defScope s_Lrow) := ⟨rfl, rfl, rfl, by decide +kernel, rfl, by decide +kernel, by decide +kernel⟩
abbrev s_Ldata : Stmt := topS 35
abbrev N_Ldata : List Str := ["_law_spring_here", "_law_way", "_law_data_here", "_law_turn"]
theorem sc_Ldata : FnScope N_Ldata ["_law_spring_here"] (defScope s_Ldata) := ⟨rfl, rfl, rfl, by decide +kernel, rfl, by decide +kernel, by decide +kernel⟩
abbrev s_Lbits : Stmt := topS 30
abbrev N_Lbits : List Str := ["_law_spring_here", "_law_way", "_law_made", "_law_turn"]
theorem sc_Lbits : FnScope N_Lbits ["_law_spring_here"] (defScope s_Lbits) := ⟨rfl, rfl, rfl, by decide +kernel, rfl, by decide +kernel, by decide +kernel⟩
abbrev s_Lany : Stmt := topS 37
abbrev N_Lany : List Str := ["_law_spring_here", "_law_way"]
theorem sc_Lany : FnScope N_Lany ["_law_spring_here"] (defScope s_Lany) := ⟨rfl, rfl, rfl, by decide +kernel, rfl, by decide +kernel, by decide +kernel⟩
abbrev s_is_whole : Stmt := topS 4
abbrev N_is_whole : List Str := ["value"]
theorem sc_is_whole : FnScope N_is_whole ["value"] (defScope s_is_whole) := ⟨rfl, rfl, rfl, by decide +kernel, rfl, by decide +kernel, by decide +kernel⟩
abbrev s_is_between : Stmt := topS 5
abbrev N_is_between : List Str := ["value", "least", "most"]
theorem sc_is_between : FnScope N_is_between ["value", "least", "most"] (defScope s_is_between) := ⟨rfl, rfl, rfl, by decide +kernel, rfl, by decide +kernel, by decide +kernel⟩
abbrev s_is_page : Stmt := topS 16
abbrev N_is_page : List Str := ["value"]
theorem sc_is_page : FnScope N_is_page ["value"] (defScope s_is_page) := ⟨rfl, rfl, rfl, by decide +kernel, rfl, by decide +kernel, by decide +kernel⟩
abbrev s_require_page : Stmt := topS 17
abbrev N_require_page : List Str := ["value"]
theorem sc_require_page : FnScope N_require_page ["value"] (defScope s_require_page) := ⟨rfl, rfl, rfl, by decide +kernel, rfl, by decide +kernel, by decide +kernel⟩
abbrev s_is_blank : Stmt := topS 20
abbrev N_is_blank : List Str := ["page"]
theorem sc_is_blank : FnScope N_is_blank ["page"] (defScope s_is_blank) := ⟨rfl, rfl, rfl, by decide +kernel, rfl, by decide +kernel, by decide +kernel⟩
abbrev s_count_zeros : Stmt := topS 19
abbrev N_count_zeros : List Str := ["data", "bits"]
theorem sc_count_zeros : FnScope N_count_zeros ["data"] (defScope s_count_zeros) := ⟨rfl, rfl, rfl, by decide +kernel, rfl, by decide +kernel, by decide +kernel⟩
abbrev s_zeros_in : Stmt := topS 22
abbrev N_zeros_in : List Str := ["page"]
theorem sc_zeros_in : FnScope N_zeros_in ["page"] (defScope s_zeros_in) := ⟨rfl, rfl, rfl, by decide +kernel, rfl, by decide +kernel, by decide +kernel⟩
abbrev s_state_of : Stmt := topS 23
abbrev N_state_of : List Str := ["page"]
theorem sc_state_of : FnScope N_state_of ["page"] (defScope s_state_of) := ⟨rfl, rfl, rfl, by decide +kernel, rfl, by decide +kernel, by decide +kernel⟩
abbrev s_numbers_held : Stmt := topS 24
abbrev N_numbers_held : List Str := ["page", "many", "end", "behind", "shift"]
theorem sc_numbers_held : FnScope N_numbers_held ["page"] (defScope s_numbers_held) := ⟨rfl, rfl, rfl, by decide +kernel, rfl, by decide +kernel, by decide +kernel⟩
abbrev s_told_by : Stmt := topS 25
abbrev N_told_by : List Str := ["page"]
theorem sc_told_by : FnScope N_told_by ["page"] (defScope s_told_by) := ⟨rfl, rfl, rfl, by decide +kernel, rfl, by decide +kernel, by decide +kernel⟩
abbrev s_Lnumbers : Stmt := topS 34
abbrev N_Lnumbers : List Str := ["_law_page", "_law_data_here", "_law_check", "_law_units", "_law_spot", "_law_unit"]
theorem sc_Lnumbers : FnScope N_Lnumbers ["_law_page"] (defScope s_Lnumbers) := ⟨rfl, rfl, rfl, by decide +kernel, rfl, by decide +kernel, by decide +kernel⟩
abbrev s_Ltold_by : Stmt := topS 39
abbrev N_Ltold_by : List Str := ["_law_page", "_law_row_here"]
theorem sc_Ltold_by : FnScope N_Ltold_by ["_law_page"] (defScope s_Ltold_by) := ⟨rfl, rfl, rfl, by decide +kernel, rfl, by decide +kernel, by decide +kernel⟩
abbrev s_Lpage_right : Stmt := topS 42
abbrev N_Lpage_right : List Str := ["_law_page", "_law_blank", "_law_state", "_law_told", "_law_row_here", "_law_zeros"]
theorem sc_Lpage_right : FnScope N_Lpage_right ["_law_page"] (defScope s_Lpage_right) := ⟨rfl, rfl, rfl, by decide +kernel, rfl, by decide +kernel, by decide +kernel⟩
abbrev s_lies_within : Stmt := topS 18
abbrev N_lies_within : List Str := ["inner", "outer"]
theorem sc_lies_within : FnScope N_lies_within ["inner", "outer"] (defScope s_lies_within) := ⟨rfl, rfl, rfl, by decide +kernel, rfl, by decide +kernel, by decide +kernel⟩
abbrev s_is_within : Stmt := topS 21
abbrev N_is_within : List Str := ["page", "other"]
theorem sc_is_within : FnScope N_is_within ["page", "other"] (defScope s_is_within) := ⟨rfl, rfl, rfl, by decide +kernel, rfl, by decide +kernel, by decide +kernel⟩
abbrev s_Lis_page : Stmt := topS 41
abbrev N_Lis_page : List Str := ["_law_thing"]
theorem sc_Lis_page : FnScope N_Lis_page ["_law_thing"] (defScope s_Lis_page) := ⟨rfl, rfl, rfl, by decide +kernel, rfl, by decide +kernel, by decide +kernel⟩
abbrev s_Lright : Stmt := topS 43
abbrev N_Lright : List Str := ["_law_spring_here", "_law_page", "_law_late", "_law_told", "_law_due", "_law_here", "_law_there", "_law_thing"]
theorem sc_Lright : FnScope N_Lright ["_law_spring_here"] (defScope s_Lright) := ⟨rfl, rfl, rfl, by decide +kernel, rfl, by decide +kernel, by decide +kernel⟩
abbrev s_Lspring : Stmt := topS 27
abbrev N_Lspring : List Str := ["_law_script", "_law_turn", "_law_mixed", "_law_cell", "_law_own"]
theorem sc_Lspring : FnScope N_Lspring ["_law_script", "_law_turn"] (defScope s_Lspring) := ⟨rfl, rfl, rfl, by decide +kernel, rfl, by decide +kernel, by decide +kernel⟩
abbrev s_law : Stmt := topS 44
abbrev N_law : List Str := ["_law_script", "_law_turn"]
theorem sc_law : FnScope N_law ["_law_script"] (defScope s_law) := ⟨rfl, rfl, rfl, by decide +kernel, rfl, by decide +kernel, by decide +kernel⟩
abbrev gp_is_blank_0_page {α : Type} : List α → List α → List α := gpick 0 1 [0]
theorem kb_is_blank_0_page {K : PySem.W.Frag} {f : Addr} {fd : FuncData} (F : Fun K "is_blank" "is_blank" s_is_blank f fd) : KBinds K fd ["page"] ["page"] gp_is_blank_0_page gp_is_blank_0_page := by
  obtain ⟨oc, od, kV, doc, pm, an, cdv, ct, osl, rfl, lk, hcd⟩ := F.ex
  refine ⟨fun s us ws kin hl => ?_, fun r rz => gpick_rel _ _ _ r rz⟩
  by_cases hc : us.length = 0 ∧ ws.length = 1
  · match us, ws, hc with
    | [], [z0], _ => exact .of_eq rfl
  · rw [show gp_is_blank_0_page us ws = [] from if_neg hc] at hl
    simp at hl
abbrev gp_is_page_0_value {α : Type} : List α → List α → List α := gpick 0 1 [0]
theorem kb_is_page_0_value {K : PySem.W.Frag} {f : Addr} {fd : FuncData} (F : Fun K "is_page" "is_page" s_is_page f fd) : KBinds K fd ["value"] ["value"] gp_is_page_0_value gp_is_page_0_value := by
  obtain ⟨oc, od, kV, doc, pm, an, cdv, ct, osl, rfl, lk, hcd⟩ := F.ex
  refine ⟨fun s us ws kin hl => ?_, fun r rz => gpick_rel _ _ _ r rz⟩
  by_cases hc : us.length = 0 ∧ ws.length = 1
  · match us, ws, hc with
    | [], [z0], _ => exact .of_eq rfl
  · rw [show gp_is_page_0_value us ws = [] from if_neg hc] at hl
    simp at hl
abbrev gp_is_within_0_other_page {α : Type} : List α → List α → List α := gpick 0 2 [1, 0]
theorem kb_is_within_0_other_page {K : PySem.W.Frag} {f : Addr} {fd : FuncData} (F : Fun K "is_within" "is_within" s_is_within f fd) : KBinds K fd ["page", "other"] ["other", "page"] gp_is_within_0_other_page gp_is_within_0_other_page := by
  obtain ⟨oc, od, kV, doc, pm, an, cdv, ct, osl, rfl, lk, hcd⟩ := F.ex
  refine ⟨fun s us ws kin hl => ?_, fun r rz => gpick_rel _ _ _ r rz⟩
  by_cases hc : us.length = 0 ∧ ws.length = 2
  · match us, ws, hc with
    | [], [z0, z1], _ => exact .of_eq rfl
  · rw [show gp_is_within_0_other_page us ws = [] from if_neg hc] at hl
    simp at hl
abbrev gp_state_of_0_page {α : Type} : List α → List α → List α := gpick 0 1 [0]
theorem kb_state_of_0_page {K : PySem.W.Frag} {f : Addr} {fd : FuncData} (F : Fun K "state_of" "state_of" s_state_of f fd) : KBinds K fd ["page"] ["page"] gp_state_of_0_page gp_state_of_0_page := by
  obtain ⟨oc, od, kV, doc, pm, an, cdv, ct, osl, rfl, lk, hcd⟩ := F.ex
  refine ⟨fun s us ws kin hl => ?_, fun r rz => gpick_rel _ _ _ r rz⟩
  by_cases hc : us.length = 0 ∧ ws.length = 1
  · match us, ws, hc with
    | [], [z0], _ => exact .of_eq rfl
  · rw [show gp_state_of_0_page us ws = [] from if_neg hc] at hl
    simp at hl
abbrev gp_told_by_0_page {α : Type} : List α → List α → List α := gpick 0 1 [0]
theorem kb_told_by_0_page {K : PySem.W.Frag} {f : Addr} {fd : FuncData} (F : Fun K "told_by" "told_by" s_told_by f fd) : KBinds K fd ["page"] ["page"] gp_told_by_0_page gp_told_by_0_page := by
  obtain ⟨oc, od, kV, doc, pm, an, cdv, ct, osl, rfl, lk, hcd⟩ := F.ex
  refine ⟨fun s us ws kin hl => ?_, fun r rz => gpick_rel _ _ _ r rz⟩
  by_cases hc : us.length = 0 ∧ ws.length = 1
  · match us, ws, hc with
    | [], [z0], _ => exact .of_eq rfl
  · rw [show gp_told_by_0_page us ws = [] from if_neg hc] at hl
    simp at hl
abbrev gp_zeros_in_0_page {α : Type} : List α → List α → List α := gpick 0 1 [0]
theorem kb_zeros_in_0_page {K : PySem.W.Frag} {f : Addr} {fd : FuncData} (F : Fun K "zeros_in" "zeros_in" s_zeros_in f fd) : KBinds K fd ["page"] ["page"] gp_zeros_in_0_page gp_zeros_in_0_page := by
  obtain ⟨oc, od, kV, doc, pm, an, cdv, ct, osl, rfl, lk, hcd⟩ := F.ex
  refine ⟨fun s us ws kin hl => ?_, fun r rz => gpick_rel _ _ _ r rz⟩
  by_cases hc : us.length = 0 ∧ ws.length = 1
  · match us, ws, hc with
    | [], [z0], _ => exact .of_eq rfl
  · rw [show gp_zeros_in_0_page us ws = [] from if_neg hc] at hl
    simp at hl
/-! ### what the top has left -/
structure Txt (K : PySem.W.Frag) (mg : Str → Option Value) where
  f_Ldraw : Addr
  fd_Ldraw : FuncData
  F_Ldraw : Fun K "_law_draw" "_law_draw" s_Ldraw f_Ldraw fd_Ldraw
  g_Ldraw : mg "_law_draw" = some (.ref f_Ldraw)
  bi_Ldraw : Binds K fd_Ldraw ["_law_spring_here", "_law_high"] []
  f_Lpick : Addr
  fd_Lpick : FuncData
  F_Lpick : Fun K "_law_pick" "_law_pick" s_Lpick f_Lpick fd_Lpick
  g_Lpick : mg "_law_pick" = some (.ref f_Lpick)
  bi_Lpick : Binds K fd_Lpick ["_law_spring_here", "_law_some"] []
  f_Lodd : Addr
  fd_Lodd : FuncData
  F_Lodd : Fun K "_law_odd" "_law_odd" s_Lodd f_Lodd fd_Lodd
  g_Lodd : mg "_law_odd" = some (.ref f_Lodd)
  bi_Lodd : Binds K fd_Lodd ["_law_spring_here"] []
  f_Lthings : Addr
  fd_Lthings : FuncData
  F_Lthings : Fun K "_law_things" "_law_things" s_Lthings f_Lthings fd_Lthings
  g_Lthings : mg "_law_things" = some (.ref f_Lthings)
  bi_Lthings : Binds K fd_Lthings ["_law_spring_here", "_law_page"] []
  f_Lones : Addr
  fd_Lones : FuncData
  F_Lones : Fun K "_law_ones" "_law_ones" s_Lones f_Lones fd_Lones
  g_Lones : mg "_law_ones" = some (.ref f_Lones)
  bi_Lones : Binds K fd_Lones ["_law_number"] []
  f_Lword : Addr
  fd_Lword : FuncData
  F_Lword : Fun K "_law_word" "_law_word" s_Lword f_Lword fd_Lword
  g_Lword : mg "_law_word" = some (.ref f_Lword)
  bi_Lword : Binds K fd_Lword ["_law_numbers_here"] []
  f_Lwhole : Addr
  fd_Lwhole : FuncData
  F_Lwhole : Fun K "_law_whole" "_law_whole" s_Lwhole f_Lwhole fd_Lwhole
  g_Lwhole : mg "_law_whole" = some (.ref f_Lwhole)
  bi_Lwhole : Binds K fd_Lwhole ["_law_data_here"] []
  f_Lrow : Addr
  fd_Lrow : FuncData
  F_Lrow : Fun K "_law_row" "_law_row" s_Lrow f_Lrow fd_Lrow
  g_Lrow : mg "_law_row" = some (.ref f_Lrow)
  bi_Lrow : Binds K fd_Lrow ["_law_spring_here"] []
  f_Ldata : Addr
  fd_Ldata : FuncData
  F_Ldata : Fun K "_law_data" "_law_data" s_Ldata f_Ldata fd_Ldata
  g_Ldata : mg "_law_data" = some (.ref f_Ldata)
  bi_Ldata : Binds K fd_Ldata ["_law_spring_here"] []
  f_Lbits : Addr
  fd_Lbits : FuncData
  F_Lbits : Fun K "_law_bits" "_law_bits" s_Lbits f_Lbits fd_Lbits
  g_Lbits : mg "_law_bits" = some (.ref f_Lbits)
  bi_Lbits : Binds K fd_Lbits ["_law_spring_here"] []
  f_Lany : Addr
  fd_Lany : FuncData
  F_Lany : Fun K "_law_any" "_law_any" s_Lany f_Lany fd_Lany
  g_Lany : mg "_law_any" = some (.ref f_Lany)
  bi_Lany : Binds K fd_Lany ["_law_spring_here"] []
  f_is_whole : Addr
  fd_is_whole : FuncData
  F_is_whole : Fun K "is_whole" "is_whole" s_is_whole f_is_whole fd_is_whole
  g_is_whole : mg "is_whole" = some (.ref f_is_whole)
  bi_is_whole : Binds K fd_is_whole ["value"] []
  f_is_between : Addr
  fd_is_between : FuncData
  F_is_between : Fun K "is_between" "is_between" s_is_between f_is_between fd_is_between
  g_is_between : mg "is_between" = some (.ref f_is_between)
  bi_is_between : Binds K fd_is_between ["value", "least", "most"] []
  f_is_page : Addr
  fd_is_page : FuncData
  F_is_page : Fun K "is_page" "is_page" s_is_page f_is_page fd_is_page
  g_is_page : mg "is_page" = some (.ref f_is_page)
  bi_is_page : Binds K fd_is_page ["value"] []
  f_require_page : Addr
  fd_require_page : FuncData
  F_require_page : Fun K "require_page" "require_page" s_require_page f_require_page fd_require_page
  g_require_page : mg "require_page" = some (.ref f_require_page)
  bi_require_page : Binds K fd_require_page ["value"] []
  f_is_blank : Addr
  fd_is_blank : FuncData
  F_is_blank : Fun K "is_blank" "is_blank" s_is_blank f_is_blank fd_is_blank
  g_is_blank : mg "is_blank" = some (.ref f_is_blank)
  bi_is_blank : Binds K fd_is_blank ["page"] []
  f_count_zeros : Addr
  fd_count_zeros : FuncData
  F_count_zeros : Fun K "count_zeros" "count_zeros" s_count_zeros f_count_zeros fd_count_zeros
  g_count_zeros : mg "count_zeros" = some (.ref f_count_zeros)
  bi_count_zeros : Binds K fd_count_zeros ["data"] []
  f_zeros_in : Addr
  fd_zeros_in : FuncData
  F_zeros_in : Fun K "zeros_in" "zeros_in" s_zeros_in f_zeros_in fd_zeros_in
  g_zeros_in : mg "zeros_in" = some (.ref f_zeros_in)
  bi_zeros_in : Binds K fd_zeros_in ["page"] []
  f_state_of : Addr
  fd_state_of : FuncData
  F_state_of : Fun K "state_of" "state_of" s_state_of f_state_of fd_state_of
  g_state_of : mg "state_of" = some (.ref f_state_of)
  bi_state_of : Binds K fd_state_of ["page"] []
  f_numbers_held : Addr
  fd_numbers_held : FuncData
  F_numbers_held : Fun K "numbers_held" "numbers_held" s_numbers_held f_numbers_held fd_numbers_held
  g_numbers_held : mg "numbers_held" = some (.ref f_numbers_held)
  bi_numbers_held : Binds K fd_numbers_held ["page"] []
  f_told_by : Addr
  fd_told_by : FuncData
  F_told_by : Fun K "told_by" "told_by" s_told_by f_told_by fd_told_by
  g_told_by : mg "told_by" = some (.ref f_told_by)
  bi_told_by : Binds K fd_told_by ["page"] []
  f_Lnumbers : Addr
  fd_Lnumbers : FuncData
  F_Lnumbers : Fun K "_law_numbers" "_law_numbers" s_Lnumbers f_Lnumbers fd_Lnumbers
  g_Lnumbers : mg "_law_numbers" = some (.ref f_Lnumbers)
  bi_Lnumbers : Binds K fd_Lnumbers ["_law_page"] []
  f_Ltold_by : Addr
  fd_Ltold_by : FuncData
  F_Ltold_by : Fun K "_law_told_by" "_law_told_by" s_Ltold_by f_Ltold_by fd_Ltold_by
  g_Ltold_by : mg "_law_told_by" = some (.ref f_Ltold_by)
  bi_Ltold_by : Binds K fd_Ltold_by ["_law_page"] []
  f_Lpage_right : Addr
  fd_Lpage_right : FuncData
  F_Lpage_right : Fun K "_law_page_right" "_law_page_right" s_Lpage_right f_Lpage_right fd_Lpage_right
  g_Lpage_right : mg "_law_page_right" = some (.ref f_Lpage_right)
  bi_Lpage_right : Binds K fd_Lpage_right ["_law_page"] []
  f_lies_within : Addr
  fd_lies_within : FuncData
  F_lies_within : Fun K "lies_within" "lies_within" s_lies_within f_lies_within fd_lies_within
  g_lies_within : mg "lies_within" = some (.ref f_lies_within)
  bi_lies_within : Binds K fd_lies_within ["inner", "outer"] []
  f_is_within : Addr
  fd_is_within : FuncData
  F_is_within : Fun K "is_within" "is_within" s_is_within f_is_within fd_is_within
  g_is_within : mg "is_within" = some (.ref f_is_within)
  bi_is_within : Binds K fd_is_within ["page", "other"] []
  f_Lis_page : Addr
  fd_Lis_page : FuncData
  F_Lis_page : Fun K "_law_is_page" "_law_is_page" s_Lis_page f_Lis_page fd_Lis_page
  g_Lis_page : mg "_law_is_page" = some (.ref f_Lis_page)
  bi_Lis_page : Binds K fd_Lis_page ["_law_thing"] []
  f_Lright : Addr
  fd_Lright : FuncData
  F_Lright : Fun K "_law_right" "_law_right" s_Lright f_Lright fd_Lright
  g_Lright : mg "_law_right" = some (.ref f_Lright)
  bi_Lright : Binds K fd_Lright ["_law_spring_here"] []
  f_Lspring : Addr
  fd_Lspring : FuncData
  F_Lspring : Fun K "_law_spring" "_law_spring" s_Lspring f_Lspring fd_Lspring
  g_Lspring : mg "_law_spring" = some (.ref f_Lspring)
  bi_Lspring : Binds K fd_Lspring ["_law_script", "_law_turn"] []
  f_law : Addr
  fd_law : FuncData
  F_law : Fun K "law" "law" s_law f_law fd_law
  g_law : mg "law" = some (.ref f_law)
  bi_law : Binds K fd_law ["_law_script"] []
  kb_is_blank_0_page : KBinds K fd_is_blank ["page"] ["page"] gp_is_blank_0_page gp_is_blank_0_page
  kb_is_page_0_value : KBinds K fd_is_page ["value"] ["value"] gp_is_page_0_value gp_is_page_0_value
  kb_is_within_0_other_page : KBinds K fd_is_within ["page", "other"] ["other", "page"] gp_is_within_0_other_page gp_is_within_0_other_page
  kb_state_of_0_page : KBinds K fd_state_of ["page"] ["page"] gp_state_of_0_page gp_state_of_0_page
  kb_told_by_0_page : KBinds K fd_told_by ["page"] ["page"] gp_told_by_0_page gp_told_by_0_page
  kb_zeros_in_0_page : KBinds K fd_zeros_in ["page"] ["page"] gp_zeros_in_0_page gp_zeros_in_0_page
  b_abs : mg "abs" = none
  b_all : mg "all" = none
  b_bool : mg "bool" = none
  b_divmod : mg "divmod" = none
  b_int : mg "int" = none
  b_isinstance : mg "isinstance" = none
  b_len : mg "len" = none
  b_max : mg "max" = none
  b_min : mg "min" = none
  b_range : mg "range" = none
  b_repr : mg "repr" = none
  b_str : mg "str" = none
  b_tuple : mg "tuple" = none
  t_BLANK : Tok
  c_BLANK : mg "BLANK" = some (.int BLv t_BLANK)
  t_CHECKS : Tok
  c_CHECKS : mg "CHECKS" = some (.int 1023 t_CHECKS)
  t_CHECK_WIDTH : Tok
  c_CHECK_WIDTH : mg "CHECK_WIDTH" = some (.int 10 t_CHECK_WIDTH)
  t_DATA_WIDTH : Tok
  c_DATA_WIDTH : mg "DATA_WIDTH" = some (.int 512 t_DATA_WIDTH)
  t_GREATEST_UNIT : Tok
  c_GREATEST_UNIT : mg "GREATEST_UNIT" = some (.int 65535 t_GREATEST_UNIT)
  t_MOST_NUMBERS : Tok
  c_MOST_NUMBERS : mg "MOST_NUMBERS" = some (.int 31 t_MOST_NUMBERS)
  t_UNIT_WIDTH : Tok
  c_UNIT_WIDTH : mg "UNIT_WIDTH" = some (.int 16 t_UNIT_WIDTH)
  t_WIDTH : Tok
  c_WIDTH : mg "WIDTH" = some (.int 522 t_WIDTH)
section
variable {P : Program} {w : World} {K : PySem.W.Frag} {mg : Str → Option Value} {base : Heap}
def spo_Ldraw (K : PySem.W.Frag) : Sp := sp2 fun v m H Q => ∃ (W : Addr) (k : Nat), v = .ref W ∧ m = .int k ∧ Wl [] H W ∧ 0 < k ∧ k < 2 ^ 40 ∧ ∀ (r : Nat) (H' : Hp), r < k → Sx W H H' → Wl [] H' W → Q (.int r) H'
abbrev sp_Ldraw := spo_Ldraw
theorem ok_Ldraw (T : Txt K mg) : FnG P w K mg base 1 T.f_Ldraw T.fd_Ldraw ["_law_spring_here", "_law_high"] (sp_Ldraw K) := by
  refine okG T.F_Ldraw sc_Ldraw len2 (fun cdv A outer s H vs Q hgd hr h => ?_)
  obtain ⟨a0, a1, rfl, h⟩ := h
  refine ⟨_, (pss_cons (ps_if (pt_cmpR op_gt (pe_ix ix_list (pv 0) pe_int (fun _ _ => rfl)) pe_int (nomark _)) (pss_cons (ps_asg (pe_callB cv_divmod (by rfl) T.b_divmod (by decide +kernel) (pa_cons (pe_ix ix_list (pv 0) pe_int (fun _ _ => rfl)) (pa_cons (pv 1) pa_nil))) (pg_tup (by rfl) (pgs_cons (pg_sub (pv 0) pe_int set_list) (pgs_cons (pg_name (i := 2) sc_Ldraw.nd rfl (.inl rfl)) pgs_nil))))
      (pss_one (ps_ret (pv 2)))) pss_nil)
    (pss_cons (ps_asg (pe_op op_add (pe_ix ix_list (pv 0) pe_int (fun _ _ => rfl)) pe_int) (pg_sub (pv 0) pe_int set_list))
    (pss_cons (ps_set (i := 3) sc_Ldraw.nd rfl (.inl rfl) (pe_op op_modN (pe_callTy cv_int (by rfl) T.b_int (by decide +kernel) (pa_cons (pe_op op_add (pe_ix ix_list (pv 0) pe_int (fun _ _ => rfl)) (pe_op op_mul pe_int (pe_ix ix_list (pv 0) pe_int (fun _ _ => rfl)))) pa_nil)) pe_int))
    (pss_cons (ps_asg (pe_op op_modN (pe_callTy cv_int (by rfl) T.b_int (by decide +kernel) (pa_cons (pe_op op_add (pe_op op_mul (pv 3) (pe_op op_add (pe_op op_modN (pe_callTy cv_int (by rfl) T.b_int (by decide +kernel) (pa_cons (pv 3) pa_nil)) pe_int) pe_int)) (pe_op op_mul pe_int (pe_ix ix_list (pv 0) pe_int (fun _ _ => rfl)))) pa_nil)) pe_int) (pg_sub (pv 0) pe_int set_list))
    (pss_one (ps_ret (pe_op op_modN (pe_callTy cv_int (by rfl) T.b_int (by decide +kernel) (pa_cons (pe_op op_fdivN (pe_ix ix_list (pv 0) pe_int (fun _ _ => rfl)) pe_int) pa_nil)) (pv 1)))))))), ?_⟩
  rw [show L2.start N_Ldraw [a0, a1] = [some a0, some a1, none, none] from rfl]
  obtain ⟨W, k, rfl, rfl, ⟨a, b, c, hW⟩, hk, hk2, q⟩ := h
  walk_at "vv"
  refine v_ixL (sqL_of hW) rfl ?_
  walk_at "vv"
  refine v_ifd (fun c0 => ?_) (fun c0 => ?_)
  · walk_at "vv"
    refine v_ixL (sqL_of hW) rfl ?_
    walk_at "vv"
    refine v_div ⟨by omega, pylong hk2 (by decide) (by decide)⟩ (fun p hp => ?_)
    have hpW : W ≠ p := ne_of_none hW hp
    refine v_gtup (sqT_of upd_same) rfl ?_
    walk_at "vv"
    refine v_setL (by rw [upd_ne hpW]; exact hW) rfl ?_
    walk_at "vv"
    obtain ⟨n, hn⟩ := natOf (Int.emod_nonneg a (b := (k : Int)) (by omega))
    have hlt := Int.emod_lt_of_pos a (b := (k : Int)) (by omega)
    rw [hn] at hlt ⊢
    exact q n _ (by omega) ((Sx.new hp).trans Sx.mut) ⟨_, _, _, upd_same⟩
  · walk_at "vv"
    refine v_ixL (sqL_of hW) rfl ?_
    walk_at "vv"
    refine v_setL hW rfl ?_
    walk_at "vv"
    refine v_ixL (sqL_of upd_same) rfl ?_
    walk_at "vv"
    refine v_ixL (sqL_of upd_same) rfl ?_
    walk_at "vv"
    refine v_ixL (sqL_of upd_same) rfl ?_
    walk_at "vv"
    refine v_setL upd_same rfl ?_
    walk_at "vv"
    refine v_ixL (sqL_of upd_same) rfl ?_
    walk_at "vv"
    refine v_modN hk (fun r hr => ?_)
    exact q r _ hr (Sx.trans Sx.mut Sx.mut) ⟨_, _, _, upd_same⟩
def spo_Lpick (K : PySem.W.Frag) : Sp := sp2 fun v t H Q => ∃ (W p : Addr) (xs : List V), v = .ref W ∧ t = .ref p ∧ SqT K H p xs ∧ Wl [] H W ∧ 0 < xs.length ∧ xs.length < 1000 ∧ ∀ (x : V) (H' : Hp), x ∈ xs → Sx W H H' → Wl [] H' W → Q x H'
abbrev sp_Lpick := spo_Lpick
theorem ok_Lpick (T : Txt K mg) : FnG P w K mg base 2 T.f_Lpick T.fd_Lpick ["_law_spring_here", "_law_some"] (sp_Lpick K) := by
  refine okG T.F_Lpick sc_Lpick len2 (fun cdv A outer s H vs Q hgd hr h => ?_)
  obtain ⟨a0, a1, rfl, h⟩ := h
  refine ⟨_, (pss_one (ps_ret (pe_ix ix_tup (pv 1) (pe_callG (ok_Ldraw T) hgd (hr.mono (by decide)) (by rfl) T.g_Ldraw T.F_Ldraw.kp T.bi_Ldraw .nil (pa_cons (pv 0) (pa_cons (pe_callB cv_len (by rfl) T.b_len PySem.boot_len (pa_cons (pv 1) pa_nil)) pa_nil))) (fun _ _ => rfl)))), ?_⟩
  rw [show L2.start N_Lpick [a0, a1] = [some a0, some a1] from rfl]
  obtain ⟨W, p, xs, rfl, rfl, hT, hw, h0, h1, q⟩ := h
  walk_at "vv"
  refine v_lenT hT ?_
  walk_at "vv"
  refine c2 ⟨W, xs.length, rfl, rfl, hw, h0, by omega, fun r H1 hr s1 w1 => ?_⟩
  obtain ⟨x, hx, hat⟩ := atI_mem hr
  refine v_ixT (sqT_sx hT hw s1) hat ?_
  exact q x H1 hx s1 w1
def spo_Lodd (K : PySem.W.Frag) : Sp := sp1 fun v H Q => ∃ W : Addr, v = .ref W ∧ Wl [] H W ∧ ∀ (x : V) (d : D) (H' : Hp), Is (Old H) H' x d → d.mx ≤ 25 ∧ d.dep ≤ 2 → Sx W H H' → Wl [] H' W → Q x H'
abbrev sp_Lodd := spo_Lodd
theorem ok_Lodd (T : Txt K mg) : FnG P w K mg base 3 T.f_Lodd T.fd_Lodd ["_law_spring_here"] (sp_Lodd K) := by
  refine okG T.F_Lodd sc_Lodd len1 (fun cdv A outer s H vs Q hgd hr h => ?_)
  obtain ⟨a0, rfl, h⟩ := h
  refine ⟨_, (pss_one (ps_ret (pe_callG (ok_Lpick T) hgd (hr.mono (by decide)) (by rfl) T.g_Lpick T.F_Lpick.kp T.bi_Lpick .nil (pa_cons (pv 0) (pa_cons (pd_tup (pds_cons pd_non (pds_cons pd_bl (pds_cons pd_bl (pds_cons pd_int (pds_cons pd_int (pds_cons pd_neg (pds_cons pd_int (pds_cons pd_int (pds_cons pd_int (pds_cons pd_int (pds_cons pd_int (pds_cons pd_int (pds_cons (pd_pow (by decide) (by decide)) (pds_cons pd_str (pds_cons pd_str (pds_cons pd_str (pds_cons pd_str (pds_cons pd_str (pds_cons pd_str (pds_cons pd_str (pds_cons pd_str (pds_cons (pd_tup pds_nil (by decide)) (pds_cons (pd_tup (pds_cons pd_int pds_nil) (by decide)) (pds_cons (pd_tup (pds_cons pd_int pds_nil) (by decide)) (pds_cons (pd_tup (pds_cons pd_str pds_nil) (by decide)) (pds_cons (pd_tup (pds_cons pd_str pds_nil) (by decide)) (pds_cons (pd_tup (pds_cons pd_str (pds_cons pd_int pds_nil)) (by decide)) (pds_cons (pd_tup (pds_cons pd_str (pds_cons pd_int pds_nil)) (by decide)) (pds_cons (pd_tup (pds_cons pd_str (pds_cons pd_int (pds_cons pd_int pds_nil))) (by decide)) (pds_cons (pd_tup (pds_cons pd_str (pds_cons pd_int (pds_cons pd_str pds_nil))) (by decide)) (pds_cons (pd_tup (pds_cons pd_str (pds_cons pd_int (pds_cons pd_str pds_nil))) (by decide)) (pds_cons (pd_tup (pds_cons pd_str (pds_cons pd_neg (pds_cons pd_str pds_nil))) (by decide)) (pds_cons (pd_tup (pds_cons pd_str (pds_cons pd_int (pds_cons pd_int pds_nil))) (by decide)) (pds_cons (pd_tup (pds_cons pd_str (pds_cons pd_int (pds_cons pd_int pds_nil))) (by decide)) (pds_cons (pd_tup (pds_cons pd_str (pds_cons pd_int (pds_cons pd_int pds_nil))) (by decide)) (pds_cons (pd_tup (pds_cons pd_str (pds_cons pd_int pds_nil)) (by decide)) (pds_cons (pd_tup (pds_cons pd_str (pds_cons pd_int pds_nil)) (by decide)) (pds_cons (pd_tup (pds_cons pd_str (pds_cons pd_int pds_nil)) (by decide)) (pds_cons (pd_tup (pds_cons pd_str (pds_cons pd_int pds_nil)) (by decide)) (pds_cons (pd_tup (pds_cons pd_str (pds_cons pd_bl pds_nil)) (by decide)) (pds_cons (pd_lst pds_nil (by decide)) (pds_cons (pd_lst (pds_cons pd_int pds_nil) (by decide)) (pds_cons (pd_lst (pds_cons pd_str (pds_cons pd_int pds_nil)) (by decide)) (pds_cons pd_dic (pds_cons (pd_tup (pds_cons pd_bl pds_nil) (by decide)) (pds_cons (pd_tup (pds_cons pd_int pds_nil) (by decide)) (pds_cons (pd_rep (k := 16) (pd_tup (pds_cons pd_int pds_nil) (by decide)) pe_int (by decide) (by decide)) (pds_cons (pd_rep (k := 17) (pd_tup (pds_cons pd_int pds_nil) (by decide)) pe_int (by decide) (by decide)) (pds_cons (pd_tup (pds_cons (pd_tup pds_nil (by decide)) pds_nil) (by decide)) (pds_cons (pd_tup (pds_cons pd_str (pds_cons pd_int pds_nil)) (by decide)) (pds_cons (pd_tup (pds_cons pd_non (pds_cons pd_int pds_nil)) (by decide)) (pds_cons (pd_tup (pds_cons pd_str (pds_cons pd_int pds_nil)) (by decide)) pds_nil)))))))))))))))))))))))))))))))))))))))))))))))))))) (by decide)) pa_nil))))), ?_⟩
  rw [show L2.start N_Lodd [a0] = [some a0] from rfl]
  obtain ⟨W, rfl, hw, q⟩ := h
  walk_at "vv"
  refine v_D fun v H1 s1 i1 => ?_
  cases i1 with
  | tup e n i =>
    walk_at "vv"
    refine c2 ⟨W, _, _, rfl, rfl, sqT_of e, hw.of s1, by rw [i.len]; decide, by rw [i.len]; decide, fun x H2 hx s2 w2 => ?_⟩
    obtain ⟨d, hd, ix⟩ := i.mem hx
    exact q x d H2 (ix.sx hw s2) (all_of (P := fun d : D => d.mx ≤ 25 ∧ d.dep ≤ 2) (by decide +kernel) d hd) ((Sx.of s1).trans s2) w2
def spo_Lthings (K : PySem.W.Frag) : Sp := sp2 fun v w H Q => ∃ (W : Addr) (p : Nat), v = .ref W ∧ w = .int p ∧ p < MX ∧ Wl [] H W ∧ ∀ (l : Addr) (xs : List V) (ds : List D) (H' : Hp), H' l = some (.lst xs) → H l = none → IsAll (Old H) H' xs ds → xs.length = 12 → Sx W H H' → Wl [] H' W → Q (.ref l) H'
abbrev sp_Lthings := spo_Lthings
theorem ok_Lthings (T : Txt K mg) : FnG P w K mg base 4 T.f_Lthings T.fd_Lthings ["_law_spring_here", "_law_page"] (sp_Lthings K) := by
  refine okG T.F_Lthings sc_Lthings len2 (fun cdv A outer s H vs Q hgd hr h => ?_)
  obtain ⟨a0, a1, rfl, h⟩ := h
  refine ⟨_, (pss_one (ps_ret (pe_lst (pa_cons (pv 1) (pa_cons (pe_callG (ok_Lodd T) hgd (hr.mono (by decide)) (by rfl) T.g_Lodd T.F_Lodd.kp T.bi_Lodd .nil (pa_cons (pv 0) pa_nil)) (pa_cons (pe_callG (ok_Lodd T) hgd (hr.mono (by decide)) (by rfl) T.g_Lodd T.F_Lodd.kp T.bi_Lodd .nil (pa_cons (pv 0) pa_nil)) (pa_cons (pe_op op_shl pe_int pe_int) (pa_cons (pe_op op_sub (pe_op op_shl pe_int pe_int) pe_int) (pa_cons (pe_un un_neg pe_int) (pa_cons (pe_un un_neg (pv 1)) (pa_cons (pe_op op_add (pv 1) (pe_op op_shl pe_int pe_int)) (pa_cons (pe_lst (pa_cons (pv 1) pa_nil)) (pa_cons (pe_tup (pa_cons (pv 1) pa_nil)) (pa_cons (pe_callTy call_str_int (by rfl) T.b_str (by decide +kernel) (pa_cons (pv 1) pa_nil)) (pa_cons (pe_cmpR op_eq (pv 1) pe_int (nomark _)) pa_nil))))))))))))))), ?_⟩
  rw [show L2.start N_Lthings [a0, a1] = [some a0, some a1] from rfl]
  obtain ⟨W, p, rfl, rfl, hp, hw, q⟩ := h
  walk_at "vv"
  refine c1 ⟨W, rfl, hw, fun x1 d1 H1 i1 _ s1 w1 => ?_⟩
  walk_at "vv"
  refine c1 ⟨W, rfl, w1, fun x2 d2 H2 i2 _ s2 w2 => ?_⟩
  walk_at "vv"
  refine a_lst (by simp) fun p3 H3 hp3 s3 e3 => ?_
  walk_at "vv"
  refine a_tup (by simp) fun p4 H4 hp4 s4 e4 => ?_
  walk_at "vv"
  refine ⟨_, rfl, ?_, ?_⟩
  · have := MX_small
    rw [Int.natAbs_natCast]
    rcases Nat.eq_zero_or_pos p with h | h
    · subst h; decide
    · exact (Nat.log2_lt (by omega)).mpr (by omega)
  walk_at "vv"
  refine a_lst (by simp) fun p5 H5 hp5 s5 e5 => ?_
  have sx2 := s1.trans s2
  have sx4 := sx2.trans ((Sx.of s3).trans (Sx.of s4))
  have sx := sx4.trans (Sx.of s5)
  have w4 := (w2.of s3).of s4
  have n5 : H p5 = none := sx4.free hp5 (w4.ne hp5)
  have o3 : ¬ Old H p3 := fun z => old_sx sx2 w2 _ z hp3
  have o4 : ¬ Old H p4 := fun z => old_sx (sx2.trans (Sx.of s3)) (w2.of s3) _ z hp4
  have s25 : Same H2 H5 := fun b o e => s5 _ _ (s4 _ _ (s3 _ _ e))
  exact q p5 _ _ H5 e5 n5 (.cons (.int _) (.cons ((i1.sx hw s2).same s25) (.cons ((i2.weak (old_sx s1 w1)).same s25) (.cons (.int _) (.cons (.int _) (.cons (.int _) (.cons (.int _) (.cons (.int _) (.cons (.lst (s5 _ _ (s4 _ _ e3)) o3 (.cons (.int _) .nil)) (.cons (.tup (s5 _ _ e4) o4 (.cons (.int _) .nil)) (.cons (.str _) (.cons (.bl _) .nil)))))))))))) (by simp) sx (w4.of s5)
def spo_Lones (K : PySem.W.Frag) : Sp := sp1 fun v H Q => ∃ n : Nat, v = .int n ∧ Q (.int (ones n : Nat)) H
abbrev sp_Lones := spo_Lones
theorem ok_Lones (T : Txt K mg) : FnG P w K mg base 1 T.f_Lones T.fd_Lones ["_law_number"] (sp_Lones K) := by
  refine okG T.F_Lones sc_Lones len1 (fun cdv A outer s H vs Q hgd hr h => ?_)
  obtain ⟨a0, rfl, h⟩ := h
  refine ⟨_, (pss_cons (ps_set (i := 1) sc_Lones.nd rfl (.inl rfl) pe_int)
    (pss_cons (ps_while PassesOwn.never (pt_cmpR op_gt (pv 0) pe_int (nomark _)) (pss_cons (ps_set (i := 0) sc_Lones.nd rfl (.inl rfl) (pe_op op_and (pv 0) (pe_op op_sub (pv 0) pe_int)))
      (pss_one (ps_set (i := 1) sc_Lones.nd rfl (.inl rfl) (pe_op op_add (pv 1) pe_int)))))
    (pss_one (ps_ret (pv 1))))), ?_⟩
  rw [show L2.start N_Lones [a0] = [some a0, none] from rfl]
  obtain ⟨n, rfl, q⟩ := h
  walk_at "vv"
  refine v_while ⟨fun m σ H' => ∃ t : Nat, σ = [some (.int m), some (.int t)] ∧ t + ones m = ones n ∧ H' = H, ⟨n, 0, rfl, by omega, rfl⟩, ?_⟩
  rintro k σ H' ⟨t, rfl, ht, rfl⟩
  walk_at "vv"
  refine v_ifd (fun c => ?_) (fun c => ?_)
  · have hk : 0 < k := by omega
    refine ⟨fun σ' H'' => σ' = [some (.int ((k &&& (k - 1) : Nat) : Int)), some (.int ((t + 1 : Nat) : Int))] ∧ H'' = H', ?_, ?_⟩
    · rintro σ' H'' ⟨rfl, rfl⟩
      exact ⟨_, and_lt hk, _, rfl, by have := ones_drop hk; omega, rfl⟩
    · walk_at "vv"
      rw [show (k : Int) - 1 = ((k - 1 : Nat) : Int) by omega, bA]
      exact ⟨rfl, rfl⟩
  · have hk : k = 0 := by omega
    subst hk
    dsimp only
    walk_at "vv"
    rw [show ones n = t by simp [ones] at ht; omega] at q
    exact q
def spo_Lword (K : PySem.W.Frag) : Sp := sp1 fun v H Q => ∃ (p : Addr) (ns : List Nat), v = .ref p ∧ SqT K H p (ns.map vN) ∧ ns.length ≤ 31 ∧ (∀ n ∈ ns, n < 65536) ∧ Q (.int (wordD (dataOf ns) : Nat)) H
abbrev sp_Lword := spo_Lword
theorem ok_Lword (T : Txt K mg) : FnG P w K mg base 2 T.f_Lword T.fd_Lword ["_law_numbers_here"] (sp_Lword K) := by
  refine okG T.F_Lword sc_Lword len1 (fun cdv A outer s H vs Q hgd hr h => ?_)
  obtain ⟨a0, rfl, h⟩ := h
  refine ⟨_, (pss_cons (ps_set (i := 1) sc_Lword.nd rfl (.inl rfl) (pe_callB cv_len (by rfl) T.b_len PySem.boot_len (pa_cons (pv 0) pa_nil)))
    (pss_cons (ps_for PassesOwn.never rfl (pi_tup (pv 0)) (pg_name (i := 2) sc_Lword.nd rfl (.inl rfl))
      (pss_one (ps_set (i := 1) sc_Lword.nd rfl (.inl rfl) (pe_op op_add (pe_op op_mul (pv 1) pe_int) (pv 2)))))
    (pss_cons (ps_set (i := 1) sc_Lword.nd rfl (.inl rfl) (pe_op op_shlW (pv 1) (pe_op op_mul pe_int (pe_op op_sub pe_int (pe_callB cv_len (by rfl) T.b_len PySem.boot_len (pa_cons (pv 0) pa_nil))))))
    (pss_one (ps_ret (pe_op op_sub (pe_op op_add (pe_op op_mul (pv 1) pe_int) pe_int) (pe_callG (ok_Lones T) hgd (hr.mono (by decide)) (by rfl) T.g_Lones T.F_Lones.kp T.bi_Lones .nil (pa_cons (pv 1) pa_nil)))))))), ?_⟩
  rw [show L2.start N_Lword [a0] = [some a0, none, none] from rfl]
  obtain ⟨p, ns, rfl, hT, hl, hn, q⟩ := h
  walk_at "vv"
  refine v_lenT hT ?_
  walk_at "vv"
  refine ⟨⟨_, hT⟩, ?_⟩
  rw [List.length_map]
  refine for_tup (xs := ns.map vN) (fun i σ H' => ∃ y : Option V, σ = [some (.ref p), some (.int (((ns.take i).foldl (fun d x => d * 65536 + x) ns.length : Nat) : Int)), y] ∧ H' = H) ⟨none, rfl, rfl⟩ ?_ ?_ ?_
  · rintro i σ H' _ ⟨y, rfl, rfl⟩
    exact hT
  · rintro i x σ H' hx ⟨y, rfl, rfl⟩
    obtain ⟨n, hn2, rfl⟩ := vN_get hx
    walk_at "vv"
    refine ⟨some (vN n), ?_, rfl⟩
    rw [fold_take hn2]
    rfl
  · rintro σ H' ⟨y, rfl, rfl⟩
    rw [List.length_map, List.take_length]
    dsimp only
    walk_at "vv"
    refine v_lenT hT ?_
    walk_at "vv"
    rw [List.length_map, show (16 : Int) * (31 - (ns.length : Int)) = ((16 * (31 - ns.length) : Nat) : Int) by omega]
    have hf := fold_big hn hl
    refine v_I (shl_okN (d := fold ns) hf (by omega)) ?_
    rw [shlN, show List.foldl (fun d x => d * 65536 + x) ns.length ns * 2 ^ (16 * (31 - ns.length)) = dataOf ns from rfl]
    walk_at "vv"
    have hd := dataOf_lt hn hl
    refine c1 ⟨dataOf ns, rfl, ?_⟩
    walk_at "vv"
    have ho := ones_le 512 _ hd
    rw [show (((dataOf ns : Nat) : Int) * 1024 + 512 - ((ones (dataOf ns) : Nat) : Int)) = ((wordD (dataOf ns) : Nat) : Int) by unfold wordD; omega]
    exact q
def spo_Lwhole (K : PySem.W.Frag) : Sp := sp1 fun v H Q => ∃ d : Nat, v = .int d ∧ d < 2 ^ 512 ∧ Q (.int (wordD d : Nat)) H
abbrev sp_Lwhole := spo_Lwhole
theorem ok_Lwhole (T : Txt K mg) : FnG P w K mg base 2 T.f_Lwhole T.fd_Lwhole ["_law_data_here"] (sp_Lwhole K) := by
  refine okG T.F_Lwhole sc_Lwhole len1 (fun cdv A outer s H vs Q hgd hr h => ?_)
  obtain ⟨a0, rfl, h⟩ := h
  refine ⟨_, (pss_one (ps_ret (pe_op op_sub (pe_op op_add (pe_op op_mul (pv 0) pe_int) pe_int) (pe_callG (ok_Lones T) hgd (hr.mono (by decide)) (by rfl) T.g_Lones T.F_Lones.kp T.bi_Lones .nil (pa_cons (pv 0) pa_nil))))), ?_⟩
  rw [show L2.start N_Lwhole [a0] = [some a0] from rfl]
  obtain ⟨d, rfl, hd, q⟩ := h
  walk_at "vv"
  refine c1 ⟨d, rfl, ?_⟩
  walk_at "vv"
  have ho := ones_le 512 _ hd
  rw [show ((d : Int) * 1024 + 512 - ((ones d : Nat) : Int)) = ((wordD d : Nat) : Int) by unfold wordD; omega]
  exact q
def spo_Lrow (K : PySem.W.Frag) : Sp := sp1 fun v H Q => ∃ W : Addr, v = .ref W ∧ Wl [] H W ∧ ∀ (l : Addr) (ns : List Nat) (H' : Hp), ns.length ≤ 31 → (∀ n ∈ ns, n < 65536) → H' l = some (.tup (ns.map vN)) → Sx W H H' → Wl [] H' W → Q (.ref l) H'
abbrev sp_Lrow := spo_Lrow
theorem ok_Lrow (T : Txt K mg) : FnG P w K mg base 3 T.f_Lrow T.fd_Lrow ["_law_spring_here"] (sp_Lrow K) := by
  refine okG T.F_Lrow sc_Lrow len1 (fun cdv A outer s H vs Q hgd hr h => ?_)
  obtain ⟨a0, rfl, h⟩ := h
  refine ⟨_, (pss_cons (ps_set (i := 1) sc_Lrow.nd rfl (.inl rfl) (pe_lst pa_nil))
    (pss_cons (ps_for PassesOwn.never rfl (pi_range1 rfl T.b_range (pa_cons (pe_callG (ok_Lpick T) hgd (hr.mono (by decide)) (by rfl) T.g_Lpick T.F_Lpick.kp T.bi_Lpick .nil (pa_cons (pv 0) (pa_cons (pe_tup (pa_cons pe_int (pa_cons pe_int (pa_cons pe_int (pa_cons pe_int (pa_cons pe_int (pa_cons pe_int (pa_cons pe_int (pa_cons pe_int (pa_cons pe_int (pa_cons pe_int (pa_cons pe_int (pa_cons (pe_callG (ok_Ldraw T) hgd (hr.mono (by decide)) (by rfl) T.g_Ldraw T.F_Ldraw.kp T.bi_Ldraw .nil (pa_cons (pv 0) (pa_cons pe_int pa_nil))) pa_nil))))))))))))) pa_nil))) pa_nil)) (pg_name (i := 2) sc_Lrow.nd rfl (.inl rfl))
      (pss_one (ps_expr (pe_bm PySem.F.plainAttrs_list PySem.F.slot_list_append PySem.F.type_list_append mt_append (pv 1) (pa_cons (pe_callG (ok_Lpick T) hgd (hr.mono (by decide)) (by rfl) T.g_Lpick T.F_Lpick.kp T.bi_Lpick .nil (pa_cons (pv 0) (pa_cons (pe_tup (pa_cons pe_int (pa_cons pe_int (pa_cons pe_int (pa_cons (pe_callG (ok_Ldraw T) hgd (hr.mono (by decide)) (by rfl) T.g_Ldraw T.F_Ldraw.kp T.bi_Ldraw .nil (pa_cons (pv 0) (pa_cons pe_int pa_nil))) (pa_cons (pe_callG (ok_Ldraw T) hgd (hr.mono (by decide)) (by rfl) T.g_Ldraw T.F_Ldraw.kp T.bi_Ldraw .nil (pa_cons (pv 0) (pa_cons pe_int pa_nil))) pa_nil)))))) pa_nil))) pa_nil)))))
    (pss_one (ps_ret (pe_callTy cv_tuple (by rfl) T.b_tuple (by decide +kernel) (pa_cons (pv 1) pa_nil)))))), ?_⟩
  rw [show L2.start N_Lrow [a0] = [some a0, none, none] from rfl]
  obtain ⟨W, rfl, hw, q⟩ := h
  walk_at "vv"
  refine a_lst (by simp) fun p H1 hp s1 e1 => ?_
  have w1 : Wl [] H1 W := hw.of s1
  have np : p ≠ W := hw.ne hp
  walk_at "vv"
  refine c2 ⟨W, 32, rfl, rfl, w1, by decide, by decide, fun r H2 hr s2 w2 => ?_⟩
  walk_at "vv"
  refine a_tup (by simp) fun pt H3 hpt s3 e3 => ?_
  walk_at "vv"
  refine c2 ⟨W, pt, _, rfl, rfl, sqT_of e3, w2.of s3, by simp, by simp, fun x H4 hx s4 w4 => ?_⟩
  obtain ⟨n, hn, rfl⟩ : ∃ n : Nat, n ≤ 31 ∧ x = V.int (n : Int) := small_of (ks := [0, 1, 2, 3, 5, 9, 12, 24, 30, 31, 31, r]) (by intro k hk; simp at hk; omega) hx
  walk_at "vv"
  refine ⟨n, rfl, by omega, by omega, ?_⟩
  refine for_range (lo := 0) (n := n) (fun i σ H' => ∃ (ns : List Nat) (y : Option V), σ = [some (.ref W), some (.ref p), y] ∧ (∀ m ∈ ns, m < 65536) ∧ ns.length = i ∧ H' p = some (.lst (ns.map vN)) ∧ Sx W H H' ∧ Wl [] H' W)
    ⟨[], none, rfl, by simp, rfl, s4 _ _ np (s3 _ _ (s2 _ _ np e1)), (Sx.of s1).trans (s2.trans ((Sx.of s3).trans s4)), w4⟩ ?_ ?_
  · rintro i σ H5 hi ⟨ns, y, rfl, hm, hl, e5, s5, w5⟩
    walk_at "vv"
    refine ⟨tyL e5, ?_⟩
    walk_at "vv"
    refine c2 ⟨W, 65536, rfl, rfl, w5, by decide, by decide, fun r1 H6 hr1 s6 w6 => ?_⟩
    walk_at "vv"
    refine c2 ⟨W, 9, rfl, rfl, w6, by decide, by decide, fun r2 H7 hr2 s7 w7 => ?_⟩
    walk_at "vv"
    refine a_tup (by simp) fun pu H8 hpu s8 e8 => ?_
    walk_at "vv"
    refine c2 ⟨W, pu, _, rfl, rfl, sqT_of e8, w7.of s8, by simp, by simp, fun x H9 hx s9 w9 => ?_⟩
    obtain ⟨u, hu, rfl⟩ : ∃ n : Nat, n ≤ 65535 ∧ x = V.int (n : Int) := small_of (ks := [0, 1, 65535, r1, r2]) (by intro k hk; simp at hk; omega) hx
    walk_at "vv"
    refine v_append (s9 _ _ np (s8 _ _ (s7 _ _ np (s6 _ _ np e5)))) (by rw [List.length_map]; omega) ?_
    refine ⟨ns ++ [u], _, rfl, ?_, by rw [List.length_append, hl]; rfl, by rw [upd_same, List.map_append]; rfl, ?_, ?_⟩
    · intro m hm2
      rcases List.mem_append.mp hm2 with h | h
      · exact hm m h
      · rw [List.mem_singleton.mp h]; omega
    · exact (s5.trans (s6.trans (s7.trans ((Sx.of s8).trans s9)))).own hp
    · obtain ⟨x, y, z, ew⟩ := w9
      exact ⟨x, y, z, by rw [upd_ne np.symm]; exact ew⟩
  · rintro σ H5 ⟨ns, y, rfl, hm, hl, e5, s5, w5⟩
    dsimp only
    walk_at "vv"
    refine a_tupL (sqL_of e5) fun l H6 hl6 s6 e6 => ?_
    exact q l ns H6 (by omega) hm e6 (s5.trans (Sx.of s6)) (w5.of s6)
def spo_Ldata (K : PySem.W.Frag) : Sp := sp1 fun v H Q => ∃ W : Addr, v = .ref W ∧ Wl [] H W ∧ ∀ (d : Nat) (H' : Hp), d < 2 ^ 512 → Sx W H H' → Wl [] H' W → Q (.int d) H'
abbrev sp_Ldata := spo_Ldata
theorem ok_Ldata (T : Txt K mg) : FnG P w K mg base 2 T.f_Ldata T.fd_Ldata ["_law_spring_here"] (sp_Ldata K) := by
  refine okG T.F_Ldata sc_Ldata len1 (fun cdv A outer s H vs Q hgd hr h => ?_)
  obtain ⟨a0, rfl, h⟩ := h
  refine ⟨_, (pss_cons (ps_par (i := 1) (j := 2) (by rfl) sc_Ldata.nd rfl rfl (by decide) rfl rfl (pa_cons (pe_callG (ok_Ldraw T) hgd (hr.mono (by decide)) (by rfl) T.g_Ldraw T.F_Ldraw.kp T.bi_Ldraw .nil (pa_cons (pv 0) (pa_cons pe_int pa_nil))) (pa_cons pe_int pa_nil)) (by rfl))
    (pss_cons (ps_if (pt_cmpR op_eq (pv 1) pe_int (nomark _)) (pss_cons (ps_for PassesOwn.never rfl (pi_range1 rfl T.b_range (pa_cons pe_int pa_nil)) (pg_name (i := 3) sc_Ldata.nd rfl (.inl rfl))
        (pss_one (ps_set (i := 2) sc_Ldata.nd rfl (.inl rfl) (pe_op op_add (pe_op op_mul (pv 2) pe_int) (pe_callG (ok_Ldraw T) hgd (hr.mono (by decide)) (by rfl) T.g_Ldraw T.F_Ldraw.kp T.bi_Ldraw .nil (pa_cons (pv 0) (pa_cons pe_int pa_nil)))))))
      (pss_one (ps_ret (pv 2)))) pss_nil)
    (pss_cons (ps_for PassesOwn.never rfl (pi_range1 rfl T.b_range (pa_cons (pe_callG (ok_Ldraw T) hgd (hr.mono (by decide)) (by rfl) T.g_Ldraw T.F_Ldraw.kp T.bi_Ldraw .nil (pa_cons (pv 0) (pa_cons pe_int pa_nil))) pa_nil)) (pg_name (i := 3) sc_Ldata.nd rfl (.inl rfl))
      (pss_one (ps_set (i := 2) sc_Ldata.nd rfl (.inl rfl) (pe_op op_or (pv 2) (pe_op op_shl pe_int (pe_callG (ok_Ldraw T) hgd (hr.mono (by decide)) (by rfl) T.g_Ldraw T.F_Ldraw.kp T.bi_Ldraw .nil (pa_cons (pv 0) (pa_cons pe_int pa_nil))))))))
    (pss_one (ps_ret (pe_ifExp (pt_cmpR op_eq (pv 1) pe_int (nomark _)) (pe_op op_sub (pe_op op_sub (pe_op op_shl pe_int pe_int) pe_int) (pv 2)) (pv 2))))))), ?_⟩
  rw [show L2.start N_Ldata [a0] = [some a0, none, none, none] from rfl]
  obtain ⟨W, rfl, hw, q⟩ := h
  walk_at "vv"
  refine c2 ⟨W, 4, rfl, rfl, hw, by decide, by decide, fun way H1 hway s1 w1 => ?_⟩
  walk_at "vv"
  refine v_ifd (fun c => ?_) (fun c => ?_)
  · walk_at "vv"
    refine ⟨16, rfl, by decide, by decide, ?_⟩
    refine for_range (lo := 0) (n := 16) (fun i σ H' => ∃ (d : Nat) (y : Option V), d < 2 ^ (32 * i) ∧ σ = [some (.ref W), some (.int way), some (.int d), y] ∧ Sx W H H' ∧ Wl [] H' W) ⟨0, none, by decide, rfl, s1, w1⟩ ?_ ?_
    · rintro i σ H2 hi ⟨d, y, hd, rfl, s2, w2⟩
      walk_at "vv"
      refine c2 ⟨W, 4294967296, rfl, rfl, w2, by decide, by decide, fun r H3 hr s3 w3 => ?_⟩
      walk_at "vv"
      refine ⟨d * 4294967296 + r, some (V.int (0 + (i : Int))), ?_, by rw [Int.natCast_add, Int.natCast_mul]; rfl, s2.trans s3, w3⟩
      rw [show 32 * (i + 1) = 32 * i + 32 by omega, Nat.pow_add]
      have := Nat.mul_le_mul_right 4294967296 (show d + 1 ≤ 2 ^ (32 * i) by omega)
      rw [show (2 : Nat) ^ 32 = 4294967296 by decide]
      omega
    · rintro σ H2 ⟨d, y, hd, rfl, s2, w2⟩
      dsimp only
      walk_at "vv"
      exact q d H2 hd s2 w2
  · walk_at "vv"
    refine c2 ⟨W, 7, rfl, rfl, w1, by decide, by decide, fun n H2 hn s2 w2 => ?_⟩
    walk_at "vv"
    refine ⟨n, rfl, by omega, by omega, ?_⟩
    refine for_range (lo := 0) (n := n) (fun i σ H' => ∃ (d : Nat) (y : Option V), d < 2 ^ 512 ∧ σ = [some (.ref W), some (.int way), some (.int d), y] ∧ Sx W H H' ∧ Wl [] H' W) ⟨0, none, Nat.pow_pos (by decide), rfl, s1.trans s2, w2⟩ ?_ ?_
    · rintro i σ H3 hi ⟨d, y, hd, rfl, s3, w3⟩
      walk_at "vv"
      refine c2 ⟨W, 512, rfl, rfl, w3, by decide, by decide, fun b H4 hb s4 w4 => ?_⟩
      refine v_I ⟨by omega, by omega, by decide⟩ ?_
      walk_at "vv"
      rw [shl1, bO]
      exact ⟨_, _, lt_or (n := 512) hd (lt_bit hb), rfl, s3.trans s4, w4⟩
    · rintro σ H3 ⟨d, y, hd, rfl, s3, w3⟩
      dsimp only
      walk_at "vv"
      refine v_ifd (fun c => ?_) (fun c => ?_)
      · walk_at "vv"
        rw [full512, show (((2 ^ 512 - 1 : Nat) : Int) - (d : Int)) = ((2 ^ 512 - 1 - d : Nat) : Int) by generalize (2 : Nat) ^ 512 = z at hd ⊢; omega]
        exact q _ H3 (by generalize (2 : Nat) ^ 512 = z at hd ⊢; omega) s3 w3
      · walk_at "vv"
        exact q d H3 hd s3 w3
def spo_Lbits (K : PySem.W.Frag) : Sp := sp1 fun v H Q => ∃ W : Addr, v = .ref W ∧ Wl [] H W ∧ ∀ (m : Nat) (H' : Hp), m < MX → Sx W H H' → Wl [] H' W → Q (.int m) H'
abbrev sp_Lbits := spo_Lbits
theorem ok_Lbits (T : Txt K mg) : FnG P w K mg base 2 T.f_Lbits T.fd_Lbits ["_law_spring_here"] (sp_Lbits K) := by
  refine okG T.F_Lbits sc_Lbits len1 (fun cdv A outer s H vs Q hgd hr h => ?_)
  obtain ⟨a0, rfl, h⟩ := h
  refine ⟨_, (pss_cons (ps_set (i := 1) sc_Lbits.nd rfl (.inl rfl) (pe_callG (ok_Ldraw T) hgd (hr.mono (by decide)) (by rfl) T.g_Ldraw T.F_Ldraw.kp T.bi_Ldraw .nil (pa_cons (pv 0) (pa_cons pe_int pa_nil))))
    (pss_cons (ps_if (pt_cmpR op_eq (pv 1) pe_int (nomark _)) (pss_one (ps_ret (pe_op op_sub (pe_op op_shl pe_int pe_int) pe_int))) pss_nil)
    (pss_cons (ps_set (i := 2) sc_Lbits.nd rfl (.inl rfl) pe_int)
    (pss_cons (ps_for PassesOwn.never rfl (pi_range1 rfl T.b_range (pa_cons (pe_ix ix_tup (pe_tup (pa_cons pe_int (pa_cons pe_int (pa_cons pe_int (pa_cons pe_int pa_nil))))) (pv 1) (fun _ _ => rfl)) pa_nil)) (pg_name (i := 3) sc_Lbits.nd rfl (.inl rfl))
      (pss_one (ps_set (i := 2) sc_Lbits.nd rfl (.inl rfl) (pe_op op_or (pv 2) (pe_op op_shl pe_int (pe_callG (ok_Ldraw T) hgd (hr.mono (by decide)) (by rfl) T.g_Ldraw T.F_Ldraw.kp T.bi_Ldraw .nil (pa_cons (pv 0) (pa_cons pe_int pa_nil))))))))
    (pss_one (ps_ret (pe_ifExp (pt_cmpR op_lt (pv 1) pe_int (nomark _)) (pv 2) (pe_op op_modN (pe_callTy cv_int (by rfl) T.b_int (by decide +kernel) (pa_cons (pe_op op_add (pe_op op_mul (pe_op op_mulW (pv 2) (pv 2)) pe_int) (pv 2)) pa_nil)) (pe_op op_shl pe_int pe_int))))))))), ?_⟩
  rw [show L2.start N_Lbits [a0] = [some a0, none, none, none] from rfl]
  obtain ⟨W, rfl, hw, q⟩ := h
  have hMX := MX_pos
  walk_at "vv"
  refine c2 ⟨W, 4, rfl, rfl, hw, by decide, by decide, fun br H1 hbr s1 w1 => ?_⟩
  walk_at "vv"
  refine v_ifd (fun c => ?_) (fun c => ?_)
  · walk_at "vv"
    rw [full_eq]
    exact q FL H1 (by omega) s1 w1
  · walk_at "vv"
    refine a_tup (by simp) fun p H2 hp s2 e2 => ?_
    walk_at "vv"
    obtain ⟨n, hn, ha⟩ : ∃ n : Nat, n ≤ 9 ∧ atI [V.int 1, V.int 1, V.int 3, V.int 9] (br : Int) = some (V.int (n : Int)) := by
      have hc : br = 1 ∨ br = 2 ∨ br = 3 := by omega
      rcases hc with rfl | rfl | rfl
      · exact ⟨1, by omega, rfl⟩
      · exact ⟨3, by omega, rfl⟩
      · exact ⟨9, by omega, rfl⟩
    refine v_ixT (sqT_of e2) ha ?_
    walk_at "vv"
    refine ⟨n, rfl, by omega, by omega, ?_⟩
    refine for_range (lo := 0) (n := n) (fun i σ H' => ∃ (m : Nat) (y : Option V), m < MX ∧ σ = [some (.ref W), some (.int br), some (.int m), y] ∧ Sx W H H' ∧ Wl [] H' W)
      ⟨0, none, by omega, rfl, s1.trans (Sx.of s2), w1.of s2⟩ ?_ ?_
    · rintro i σ H3 hi ⟨m, y, hm, rfl, s3, w3⟩
      walk_at "vv"
      refine c2 ⟨W, 522, rfl, rfl, w3, by decide, by decide, fun b H4 hb s4 w4 => ?_⟩
      refine v_I ⟨by omega, by omega, by decide⟩ ?_
      walk_at "vv"
      rw [shl1, bO]
      exact ⟨_, _, lt_or (n := 522) hm (pow522 hb), rfl, s3.trans s4, w4⟩
    · rintro σ H3 ⟨m, y, hm, rfl, s3, w3⟩
      dsimp only
      walk_at "vv"
      refine v_ifd (fun c => ?_) (fun c => ?_)
      · walk_at "vv"
        exact q m H3 hm s3 w3
      · walk_at "vv"
        refine v_I (wide_mul (a := 522) (b := 522) ?_ ?_ (by decide) (by decide) (by decide)) ?_
        · rw [Int.natAbs_natCast]; exact hm
        · rw [Int.natAbs_natCast]; exact hm
        · walk_at "vv"
          rw [sh_eq]
          have hz := mod_ge (i := (m : Int) * m * 40503 + m) (j := ((MX : Nat) : Int)) (by omega)
          obtain ⟨r, hr⟩ := natOf hz.1
          rw [hr] at hz ⊢
          exact q r H3 (by omega) s3 w3
def spo_Lany (K : PySem.W.Frag) : Sp := sp1 fun v H Q => ∃ W : Addr, v = .ref W ∧ Wl [] H W ∧ ∀ (p : Nat) (H' : Hp), p < MX → Sx W H H' → Wl [] H' W → Q (.int p) H'
abbrev sp_Lany := spo_Lany
theorem ok_Lany (T : Txt K mg) : FnG P w K mg base 4 T.f_Lany T.fd_Lany ["_law_spring_here"] (sp_Lany K) := by
  refine okG T.F_Lany sc_Lany len1 (fun cdv A outer s H vs Q hgd hr h => ?_)
  obtain ⟨a0, rfl, h⟩ := h
  refine ⟨_, (pss_cons (ps_set (i := 1) sc_Lany.nd rfl (.inl rfl) (pe_callG (ok_Ldraw T) hgd (hr.mono (by decide)) (by rfl) T.g_Ldraw T.F_Ldraw.kp T.bi_Ldraw .nil (pa_cons (pv 0) (pa_cons pe_int pa_nil))))
    (pss_cons (ps_if (pt_cmpR op_lt (pv 1) pe_int (nomark _)) (pss_one (ps_ret (pe_callG (ok_Lword T) hgd (hr.mono (by decide)) (by rfl) T.g_Lword T.F_Lword.kp T.bi_Lword .nil (pa_cons (pe_callG (ok_Lrow T) hgd (hr.mono (by decide)) (by rfl) T.g_Lrow T.F_Lrow.kp T.bi_Lrow .nil (pa_cons (pv 0) pa_nil)) pa_nil)))) pss_nil)
    (pss_cons (ps_if (pt_cmpR op_eq (pv 1) pe_int (nomark _)) (pss_one (ps_ret (pe_callG (ok_Lwhole T) hgd (hr.mono (by decide)) (by rfl) T.g_Lwhole T.F_Lwhole.kp T.bi_Lwhole .nil (pa_cons (pe_callG (ok_Ldata T) hgd (hr.mono (by decide)) (by rfl) T.g_Ldata T.F_Ldata.kp T.bi_Ldata .nil (pa_cons (pv 0) pa_nil)) pa_nil)))) pss_nil)
    (pss_cons (ps_if (pt_cmpR op_eq (pv 1) pe_int (nomark _)) (pss_one (ps_ret (pe_op op_sub (pe_op op_shl pe_int pe_int) pe_int))) pss_nil)
    (pss_cons (ps_if (pt_cmpR op_eq (pv 1) pe_int (nomark _)) (pss_one (ps_ret (pe_op op_or (pe_callG (ok_Lwhole T) hgd (hr.mono (by decide)) (by rfl) T.g_Lwhole T.F_Lwhole.kp T.bi_Lwhole .nil (pa_cons (pe_callG (ok_Ldata T) hgd (hr.mono (by decide)) (by rfl) T.g_Ldata T.F_Ldata.kp T.bi_Ldata .nil (pa_cons (pv 0) pa_nil)) pa_nil)) (pe_callG (ok_Lbits T) hgd (hr.mono (by decide)) (by rfl) T.g_Lbits T.F_Lbits.kp T.bi_Lbits .nil (pa_cons (pv 0) pa_nil))))) pss_nil)
    (pss_cons (ps_if (pt_cmpR op_eq (pv 1) pe_int (nomark _)) (pss_one (ps_ret (pe_op op_sub (pe_op op_sub (pe_op op_shl pe_int pe_int) pe_int) (pe_op op_shl pe_int (pe_callG (ok_Ldraw T) hgd (hr.mono (by decide)) (by rfl) T.g_Ldraw T.F_Ldraw.kp T.bi_Ldraw .nil (pa_cons (pv 0) (pa_cons pe_int pa_nil))))))) pss_nil)
    (pss_one (ps_ret (pe_op op_add (pe_op op_mul (pe_callG (ok_Ldata T) hgd (hr.mono (by decide)) (by rfl) T.g_Ldata T.F_Ldata.kp T.bi_Ldata .nil (pa_cons (pv 0) pa_nil)) pe_int) (pe_callG (ok_Ldraw T) hgd (hr.mono (by decide)) (by rfl) T.g_Ldraw T.F_Ldraw.kp T.bi_Ldraw .nil (pa_cons (pv 0) (pa_cons pe_int pa_nil)))))))))))), ?_⟩
  rw [show L2.start N_Lany [a0] = [some a0, none] from rfl]
  obtain ⟨W, rfl, hw, q⟩ := h
  have hMX := MX_pos
  walk_at "vv"
  refine c2 ⟨W, 7, rfl, rfl, hw, by decide, by decide, fun way H1 hway s1 w1 => ?_⟩
  walk_at "vv"
  refine v_ifd (fun c => ?_) (fun c => ?_)
  · walk_at "vv"
    refine c1 ⟨W, rfl, w1, fun l ns H2 hl hn e2 s2 w2 => ?_⟩
    walk_at "vv"
    exact c1 ⟨l, ns, rfl, sqT_of e2, hl, hn, q _ H2 (word_lt (dataOf_lt hn hl)) (s1.trans s2) w2⟩
  walk_at "vv"
  refine v_ifd (fun d2 => ?_) (fun d2 => ?_)
  · walk_at "vv"
    refine c1 ⟨W, rfl, w1, fun d H2 hd s2 w2 => ?_⟩
    walk_at "vv"
    exact c1 ⟨d, rfl, hd, q _ H2 (word_lt hd) (s1.trans s2) w2⟩
  walk_at "vv"
  refine v_ifd (fun d3 => ?_) (fun d3 => ?_)
  · walk_at "vv"
    rw [full_eq]
    exact q FL H1 (by omega) s1 w1
  walk_at "vv"
  refine v_ifd (fun d4 => ?_) (fun d4 => ?_)
  · walk_at "vv"
    refine c1 ⟨W, rfl, w1, fun d H2 hd s2 w2 => ?_⟩
    walk_at "vv"
    refine c1 ⟨d, rfl, hd, ?_⟩
    walk_at "vv"
    refine c1 ⟨W, rfl, w2, fun m H3 hm s3 w3 => ?_⟩
    walk_at "vv"
    rw [bO]
    exact q _ H3 (lt_or (n := 522) (word_lt hd) hm) (s1.trans (s2.trans s3)) w3
  walk_at "vv"
  refine v_ifd (fun d5 => ?_) (fun d5 => ?_)
  · walk_at "vv"
    refine c2 ⟨W, 522, rfl, rfl, w1, by decide, by decide, fun b H2 hb s2 w2 => ?_⟩
    refine v_I ⟨by omega, by omega, by decide⟩ ?_
    walk_at "vv"
    have hp := pow522 hb
    rw [full_eq, shl1]
    generalize (2 : Nat) ^ b = z at hp ⊢
    rw [show (((FL : Nat) : Int) - (z : Int)) = ((FL - z : Nat) : Int) by omega]
    exact q _ H2 (by omega) (s1.trans s2) w2
  walk_at "vv"
  refine c1 ⟨W, rfl, w1, fun d H2 hd s2 w2 => ?_⟩
  walk_at "vv"
  refine c2 ⟨W, 1024, rfl, rfl, w2, by decide, by decide, fun r H3 hr s3 w3 => ?_⟩
  walk_at "vv"
  rw [show ((d : Int) * 1024 + (r : Int)) = ((d * 1024 + r : Nat) : Int) by omega]
  refine q _ H3 ?_ (s1.trans (s2.trans s3)) w3
  have e : MX = 2 ^ 512 * 1024 := by decide +kernel
  rw [e]
  generalize (2 : Nat) ^ 512 = z at hd ⊢
  omega
def spo_is_whole (K : PySem.W.Frag) : Sp := sp1 fun v H Q => ∃ (M : Addr → Prop) (d : D), Is M H v d ∧ Q (.bl d.whole) H
abbrev sp_is_whole := spo_is_whole
theorem ok_is_whole (T : Txt K mg) : FnG P w K mg base 1 T.f_is_whole T.fd_is_whole ["value"] (sp_is_whole K) := by
  refine okG T.F_is_whole sc_is_whole len1 (fun cdv A outer s H vs Q hgd hr h => ?_)
  obtain ⟨a0, rfl, h⟩ := h
  refine ⟨_, (pss_one (ps_ret (pe_and (pe_callB call_isi (by rfl) T.b_isinstance (by decide +kernel) (pa_cons (pv 0) (pa_cons (pe_bltn (v := .ty "int") (by rfl) T.b_int (by decide +kernel) rfl) pa_nil))) (pe_one (pe_not (pe_callB call_isi (by rfl) T.b_isinstance (by decide +kernel) (pa_cons (pv 0) (pa_cons (pe_bltn (v := .ty "bool") (by rfl) T.b_bool (by decide +kernel) rfl) pa_nil)))))))), ?_⟩
  rw [show L2.start N_is_whole [a0] = [some a0] from rfl]
  obtain ⟨M, d, hi, q⟩ := h
  walk_at "vv"
  refine d_isInt hi ?_
  walk_at "vv"
  refine v_ifb (fun c => ?_) (fun c => ?_)
  · walk_at "vv"
    refine d_isBl hi ?_
    walk_at "vv"
    rw [show (!d.isBl) = d.whole by cases d <;> simp_all [D.isBl, D.whole, D.isInt]]
    exact q
  · rw [show d.whole = false by cases d <;> simp_all [D.isBl, D.whole, D.isInt]] at q
    exact q
def spo_is_between (K : PySem.W.Frag) : Sp := sp3 fun v l m H Q => ∃ (M : Addr → Prop) (d : D) (j k : Int), Is M H v d ∧ l = .int j ∧ m = .int k ∧ Q (.bl (d.btw j k)) H
abbrev sp_is_between := spo_is_between
theorem ok_is_between (T : Txt K mg) : FnG P w K mg base 2 T.f_is_between T.fd_is_between ["value", "least", "most"] (sp_is_between K) := by
  refine okG T.F_is_between sc_is_between len3 (fun cdv A outer s H vs Q hgd hr h => ?_)
  obtain ⟨a0, a1, a2, rfl, h⟩ := h
  refine ⟨_, (pss_one (ps_ret (pe_and (pe_callG (ok_is_whole T) hgd (hr.mono (by decide)) (by rfl) T.g_is_whole T.F_is_whole.kp T.bi_is_whole .nil (pa_cons (pv 0) pa_nil)) (pe_one (pe_chain op_le op_le (pv 1) (pv 0) (pv 2)))))), ?_⟩
  rw [show L2.start N_is_between [a0, a1, a2] = [some a0, some a1, some a2] from rfl]
  obtain ⟨M, d, j, k, hi, rfl, rfl, q⟩ := h
  walk_at "vv"
  refine c1 ⟨M, d, hi, ?_⟩
  walk_at "vv"
  refine v_ifb (fun c => ?_) (fun c => ?_)
  · obtain ⟨i, rfl⟩ : ∃ i, d = .int i := by cases d <;> simp_all [D.whole]
    cases hi
    walk_at "vv"
    refine v_ifd (fun c => ?_) (fun c => ?_)
    · walk_at "vv"
      rw [show D.btw j k (.int i) = decide (i ≤ k) by simp [D.btw, c]] at q
      exact q
    · rw [show D.btw j k (.int i) = false by simp [D.btw, c]] at q
      exact q
  · rw [show d.btw j k = false by cases d <;> simp_all [D.btw, D.whole]] at q
    exact q
def spo_is_page (K : PySem.W.Frag) : Sp := sp1 fun v H Q => ∃ (M : Addr → Prop) (d : D), Is M H v d ∧ Q (.bl (d.btw 0 BLv)) H
abbrev sp_is_page := spo_is_page
theorem ok_is_page (T : Txt K mg) : FnG P w K mg base 3 T.f_is_page T.fd_is_page ["value"] (sp_is_page K) := by
  refine okG T.F_is_page sc_is_page len1 (fun cdv A outer s H vs Q hgd hr h => ?_)
  obtain ⟨a0, rfl, h⟩ := h
  refine ⟨_, (pss_one (ps_ret (pe_callG (ok_is_between T) hgd (hr.mono (by decide)) (by rfl) T.g_is_between T.F_is_between.kp T.bi_is_between .nil (pa_cons (pv 0) (pa_cons pe_int (pa_cons (pe_glob (v := .int BLv) rfl T.c_BLANK ⟨_, rfl⟩) pa_nil)))))), ?_⟩
  rw [show L2.start N_is_page [a0] = [some a0] from rfl]
  obtain ⟨M, d, hi, q⟩ := h
  walk_at "vv"
  exact c3 ⟨M, d, 0, BLv, hi, rfl, rfl, q⟩
def spo_require_page (K : PySem.W.Frag) : Sp := sp1 fun v H Q => ∃ i : Nat, v = .int i ∧ i < MX ∧ Q .non H
abbrev sp_require_page := spo_require_page
theorem ok_require_page (T : Txt K mg) : FnG P w K mg base 4 T.f_require_page T.fd_require_page ["value"] (sp_require_page K) := by
  refine okG T.F_require_page sc_require_page len1 (fun cdv A outer s H vs Q hgd hr h => ?_)
  obtain ⟨a0, rfl, h⟩ := h
  refine ⟨_, (pss_one (ps_if (pt_not (pt_val (pe_callG (ok_is_page T) hgd (hr.mono (by decide)) (by rfl) T.g_is_page T.F_is_page.kp T.bi_is_page .nil (pa_cons (pv 0) pa_nil)))) (pss_one ps_never) pss_nil)), ?_⟩
  rw [show L2.start N_require_page [a0] = [some a0] from rfl]
  obtain ⟨i, rfl, hi, q⟩ := h
  walk_at "vv"
  refine c1 ⟨fun _ => False, .int i, .int _, ?_⟩
  rw [show D.btw 0 BLv (.int (i : Int)) = true from decide_eq_true (by rw [BLv_eq]; have := MX_pos; omega)]
  walk_at "vv"
  exact q
def spo_is_blank (K : PySem.W.Frag) : Sp := sp1 fun v H Q => ∃ p : Nat, v = .int p ∧ p < MX ∧ Q (.bl (decide (p = FL))) H
abbrev sp_is_blank := spo_is_blank
theorem ok_is_blank (T : Txt K mg) : FnG P w K mg base 5 T.f_is_blank T.fd_is_blank ["page"] (sp_is_blank K) := by
  refine okG T.F_is_blank sc_is_blank len1 (fun cdv A outer s H vs Q hgd hr h => ?_)
  obtain ⟨a0, rfl, h⟩ := h
  refine ⟨_, (pss_cons (ps_expr (pe_callG (ok_require_page T) hgd (hr.mono (by decide)) (by rfl) T.g_require_page T.F_require_page.kp T.bi_require_page .nil (pa_cons (pv 0) pa_nil)))
    (pss_one (ps_ret (pe_cmpR op_eq (pv 0) (pe_glob (v := .int BLv) rfl T.c_BLANK ⟨_, rfl⟩) (nomark _))))), ?_⟩
  rw [show L2.start N_is_blank [a0] = [some a0] from rfl]
  obtain ⟨p, rfl, hp, q⟩ := h
  walk_at "vv"
  refine c1 ⟨p, rfl, hp, ?_⟩
  walk_at "vv"
  rw [BLv_eq, nd]
  exact q
def spo_count_zeros (K : PySem.W.Frag) : Sp := sp1 fun v H Q => ∃ d : Nat, v = .int d ∧ d < 2 ^ 512 ∧ Q (.int ((512 - ones d : Nat) : Int)) H
abbrev sp_count_zeros := spo_count_zeros
theorem ok_count_zeros (T : Txt K mg) : FnG P w K mg base 1 T.f_count_zeros T.fd_count_zeros ["data"] (sp_count_zeros K) := by
  refine okG T.F_count_zeros sc_count_zeros len1 (fun cdv A outer s H vs Q hgd hr h => ?_)
  obtain ⟨a0, rfl, h⟩ := h
  refine ⟨_, (pss_cons (ps_set (i := 1) sc_count_zeros.nd rfl (.inl rfl) (pe_fmtB (pv 0)))
    (pss_one (ps_ret (pe_op op_sub (pe_glob (v := .int 512) rfl T.c_DATA_WIDTH ⟨_, rfl⟩) (pe_bm PySem.F.plainAttrs_str PySem.F.slot_str_count PySem.F.type_str_count mv_count (pv 1) (pa_cons pe_str pa_nil)))))), ?_⟩
  rw [show L2.start N_count_zeros [a0] = [some a0, none] from rfl]
  obtain ⟨d, rfl, hd, q⟩ := h
  walk_at "vv"
  refine v_bin ?_
  walk_at "vv"
  refine ⟨d, rfl, Nat.lt_trans hd (Nat.pow_lt_pow_right (by decide) (by decide)), ?_⟩
  walk_at "vv"
  refine ⟨rfl, ?_⟩
  walk_at "vv"
  refine v_count ?_
  walk_at "vv"
  have ho := ones_le 512 _ hd
  rw [show ((512 - ones d : Nat) : Int) = 512 - ((ones d : Nat) : Int) by omega] at q
  exact q
def spo_zeros_in (K : PySem.W.Frag) : Sp := sp1 fun v H Q => ∃ p : Nat, v = .int p ∧ p < MX ∧ Q (.int ((512 - ones (p / 1024) : Nat) : Int)) H
abbrev sp_zeros_in := spo_zeros_in
theorem ok_zeros_in (T : Txt K mg) : FnG P w K mg base 5 T.f_zeros_in T.fd_zeros_in ["page"] (sp_zeros_in K) := by
  refine okG T.F_zeros_in sc_zeros_in len1 (fun cdv A outer s H vs Q hgd hr h => ?_)
  obtain ⟨a0, rfl, h⟩ := h
  refine ⟨_, (pss_cons (ps_expr (pe_callG (ok_require_page T) hgd (hr.mono (by decide)) (by rfl) T.g_require_page T.F_require_page.kp T.bi_require_page .nil (pa_cons (pv 0) pa_nil)))
    (pss_one (ps_ret (pe_callG (ok_count_zeros T) hgd (hr.mono (by decide)) (by rfl) T.g_count_zeros T.F_count_zeros.kp T.bi_count_zeros .nil (pa_cons (pe_op op_shr (pv 0) (pe_glob (v := .int 10) rfl T.c_CHECK_WIDTH ⟨_, rfl⟩)) pa_nil))))), ?_⟩
  rw [show L2.start N_zeros_in [a0] = [some a0] from rfl]
  obtain ⟨p, rfl, hp, q⟩ := h
  walk_at "vv"
  refine c1 ⟨p, rfl, hp, ?_⟩
  walk_at "vv"
  refine v_I (show (0 : Int) ≤ 10 by decide) ?_
  rw [shr10]
  walk_at "vv"
  exact c1 ⟨p / 1024, rfl, data_lt hp, q⟩
def spo_state_of (K : PySem.W.Frag) : Sp := sp1 fun v H Q => ∃ p : Nat, v = .int p ∧ p < MX ∧ Q (.str (stateS p)) H
abbrev sp_state_of := spo_state_of
theorem ok_state_of (T : Txt K mg) : FnG P w K mg base 6 T.f_state_of T.fd_state_of ["page"] (sp_state_of K) := by
  refine okG T.F_state_of sc_state_of len1 (fun cdv A outer s H vs Q hgd hr h => ?_)
  obtain ⟨a0, rfl, h⟩ := h
  refine ⟨_, (pss_cons (ps_if (pt_val (pe_callG (ok_is_blank T) hgd (hr.mono (by decide)) (by rfl) T.g_is_blank T.F_is_blank.kp T.bi_is_blank .nil (pa_cons (pv 0) pa_nil))) (pss_one (ps_ret pe_str)) pss_nil)
    (pss_one (ps_ret (pe_ifExp (pt_cmpR op_eq (pe_op op_and (pv 0) (pe_glob (v := .int 1023) rfl T.c_CHECKS ⟨_, rfl⟩)) (pe_callG (ok_zeros_in T) hgd (hr.mono (by decide)) (by rfl) T.g_zeros_in T.F_zeros_in.kp T.bi_zeros_in .nil (pa_cons (pv 0) pa_nil)) (nomark _)) pe_str pe_str)))), ?_⟩
  rw [show L2.start N_state_of [a0] = [some a0] from rfl]
  obtain ⟨p, rfl, hp, q⟩ := h
  walk_at "vv"
  refine c1 ⟨p, rfl, hp, ?_⟩
  walk_at "vv"
  unfold stateS at q
  refine v_ifd (fun c => ?_) (fun c => ?_)
  · rw [if_pos c] at q
    walk_at "vv"
    exact q
  · rw [if_neg c] at q
    walk_at "vv"
    rw [show (1023 : Int) = ((1023 : Nat) : Int) from rfl, bA, m1023]
    refine c1 ⟨p, rfl, hp, ?_⟩
    walk_at "vv"
    rw [nd]
    refine v_ifd (fun c2 => ?_) (fun c2 => ?_)
    · rw [if_pos c2] at q
      walk_at "vv"
      exact q
    · rw [if_neg c2] at q
      walk_at "vv"
      exact q
def spo_numbers_held (K : PySem.W.Frag) : Sp := sp1 fun v H Q => ∃ p : Nat, v = .int p ∧ p < MX ∧ ∀ (v' : V) (H' : Hp), Same H H' → TlN p H' v' → Q v' H'
abbrev sp_numbers_held := spo_numbers_held
theorem ok_numbers_held (T : Txt K mg) : FnG P w K mg base 1 T.f_numbers_held T.fd_numbers_held ["page"] (sp_numbers_held K) := by
  refine okG T.F_numbers_held sc_numbers_held len1 (fun cdv A outer s H vs Q hgd hr h => ?_)
  obtain ⟨a0, rfl, h⟩ := h
  refine ⟨_, (pss_cons (ps_set (i := 1) sc_numbers_held.nd rfl (.inl rfl) (pe_op op_shr (pv 0) (pe_op op_sub (pe_glob (v := .int 522) rfl T.c_WIDTH ⟨_, rfl⟩) (pe_glob (v := .int 16) rfl T.c_UNIT_WIDTH ⟨_, rfl⟩))))
    (pss_cons (ps_if (pt_cmpR op_gt (pv 1) (pe_glob (v := .int 31) rfl T.c_MOST_NUMBERS ⟨_, rfl⟩) (nomark _)) (pss_one (ps_ret pe_non)) pss_nil)
    (pss_cons (ps_set (i := 2) sc_numbers_held.nd rfl (.inl rfl) (pe_op op_sub (pe_glob (v := .int 522) rfl T.c_WIDTH ⟨_, rfl⟩) (pe_op op_mul (pe_glob (v := .int 16) rfl T.c_UNIT_WIDTH ⟨_, rfl⟩) (pe_op op_add pe_int (pv 1)))))
    (pss_cons (ps_set (i := 3) sc_numbers_held.nd rfl (.inl rfl) (pe_op op_and (pv 0) (pe_op op_sub (pe_op op_shl pe_int (pv 2)) pe_int)))
    (pss_cons (ps_if (pt_cmpR op_ne (pe_op op_shr (pv 3) (pe_glob (v := .int 10) rfl T.c_CHECK_WIDTH ⟨_, rfl⟩)) pe_int (nomark _)) (pss_one (ps_ret pe_non)) pss_nil)
    (pss_one (ps_ret (pe_callTy cv_tuple (by rfl) T.b_tuple (by decide +kernel) (pa_cons (pe_lc (own := [("shift", 4)]) (g := gName 4) (tt := tYes) (by rfl) sc_numbers_held.nd (pi_range3 rfl T.b_range (pa_cons (pe_op op_sub (pe_glob (v := .int 522) rfl T.c_WIDTH ⟨_, rfl⟩) (pe_op op_mul pe_int (pe_glob (v := .int 16) rfl T.c_UNIT_WIDTH ⟨_, rfl⟩))) (pa_cons (pe_op op_sub (pv 2) pe_int) (pa_cons (pe_un un_neg (pe_glob (v := .int 16) rfl T.c_UNIT_WIDTH ⟨_, rfl⟩)) pa_nil)))) (blkOk_by (own := [("shift", 4)]) (N := N_numbers_held) (sc := defScope s_numbers_held) (by decide +kernel)) (fun _ _ _ _ _ => pg_name (i := 4) sc_numbers_held.nd rfl (Or.inl rfl)) (fun _ _ _ _ _ => pts_nil) (fun _ _ _ _ _ => (pe_op op_and (pe_op op_shr (pv 0) (pv 4)) (pe_glob (v := .int 65535) rfl T.c_GREATEST_UNIT ⟨_, rfl⟩)))) pa_nil))))))))), ?_⟩
  rw [show L2.start N_numbers_held [a0] = [some a0, none, none, none, none] from rfl]
  obtain ⟨p, rfl, hp, q⟩ := h
  walk_at "vv"
  refine v_I (show (0 : Int) ≤ 522 - 16 by decide) ?_
  rw [show (p : Int) / 2 ^ ((522 : Int) - 16).toNat = ((p / 2 ^ 506 : Nat) : Int) from shrN p 506, ← u0_eq hp]
  walk_at "vv"
  refine v_ifd (fun c => ?_) (fun c => ?_)
  · walk_at "vv"
    refine q _ _ (fun _ _ e => e) (.inl ⟨?_, rfl⟩)
    unfold badB
    rw [decide_eq_true (show 31 < u0 p by omega)]
    rfl
  have hu : u0 p ≤ 31 := by omega
  walk_at "vv"
  rw [show ((522 : Int) - 16 * (1 + (u0 p : Int))) = ((506 - 16 * u0 p : Nat) : Int) by omega]
  refine v_I ⟨Int.natCast_nonneg _, by omega, by decide⟩ ?_
  walk_at "vv"
  rw [show ((1 : Int) * 2 ^ (((506 - 16 * u0 p : Nat) : Int)).toNat - 1) = ((2 ^ (506 - 16 * u0 p) - 1 : Nat) : Int) from by
    rw [Int.toNat_natCast, Int.one_mul]
    have := Nat.pow_pos (n := 506 - 16 * u0 p) (show 0 < 2 by decide)
    generalize hz : (2 : Nat) ^ (506 - 16 * u0 p) = z at this ⊢
    rw [show ((2 : Int) ^ (506 - 16 * u0 p)) = (((2 : Nat) ^ (506 - 16 * u0 p) : Nat) : Int) by rw [Int.natCast_pow]; rfl, hz]
    omega]
  rw [bA, Nat.and_two_pow_sub_one_eq_mod]
  walk_at "vv"
  refine v_I (show (0 : Int) ≤ 10 by decide) ?_
  rw [show ((p % 2 ^ (506 - 16 * u0 p) : Nat) : Int) / 2 ^ ((10 : Int)).toNat = ((p % 2 ^ (506 - 16 * u0 p) / 1024 : Nat) : Int) from shrN _ 10]
  walk_at "vv"
  have bb := badN hu
  refine v_ifd (fun c2 => ?_) (fun c2 => ?_)
  · walk_at "vv"
    refine q _ _ (fun _ _ e => e) (.inl ⟨?_, rfl⟩)
    rw [bb]
    exact decide_eq_true (by omega)
  rw [decide_eq_false (by omega)] at bb
  walk_at "vv"
  refine v_iRng3 ?_
  walk_at "vv"
  rw [show ((506 - 16 * u0 p : Nat) : Int) - 1 = 505 - 16 * (u0 p : Int) by omega]
  refine ⟨_, _, _, u0 p, rfl, rg16 hu, fun D hD => ?_⟩
  refine lc_rangeC (fun i H2 => H2 D = some (.lst ((List.range i).map fun k => vN (p / 2 ^ (490 - 16 * k) % 65536))) ∧ Same H H2) ⟨upd_same, fun b o e => same_new hD _ _ e⟩ ?_ ?_
  · rintro i H2 hi ⟨hD2, s2⟩
    walk_at "vv"
    refine ⟨rfl, ?_⟩
    walk_at "vv"
    rw [show ((522 : Int) - 2 * 16 + (i : Nat) * -16) = ((490 - 16 * i : Nat) : Int) by omega]
    refine v_I (Int.natCast_nonneg _) ?_
    walk_at "vv"
    rw [shrN, show (65535 : Int) = ((65535 : Nat) : Int) from rfl, bA, Nat.and_two_pow_sub_one_eq_mod _ 16]
    refine ⟨_, hD2, small1000 (by rw [List.length_map, List.length_range]; omega), ?_, ?_⟩
    · rw [upd_same, List.range_succ, List.map_append]
      rfl
    · exact fun b o e => by
        rw [upd_ne (fun z => by
          rw [z] at e
          exact ne_of_none e hD rfl)]
        exact s2 _ _ e
  · rintro H2 ⟨hD2, s2⟩
    walk_at "vv"
    refine a_tupL (sqL_of hD2) fun l H3 hl s3 e3 => ?_
    refine q _ H3 (fun b o e => s3 _ _ (s2 _ _ e)) (.inr ⟨bb, l, rfl, ?_⟩)
    rw [tells_eq hu, List.map_map]
    exact e3
def spo_told_by (K : PySem.W.Frag) : Sp := sp1 fun v H Q => ∃ p : Nat, v = .int p ∧ p < MX ∧ ∀ (v' : V) (H' : Hp), Same H H' → Tl p H' v' → Q v' H'
abbrev sp_told_by := spo_told_by
theorem ok_told_by (T : Txt K mg) : FnG P w K mg base 7 T.f_told_by T.fd_told_by ["page"] (sp_told_by K) := by
  refine okG T.F_told_by sc_told_by len1 (fun cdv A outer s H vs Q hgd hr h => ?_)
  obtain ⟨a0, rfl, h⟩ := h
  refine ⟨_, (pss_one (ps_ret (pe_ifExp (pt_cmpR op_eq (pe_callG (ok_state_of T) hgd (hr.mono (by decide)) (by rfl) T.g_state_of T.F_state_of.kp T.bi_state_of .nil (pa_cons (pv 0) pa_nil)) pe_str (nomark _)) (pe_callG (ok_numbers_held T) hgd (hr.mono (by decide)) (by rfl) T.g_numbers_held T.F_numbers_held.kp T.bi_numbers_held .nil (pa_cons (pv 0) pa_nil)) pe_non))), ?_⟩
  rw [show L2.start N_told_by [a0] = [some a0] from rfl]
  obtain ⟨p, rfl, hp, q⟩ := h
  walk_at "vv"
  refine c1 ⟨p, rfl, hp, ?_⟩
  walk_at "vv"
  refine v_eqS ?_
  refine ⟨_, rfl, ?_⟩
  by_cases c : stateS p = wholeS
  · rw [if_pos (by simpa [wholeS] using c)]
    walk_at "vv"
    refine c1 ⟨p, rfl, hp, fun v' H' s h => ?_⟩
    rcases h with ⟨h, rfl⟩ | ⟨h, t, rfl, e⟩
    · exact q _ _ s (.inl ⟨.inr h, rfl⟩)
    · exact q _ _ s (.inr ⟨c, h, t, rfl, e⟩)
  · rw [if_neg (by simpa [wholeS] using c)]
    walk_at "vv"
    exact q _ _ (fun _ _ e => e) (.inl ⟨.inl c, rfl⟩)
def spo_Lnumbers (K : PySem.W.Frag) : Sp := sp1 fun v H Q => ∃ p : Nat, v = .int p ∧ p < MX ∧ ∀ (v' : V) (H' : Hp), Same H H' → Nu p H' v' → Q v' H'
abbrev sp_Lnumbers := spo_Lnumbers
theorem ok_Lnumbers (T : Txt K mg) : FnG P w K mg base 2 T.f_Lnumbers T.fd_Lnumbers ["_law_page"] (sp_Lnumbers K) := by
  refine okG T.F_Lnumbers sc_Lnumbers len1 (fun cdv A outer s H vs Q hgd hr h => ?_)
  obtain ⟨a0, rfl, h⟩ := h
  refine ⟨_, (pss_cons (ps_asg (pe_tup (pa_cons (pe_op op_shr (pv 0) pe_int) (pa_cons (pe_op op_modN (pe_callTy cv_int (by rfl) T.b_int (by decide +kernel) (pa_cons (pv 0) pa_nil)) pe_int) pa_nil))) (pg_tup (by rfl) (pgs_cons (pg_name (i := 1) sc_Lnumbers.nd rfl (.inr rfl)) (pgs_cons (pg_name (i := 2) sc_Lnumbers.nd rfl (.inl rfl)) pgs_nil))))
    (pss_cons (ps_if (pt_cmpR op_ne (pv 2) (pe_op op_sub pe_int (pe_callG (ok_Lones T) hgd (hr.mono (by decide)) (by rfl) T.g_Lones T.F_Lones.kp T.bi_Lones .nil (pa_cons (pv 1) pa_nil))) (nomark _)) (pss_one (ps_ret pe_non)) pss_nil)
    (pss_cons (ps_setLc (i := 3) (own := [("_law_spot", 4)]) (g := gName 4) (tt := tYes) (by rfl) sc_Lnumbers.nd rfl rfl (sw_true rfl rfl rfl (by decide +kernel)) (pi_range1 rfl T.b_range (pa_cons pe_int pa_nil)) (blkOk_by (own := [("_law_spot", 4)]) (N := N_Lnumbers) (sc := defScope s_Lnumbers) (by decide +kernel)) (fun _ _ _ _ _ => pg_name (i := 4) sc_Lnumbers.nd rfl (Or.inl rfl)) (fun _ _ _ _ _ => pts_nil) (fun _ _ _ _ _ => (pe_op op_modN (pe_callTy cv_int (by rfl) T.b_int (by decide +kernel) (pa_cons (pe_op op_shr (pv 1) (pe_op op_mul pe_int (pe_op op_sub pe_int (pv 4)))) pa_nil)) pe_int)))
    (pss_cons (ps_if (PW.pt (pw_or (pt_cmpR op_gt (pe_ix ix_list (pv 3) pe_int (fun _ _ => rfl)) pe_int (nomark _)) (pw_or1 (pt_cmpR (op_neD hr.units) (pe_lc (own := [("_law_unit", 5)]) (g := gName 5) (by rfl) sc_Lnumbers.nd (pi_list (pe_slice sl_list (pv 3) (po_some (pe_op op_add (pe_ix ix_list (pv 3) pe_int (fun _ _ => rfl)) pe_int)) po_none)) (blkOk_by (own := [("_law_unit", 5)]) (N := N_Lnumbers) (sc := defScope s_Lnumbers) (by decide +kernel)) (fun _ _ _ _ _ => pg_name (i := 5) sc_Lnumbers.nd rfl (Or.inl rfl)) (fun _ _ _ _ _ => pts_one (pt_cmpR op_ne (pv 5) pe_int (nomark _))) (fun _ _ _ _ _ => (pv 5))) (pe_lst pa_nil) (nomark _))))) (pss_one (ps_ret (pe_tup pa_nil))) pss_nil)
    (pss_one (ps_ret (pe_callTy cv_tuple (by rfl) T.b_tuple (by decide +kernel) (pa_cons (pe_slice sl_list (pv 3) (po_some pe_int) (po_some (pe_op op_add (pe_ix ix_list (pv 3) pe_int (fun _ _ => rfl)) pe_int))) pa_nil)))))))), ?_⟩
  rw [show L2.start N_Lnumbers [a0] = [some a0, none, none, none, none, none] from rfl]
  obtain ⟨p, rfl, hp, q⟩ := h
  walk_at "vv"
  refine v_I (show (0 : Int) ≤ 10 by decide) ?_
  walk_at "vv"
  rw [shr10, show (p : Int).fmod 1024 = ((p % 1024 : Nat) : Int) by rw [Int.fmod_eq_emod_of_nonneg _ (by decide)]; omega]
  refine a_tup (by simp) fun pc H1 hpc s1 e1 => ?_
  refine v_gtup (sqT_of e1) rfl ?_
  walk_at "vv"
  refine c1 ⟨p / 1024, rfl, ?_⟩
  walk_at "vv"
  have ho := ones512 hp
  refine v_ifd (fun c => ?_) (fun c => ?_)
  · walk_at "vv"
    refine q _ _ s1 (.inl ⟨fun w => c ?_, rfl⟩)
    unfold wholeP at w
    omega
  have w : wholeP p := by
    unfold wholeP
    omega
  walk_at "vv"
  refine ⟨32, rfl, by decide, by decide, fun D hD => ?_⟩
  refine lc_range (lo := 0) (n := 32) (fun i H2 => H2 D = some (.lst (((List.range i).map fun k => p / 2 ^ (506 - 16 * k) % 65536).map vN)) ∧ Same H1 H2) ⟨upd_same, same_new hD⟩ ?_ ?_
  · rintro i H2 hi ⟨hD2, s2⟩
    walk_at "vv"
    refine ⟨rfl, ?_⟩
    walk_at "vv"
    rw [show ((16 : Int) * (31 - (0 + (i : Int)))) = ((496 - 16 * i : Nat) : Int) by omega]
    refine v_I (Int.natCast_nonneg _) ?_
    walk_at "vv"
    rw [shrN, shift_un p i hi, show ((p / 2 ^ (506 - 16 * i) : Nat) : Int).fmod 65536 = ((p / 2 ^ (506 - 16 * i) % 65536 : Nat) : Int) by rw [Int.fmod_eq_emod_of_nonneg _ (by decide), Int.natCast_emod]; rfl]
    refine ⟨_, hD2, small1000 (by rw [List.length_map, List.length_map, List.length_range]; omega), ?_, same_own s2 hD⟩
    rw [upd_same, List.range_succ, List.map_append, List.map_append]
    rfl
  · rintro H2 ⟨hD2, s2⟩
    rw [show ((List.range 32).map fun k => p / 2 ^ (506 - 16 * k) % 65536) = u0 p :: us p from un_eq p] at hD2
    have a0 : atI ((u0 p :: us p).map vN) 0 = some (vN (u0 p)) := atI_nat (j := 0) rfl
    have bb : badB p = (decide (31 < u0 p) || ((us p).drop (u0 p)).any fun x => decide (x ≠ 0)) := rfl
    walk_at "vv"
    refine v_ixL (sqL_of hD2) a0 ?_
    walk_at "vv"
    refine v_ifd (fun c2 => ?_) (fun c2 => ?_)
    · walk_at "vv"
      refine a_tup (by simp) fun t H3 ht s3 e3 => ?_
      refine q _ _ (fun b o e => s3 _ _ (s2 _ _ (s1 _ _ e))) (.inr ⟨w, t, rfl, .inl ⟨?_, e3⟩⟩)
      rw [bb, decide_eq_true (show 31 < u0 p by omega)]
      rfl
    rw [decide_eq_false (show ¬ 31 < u0 p by omega), Bool.false_or] at bb
    walk_at "vv"
    refine v_ixL (sqL_of hD2) a0 ?_
    walk_at "vv"
    rw [show ((u0 p : Nat) : Int) + 1 = ((u0 p + 1 : Nat) : Int) from rfl]
    refine a_slL (sqL_of hD2) fun m H3 hm s3 h3 => ?_
    rw [cut_lo _ _ (by rw [List.length_map, List.length_cons, us_len]; omega), ← List.map_drop, List.drop_succ_cons] at h3
    walk_at "vv"
    refine ⟨⟨_, sqL_of h3⟩, fun D2 hD2' => ?_⟩
    refine lc_list (xs := ((us p).drop (u0 p)).map vN) (fun i H' => H' D2 = some (.lst (((((us p).drop (u0 p)).take i).filter fun x => decide (x ≠ 0)).map vN)) ∧ Same H3 H') ⟨upd_same, same_new hD2'⟩ (fun i H' _ h => sqL_of (h.2 _ _ h3)) ?_ ?_
    · rintro i x H4 hx ⟨hD4, s4⟩
      obtain ⟨n, hn, rfl⟩ := vN_get hx
      have ht : ((us p).drop (u0 p)).take (i + 1) = ((us p).drop (u0 p)).take i ++ [n] := by
        rw [List.take_add_one, hn]
        rfl
      have hlen : ((((us p).drop (u0 p)).take i).filter fun x => decide (x ≠ 0)).length ≤ 31 := by
        have l1 := List.length_filter_le (fun x => decide (x ≠ 0)) (((us p).drop (u0 p)).take i)
        have l2 := List.length_take_le' i ((us p).drop (u0 p))
        rw [List.length_drop, us_len] at l2
        omega
      walk_at "vv"
      refine ⟨rfl, ?_⟩
      walk_at "vv"
      refine v_ifd (fun c3 => ?_) (fun c3 => ?_)
      · walk_at "vv"
        refine ⟨_, hD4, small1000 (by rw [List.length_map]; omega), ?_, same_own s4 hD2'⟩
        rw [upd_same, ht, List.filter_append, List.map_append, List.filter_cons_of_pos (by simpa using (show n ≠ 0 by omega))]
        rfl
      · refine ⟨?_, s4⟩
        rw [hD4, ht, List.filter_append, List.filter_cons_of_neg (by simpa using (show n = 0 by omega)), List.filter_nil, List.append_nil]
    · rintro H4 ⟨hD4, s4⟩
      rw [List.length_map, List.take_length] at hD4
      walk_at "vv"
      refine a_lst (by simp) fun e0 H5 he0 s5 e5 => ?_
      refine ⟨_, _, .lst (sqL_of (s5 _ _ hD4)) (dp_ints _), .lst (sqL_of e5) .nil, shp_l _, rfl, ?_⟩
      rw [eqv_nil_l, ← filt_any, ← bb]
      walk_at "vv"
      refine v_ifb (fun c3 => ?_) (fun c3 => ?_)
      · walk_at "vv"
        refine a_tup (by simp) fun t H6 ht s6 e6 => ?_
        exact q _ _ (fun b o e => s6 _ _ (s5 _ _ (s4 _ _ (s3 _ _ (s2 _ _ (s1 _ _ e)))))) (.inr ⟨w, t, rfl, .inl ⟨c3, e6⟩⟩)
      · have hD5 := s5 _ _ (s4 _ _ (s3 _ _ hD2))
        walk_at "vv"
        refine v_ixL (sqL_of hD5) a0 ?_
        walk_at "vv"
        refine a_slL (sqL_of hD5) fun m6 H6 hm6 s6 h6 => ?_
        walk_at "vv"
        refine a_tupL (sqL_of h6) fun t H7 ht s7 e7 => ?_
        refine q _ _ (fun b o e => s7 _ _ (s6 _ _ (s5 _ _ (s4 _ _ (s3 _ _ (s2 _ _ (s1 _ _ e))))))) (.inr ⟨w, t, rfl, .inr ⟨c3, ?_⟩⟩)
        rw [e7, show (((u0 p : Nat) : Int) + 1) = ((u0 p + 1 : Nat) : Int) from rfl, cut_mid _ (by rw [List.length_map, List.length_cons, us_len]; omega), List.map_cons, List.drop_succ_cons, List.drop_zero, ← List.map_take]
        rfl
def spo_Ltold_by (K : PySem.W.Frag) : Sp := sp1 fun v H Q => ∃ p : Nat, v = .int p ∧ p < MX ∧ ∀ (v' : V) (H' : Hp), Same H H' → Tl p H' v' → Q v' H'
abbrev sp_Ltold_by := spo_Ltold_by
theorem ok_Ltold_by (T : Txt K mg) : FnG P w K mg base 3 T.f_Ltold_by T.fd_Ltold_by ["_law_page"] (sp_Ltold_by K) := by
  refine okG T.F_Ltold_by sc_Ltold_by len1 (fun cdv A outer s H vs Q hgd hr h => ?_)
  obtain ⟨a0, rfl, h⟩ := h
  refine ⟨_, (pss_cons (ps_set (i := 1) sc_Ltold_by.nd rfl (.inl rfl) (pe_callG (ok_Lnumbers T) hgd (hr.mono (by decide)) (by rfl) T.g_Lnumbers T.F_Lnumbers.kp T.bi_Lnumbers .nil (pa_cons (pv 0) pa_nil)))
    (pss_one (ps_ret (pe_ifExp (PW.pt (pw_or (pt_cmpR op_isN (pv 1) pe_non (nomark _)) (pw_or1 (PW.pt (pw_and (pt_cmpR (op_eqD hr.units) (pv 1) (pe_tup pa_nil) (nomark _)) (pw_and1 (pt_cmpR op_ne (pe_callG (ok_Lword T) hgd (hr.mono (by decide)) (by rfl) T.g_Lword T.F_Lword.kp T.bi_Lword .nil (pa_cons (pe_tup pa_nil) pa_nil)) (pv 0) (nomark _)))))))) pe_non (pv 1))))), ?_⟩
  rw [show L2.start N_Ltold_by [a0] = [some a0, none] from rfl]
  obtain ⟨p, rfl, hp, q⟩ := h
  walk_at "vv"
  refine c1 ⟨p, rfl, hp, fun v' H1 s1 nu => ?_⟩
  rcases nu with ⟨nw, rfl⟩ | ⟨w, t, rfl, nu⟩
  · walk_at "vv"
    refine ⟨rfl, ?_⟩
    rw [decide_eq_true rfl]
    walk_at "vv"
    exact q _ _ s1 (.inl ⟨.inl fun e => nw (st_iff.mp e).2, rfl⟩)
  have cw : stateS p = wholeS := st_iff.mpr ⟨whole_ne w, w⟩
  walk_at "vv"
  refine ⟨rfl, ?_⟩
  rw [decide_eq_false (fun z => by cases z)]
  walk_at "vv"
  refine a_tup (by simp) fun e0 H2 he0 s2 e2 => ?_
  rcases nu with ⟨b, et⟩ | ⟨b, et⟩
  · refine ⟨_, _, .tup (sqT_of (s2 _ _ et)) .nil, .tup (sqT_of e2) .nil, rfl, rfl, ?_⟩
    rw [show PyData.eqv (.tuple []) (.tuple []) = true by simp [PyData.eqv, PyData.eqvAll]]
    walk_at "vv"
    refine a_tup (by simp) fun e3 H3 he3 s3 h3 => ?_
    walk_at "vv"
    refine c1 ⟨e3, [], rfl, sqT_of h3, by simp, by simp, ?_⟩
    walk_at "vv"
    rw [ndn, dec_ne2 (fun e => by rw [← e, word0, bad512] at b; cases b)]
    walk_at "vv"
    exact q _ _ (fun b o e => s3 _ _ (s2 _ _ (s1 _ _ e))) (.inl ⟨.inr b, rfl⟩)
  · refine ⟨_, _, .tup (sqT_of (s2 _ _ et)) (dp_ints _), .tup (sqT_of e2) .nil, shp_t _, rfl, ?_⟩
    rw [eqv_nil_t]
    walk_at "vv"
    refine v_ifd (fun c => ?_) (fun c => ?_)
    · walk_at "vv"
      refine a_tup (by simp) fun e3 H3 he3 s3 h3 => ?_
      walk_at "vv"
      refine c1 ⟨e3, [], rfl, sqT_of h3, by simp, by simp, ?_⟩
      walk_at "vv"
      rw [ndn, dec_ne (by rw [word0]; exact (tells_none hp w b c).symm)]
      walk_at "vv"
      exact q _ _ (fun b o e => s3 _ _ (s2 _ _ (s1 _ _ e))) (.inr ⟨cw, b, t, rfl, s3 _ _ (s2 _ _ et)⟩)
    · walk_at "vv"
      exact q _ _ (fun b o e => s2 _ _ (s1 _ _ e)) (.inr ⟨cw, b, t, rfl, s2 _ _ et⟩)
def spo_Lpage_right (K : PySem.W.Frag) : Sp := sp1 fun v H Q => ∃ p : Nat, v = .int p ∧ p < MX ∧ ∀ H', Same H H' → Q (.bl true) H'
abbrev sp_Lpage_right := spo_Lpage_right
theorem ok_Lpage_right (T : Txt K mg) : FnG P w K mg base 8 T.f_Lpage_right T.fd_Lpage_right ["_law_page"] (sp_Lpage_right K) := by
  refine okG T.F_Lpage_right sc_Lpage_right len1 (fun cdv A outer s H vs Q hgd hr h => ?_)
  obtain ⟨a0, rfl, h⟩ := h
  refine ⟨_, (pss_cons (ps_set (i := 1) sc_Lpage_right.nd rfl (.inl rfl) (pe_cmpR op_eq (pv 0) (pe_op op_sub (pe_op op_shl pe_int pe_int) pe_int) (nomark _)))
    (pss_cons (ps_set (i := 2) sc_Lpage_right.nd rfl (.inl rfl) (pe_ifExp (pt_val (pv 1)) pe_str (pe_ifExp (pt_cmpR op_isN (pe_callG (ok_Lnumbers T) hgd (hr.mono (by decide)) (by rfl) T.g_Lnumbers T.F_Lnumbers.kp T.bi_Lnumbers .nil (pa_cons (pv 0) pa_nil)) pe_non (nomark _)) pe_str pe_str)))
    (pss_cons (ps_set (i := 3) sc_Lpage_right.nd rfl (.inl rfl) (pe_lst (pa_cons (pe_callG (ok_state_of T) hgd (hr.mono (by decide)) (by rfl) T.g_state_of T.F_state_of.kp T.bi_state_of .nil (pa_cons (pv 0) pa_nil)) (pa_cons (pe_callGK0 (ok_state_of T) hgd (hr.mono (by decide)) (by rfl) T.g_state_of T.F_state_of.kp (T.kb_state_of_0_page) (pk_cons (pv 0) pk_nil)) (pa_cons (pe_callG (ok_is_blank T) hgd (hr.mono (by decide)) (by rfl) T.g_is_blank T.F_is_blank.kp T.bi_is_blank .nil (pa_cons (pv 0) pa_nil)) (pa_cons (pe_callGK0 (ok_is_blank T) hgd (hr.mono (by decide)) (by rfl) T.g_is_blank T.F_is_blank.kp (T.kb_is_blank_0_page) (pk_cons (pv 0) pk_nil)) (pa_cons (pe_callG (ok_told_by T) hgd (hr.mono (by decide)) (by rfl) T.g_told_by T.F_told_by.kp T.bi_told_by .nil (pa_cons (pv 0) pa_nil)) pa_nil)))))))
    (pss_cons (ps_set (i := 3) sc_Lpage_right.nd rfl (.inl rfl) (pe_op op_cat (pv 3) (pe_lst (pa_cons (pe_callGK0 (ok_told_by T) hgd (hr.mono (by decide)) (by rfl) T.g_told_by T.F_told_by.kp (T.kb_told_by_0_page) (pk_cons (pv 0) pk_nil)) (pa_cons (pe_callG (ok_zeros_in T) hgd (hr.mono (by decide)) (by rfl) T.g_zeros_in T.F_zeros_in.kp T.bi_zeros_in .nil (pa_cons (pv 0) pa_nil)) (pa_cons (pe_callGK0 (ok_zeros_in T) hgd (hr.mono (by decide)) (by rfl) T.g_zeros_in T.F_zeros_in.kp (T.kb_zeros_in_0_page) (pk_cons (pv 0) pk_nil)) pa_nil))))))
    (pss_cons (ps_par (i := 4) (j := 5) (by rfl) sc_Lpage_right.nd rfl rfl (by decide) rfl rfl (pa_cons (pe_callG (ok_Ltold_by T) hgd (hr.mono (by decide)) (by rfl) T.g_Ltold_by T.F_Ltold_by.kp T.bi_Ltold_by .nil (pa_cons (pv 0) pa_nil)) (pa_cons (pe_op op_sub pe_int (pe_callG (ok_Lones T) hgd (hr.mono (by decide)) (by rfl) T.g_Lones T.F_Lones.kp T.bi_Lones .nil (pa_cons (pe_op op_shr (pv 0) pe_int) pa_nil))) pa_nil)) (by rfl))
    (pss_one (ps_ret (pe_cmpR op_eq (pe_callB (cr_repr hgd hr.units) (by rfl) T.b_repr (by decide +kernel) (pa_cons (pv 3) pa_nil)) (pe_callB (cr_repr hgd hr.units) (by rfl) T.b_repr (by decide +kernel) (pa_cons (pe_lst (pa_cons (pv 2) (pa_cons (pv 2) (pa_cons (pv 1) (pa_cons (pv 1) (pa_cons (pv 4) (pa_cons (pv 4) (pa_cons (pv 5) (pa_cons (pv 5) pa_nil))))))))) pa_nil)) (nomark _))))))))), ?_⟩
  rw [show L2.start N_Lpage_right [a0] = [some a0, none, none, none, none, none] from rfl]
  obtain ⟨p, rfl, hp, q⟩ := h
  have ho := ones512 hp
  walk_at "vv"
  rw [full_eq, nd]
  refine v_joinP (fun v H' => v = .str (stateS p) ∧ Same H H') (fun c Q' q' => ?_) (fun c Q' q' => ?_) (fun v H1 hv => ?_)
  · walk_at "vv"
    exact q' _ _ ⟨by unfold stateS; rw [if_pos (of_decide_eq_true c)], fun _ _ e => e⟩
  · have c' := of_decide_eq_false c
    walk_at "vv"
    refine c1 ⟨p, rfl, hp, fun v1 H1 s1 nu => ?_⟩
    walk_at "vv"
    refine ⟨rfl, ?_⟩
    walk_at "vv"
    rcases nu with ⟨nw, rfl⟩ | ⟨w, t, rfl, nu⟩
    · rw [decide_eq_true rfl]
      walk_at "vv"
      exact q' _ _ ⟨by unfold stateS; rw [if_neg c', if_neg (show ¬ p % 1024 = 512 - ones (p / 1024) from nw)], s1⟩
    · rw [decide_eq_false (fun z => by cases z)]
      walk_at "vv"
      exact q' _ _ ⟨by rw [st_iff.mpr ⟨c', w⟩], s1⟩
  obtain ⟨rfl, s1⟩ := hv
  walk_at "vv"
  refine c1 ⟨p, rfl, hp, ?_⟩
  walk_at "vv"
  refine k1 ⟨p, rfl, hp, ?_⟩
  walk_at "vv"
  refine c1 ⟨p, rfl, hp, ?_⟩
  walk_at "vv"
  refine k1 ⟨p, rfl, hp, ?_⟩
  walk_at "vv"
  refine c1 ⟨p, rfl, hp, fun v2 H2 s2 t2 => ?_⟩
  walk_at "vv"
  refine a_lst (by simp) fun p3 H3 hp3 s3 e3 => ?_
  walk_at "vv"
  refine k1 ⟨p, rfl, hp, fun v4 H4 s4 t4 => ?_⟩
  walk_at "vv"
  refine c1 ⟨p, rfl, hp, ?_⟩
  walk_at "vv"
  refine k1 ⟨p, rfl, hp, ?_⟩
  walk_at "vv"
  refine a_lst (by simp) fun p5 H5 hp5 s5 e5 => ?_
  refine a_cat (s5 _ _ (s4 _ _ e3)) e5 (by simp) fun p6 H6 hp6 s6 e6 => ?_
  walk_at "vv"
  refine c1 ⟨p, rfl, hp, fun v7 H7 s7 t7 => ?_⟩
  walk_at "vv"
  refine v_I (show (0 : Int) ≤ 10 by decide) ?_
  rw [shr10]
  walk_at "vv"
  refine c1 ⟨p / 1024, rfl, ?_⟩
  walk_at "vv"
  rw [show (512 - ((ones (p / 1024) : Nat) : Int)) = ((512 - ones (p / 1024) : Nat) : Int) by omega]
  have tm : ∀ {H H' : Hp} {v : V}, Same H H' → Tl p H v → Tl p H' v := fun s t => by
    rcases t with t | ⟨a, b, t, rfl, e⟩
    · exact .inl t
    · exact .inr ⟨a, b, t, rfl, s _ _ e⟩
  refine v_repr (d := .list (dat3 p)) (.lst (sqL_of (s7 _ _ e6)) (.cons (.str _) (.cons (.str _) (.cons (.bl _) (.cons (.bl _) (.cons (tl_dp (tm (fun b o e => s7 _ _ (s6 _ _ (s5 _ _ (s4 _ _ (s3 _ _ e))))) t2)) (.cons (tl_dp (tm (fun b o e => s7 _ _ (s6 _ _ (s5 _ _ e))) t4)) (.cons (.int _) (.cons (.int _) .nil))))))))) (shw_mix (dat3_ok p) (by show 8 ≤ 10; decide)) ?_
  walk_at "vv"
  refine a_lst (by simp) fun p8 H8 hp8 s8 e8 => ?_
  walk_at "vv"
  refine v_repr (d := .list (dat3 p)) (.lst (sqL_of e8) (.cons (.str _) (.cons (.str _) (.cons (.bl _) (.cons (.bl _) (.cons (tl_dp (tm s8 t7)) (.cons (tl_dp (tm s8 t7)) (.cons (.int _) (.cons (.int _) .nil))))))))) (shw_mix (dat3_ok p) (by show 8 ≤ 10; decide)) ?_
  walk_at "vv"
  exact q H8 fun b o e => s8 _ _ (s7 _ _ (s6 _ _ (s5 _ _ (s4 _ _ (s3 _ _ (s2 _ _ (s1 _ _ e)))))))
def spo_lies_within (K : PySem.W.Frag) : Sp := sp2 fun v l H Q => ∃ i j : Nat, v = .int i ∧ l = .int j ∧ Q (.bl (decide (i &&& j = i))) H
abbrev sp_lies_within := spo_lies_within
theorem ok_lies_within (T : Txt K mg) : FnG P w K mg base 1 T.f_lies_within T.fd_lies_within ["inner", "outer"] (sp_lies_within K) := by
  refine okG T.F_lies_within sc_lies_within len2 (fun cdv A outer s H vs Q hgd hr h => ?_)
  obtain ⟨a0, a1, rfl, h⟩ := h
  refine ⟨_, (pss_one (ps_ret (pe_cmpR op_eq (pe_op op_and (pv 0) (pv 1)) (pv 0) (nomark _)))), ?_⟩
  rw [show L2.start N_lies_within [a0, a1] = [some a0, some a1] from rfl]
  obtain ⟨i, j, rfl, rfl, q⟩ := h
  walk_at "vv"
  rw [bA, show decide (((i &&& j : Nat) : Int) = (i : Int)) = decide (i &&& j = i) by simp [Int.natCast_inj]]
  exact q
def spo_is_within (K : PySem.W.Frag) : Sp := sp2 fun a b H Q => ∃ p x : Nat, a = .int p ∧ b = .int x ∧ p < MX ∧ x < MX ∧ Q (.bl (decide (p &&& x = p))) H
abbrev sp_is_within := spo_is_within
theorem ok_is_within (T : Txt K mg) : FnG P w K mg base 5 T.f_is_within T.fd_is_within ["page", "other"] (sp_is_within K) := by
  refine okG T.F_is_within sc_is_within len2 (fun cdv A outer s H vs Q hgd hr h => ?_)
  obtain ⟨a0, a1, rfl, h⟩ := h
  refine ⟨_, (pss_cons (ps_expr (pe_callG (ok_require_page T) hgd (hr.mono (by decide)) (by rfl) T.g_require_page T.F_require_page.kp T.bi_require_page .nil (pa_cons (pv 0) pa_nil)))
    (pss_cons (ps_expr (pe_callG (ok_require_page T) hgd (hr.mono (by decide)) (by rfl) T.g_require_page T.F_require_page.kp T.bi_require_page .nil (pa_cons (pv 1) pa_nil)))
    (pss_one (ps_ret (pe_callG (ok_lies_within T) hgd (hr.mono (by decide)) (by rfl) T.g_lies_within T.F_lies_within.kp T.bi_lies_within .nil (pa_cons (pv 0) (pa_cons (pv 1) pa_nil))))))), ?_⟩
  rw [show L2.start N_is_within [a0, a1] = [some a0, some a1] from rfl]
  obtain ⟨p, x, rfl, rfl, hp, hx, q⟩ := h
  walk_at "vv"
  refine c1 ⟨p, rfl, hp, ?_⟩
  walk_at "vv"
  refine c1 ⟨x, rfl, hx, ?_⟩
  walk_at "vv"
  refine c2 ⟨p, x, rfl, rfl, ?_⟩
  exact q
def spo_Lis_page (K : PySem.W.Frag) : Sp := sp1 fun v H Q => ∃ (M : Addr → Prop) (d : D), Is M H v d ∧ Q (.bl (d.btw 0 BLv)) H
abbrev sp_Lis_page := spo_Lis_page
theorem ok_Lis_page (T : Txt K mg) : FnG P w K mg base 1 T.f_Lis_page T.fd_Lis_page ["_law_thing"] (sp_Lis_page K) := by
  refine okG T.F_Lis_page sc_Lis_page len1 (fun cdv A outer s H vs Q hgd hr h => ?_)
  obtain ⟨a0, rfl, h⟩ := h
  refine ⟨_, (pss_one (ps_ret (pe_and (pe_callB call_isi (by rfl) T.b_isinstance (by decide +kernel) (pa_cons (pv 0) (pa_cons (pe_bltn (v := .ty "int") (by rfl) T.b_int (by decide +kernel) rfl) pa_nil))) (pe_and (pe_not (pe_callB call_isi (by rfl) T.b_isinstance (by decide +kernel) (pa_cons (pv 0) (pa_cons (pe_bltn (v := .ty "bool") (by rfl) T.b_bool (by decide +kernel) rfl) pa_nil)))) (pe_one (pe_chain op_le op_lt pe_int (pv 0) (pe_op op_shl pe_int pe_int))))))), ?_⟩
  rw [show L2.start N_Lis_page [a0] = [some a0] from rfl]
  obtain ⟨M, d, hi, q⟩ := h
  walk_at "vv"
  refine d_isInt hi ?_
  walk_at "vv"
  refine v_ifb (fun c => ?_) (fun c => ?_)
  · walk_at "vv"
    refine d_isBl hi ?_
    walk_at "vv"
    refine v_ifb (fun c2 => ?_) (fun c2 => ?_)
    · rw [show d.btw 0 BLv = false by cases d <;> simp_all [D.btw, D.isBl, D.isInt]] at q
      walk_at "vv"
      exact q
    · obtain ⟨i, rfl⟩ : ∃ i, d = .int i := by cases d <;> simp_all [D.isInt, D.isBl]
      cases hi
      walk_at "vv"
      refine v_ifd (fun c => ?_) (fun c => ?_)
      · walk_at "vv"
        rw [sh_eq]
        rw [show D.btw 0 BLv (.int i) = decide (i < ((MX : Nat) : Int)) by
          have h1 := MX_pos
          have h2 := BLv_eq
          simp only [D.btw]
          rw [h2]
          congr 1
          apply propext
          constructor
          · rintro ⟨a, b⟩; omega
          · intro a; exact ⟨c, by omega⟩] at q
        exact q
      · rw [show D.btw 0 BLv (.int i) = false by simp only [D.btw]; exact decide_eq_false fun z => c z.1] at q
        exact q
  · rw [show d.btw 0 BLv = false by cases d <;> simp_all [D.btw, D.isInt]] at q
    exact q
def spo_Lright (K : PySem.W.Frag) : Sp := sp1 fun v H Q => ∃ W : Addr, v = .ref W ∧ Wl [] H W ∧ ∀ (H' : Hp), Sx W H H' → Q (.bl true) H'
abbrev sp_Lright := spo_Lright
theorem ok_Lright (T : Txt K mg) : FnG P w K mg base 9 T.f_Lright T.fd_Lright ["_law_spring_here"] (sp_Lright K) := by
  refine okG T.F_Lright sc_Lright len1 (fun cdv A outer s H vs Q hgd hr h => ?_)
  obtain ⟨a0, rfl, h⟩ := h
  refine ⟨_, (pss_cons (ps_par (i := 1) (j := 2) (by rfl) sc_Lright.nd rfl rfl (by decide) rfl rfl (pa_cons (pe_callG (ok_Lany T) hgd (hr.mono (by decide)) (by rfl) T.g_Lany T.F_Lany.kp T.bi_Lany .nil (pa_cons (pv 0) pa_nil)) (pa_cons (pe_callG (ok_Lany T) hgd (hr.mono (by decide)) (by rfl) T.g_Lany T.F_Lany.kp T.bi_Lany .nil (pa_cons (pv 0) pa_nil)) pa_nil)) (by rfl))
    (pss_cons (ps_set (i := 2) sc_Lright.nd rfl (.inl rfl) (pe_ifExp (pt_cmpR op_eq (pe_callG (ok_Ldraw T) hgd (hr.mono (by decide)) (by rfl) T.g_Ldraw T.F_Ldraw.kp T.bi_Ldraw .nil (pa_cons (pv 0) (pa_cons pe_int pa_nil))) pe_int (nomark _)) (pe_op op_and (pv 1) (pv 2)) (pv 2)))
    (pss_cons (ps_if (PW.pt (pw_or (pt_not (pt_val (pe_callG (ok_Lpage_right T) hgd (hr.mono (by decide)) (by rfl) T.g_Lpage_right T.F_Lpage_right.kp T.bi_Lpage_right .nil (pa_cons (pv 1) pa_nil)))) (pw_or1 (pt_not (pt_val (pe_callG (ok_Lpage_right T) hgd (hr.mono (by decide)) (by rfl) T.g_Lpage_right T.F_Lpage_right.kp T.bi_Lpage_right .nil (pa_cons (pv 2) pa_nil))))))) (pss_one (ps_ret pe_bl)) pss_nil)
    (pss_cons (ps_par (i := 3) (j := 4) (by rfl) sc_Lright.nd rfl rfl (by decide) rfl rfl (pa_cons (pe_lst (pa_cons (pe_glob (v := .int 522) rfl T.c_WIDTH ⟨_, rfl⟩) (pa_cons (pe_glob (v := .int BLv) rfl T.c_BLANK ⟨_, rfl⟩) pa_nil))) (pa_cons (pe_lst (pa_cons pe_int (pa_cons (pe_op op_sub (pe_op op_shl pe_int pe_int) pe_int) pa_nil))) pa_nil)) (by rfl))
    (pss_cons (ps_for PassesOwn.never rfl (pi_tup (pe_tup (pa_cons (pe_tup (pa_cons (pv 1) (pa_cons (pv 2) pa_nil))) (pa_cons (pe_tup (pa_cons (pv 2) (pa_cons (pv 1) pa_nil))) (pa_cons (pe_tup (pa_cons (pv 1) (pa_cons (pv 1) pa_nil))) (pa_cons (pe_tup (pa_cons (pv 1) (pa_cons (pe_op op_or (pv 1) (pv 2)) pa_nil))) pa_nil)))))) (pg_tup (by rfl) (pgs_cons (pg_name (i := 5) sc_Lright.nd rfl (.inl rfl)) (pgs_cons (pg_name (i := 6) sc_Lright.nd rfl (.inl rfl)) pgs_nil)))
      (pss_cons (ps_expr (pe_bm PySem.F.plainAttrs_list PySem.F.slot_list_append PySem.F.type_list_append mt_append (pv 3) (pa_cons (pe_lst (pa_cons (pe_callG (ok_is_within T) hgd (hr.mono (by decide)) (by rfl) T.g_is_within T.F_is_within.kp T.bi_is_within .nil (pa_cons (pv 5) (pa_cons (pv 6) pa_nil))) (pa_cons (pe_callGK0 (ok_is_within T) hgd (hr.mono (by decide)) (by rfl) T.g_is_within T.F_is_within.kp (T.kb_is_within_0_other_page) (pk_cons (pv 6) (pk_cons (pv 5) pk_nil))) pa_nil))) pa_nil)))
      (pss_one (ps_expr (pe_bm PySem.F.plainAttrs_list PySem.F.slot_list_append PySem.F.type_list_append mt_append (pv 4) (pa_cons (pe_op op_rep (pe_lst (pa_cons (pe_cmpR op_eq (pe_op op_and (pv 5) (pv 6)) (pv 5) (nomark _)) pa_nil)) pe_int) pa_nil))))))
    (pss_cons (ps_for PassesOwn.never rfl (pi_list (pe_callG (ok_Lthings T) hgd (hr.mono (by decide)) (by rfl) T.g_Lthings T.F_Lthings.kp T.bi_Lthings .nil (pa_cons (pv 0) (pa_cons (pv 1) pa_nil)))) (pg_name (i := 7) sc_Lright.nd rfl (.inl rfl))
      (pss_cons (ps_expr (pe_bm PySem.F.plainAttrs_list PySem.F.slot_list_append PySem.F.type_list_append mt_append (pv 3) (pa_cons (pe_lst (pa_cons (pe_callG (ok_is_page T) hgd (hr.mono (by decide)) (by rfl) T.g_is_page T.F_is_page.kp T.bi_is_page .nil (pa_cons (pv 7) pa_nil)) (pa_cons (pe_callGK0 (ok_is_page T) hgd (hr.mono (by decide)) (by rfl) T.g_is_page T.F_is_page.kp (T.kb_is_page_0_value) (pk_cons (pv 7) pk_nil)) pa_nil))) pa_nil)))
      (pss_one (ps_expr (pe_bm PySem.F.plainAttrs_list PySem.F.slot_list_append PySem.F.type_list_append mt_append (pv 4) (pa_cons (pe_op op_rep (pe_lst (pa_cons (pe_callG (ok_Lis_page T) hgd (hr.mono (by decide)) (by rfl) T.g_Lis_page T.F_Lis_page.kp T.bi_Lis_page .nil (pa_cons (pv 7) pa_nil)) pa_nil)) pe_int) pa_nil))))))
    (pss_one (ps_ret (pe_cmpR op_eq (pe_callB (cr_repr hgd hr.units) (by rfl) T.b_repr (by decide +kernel) (pa_cons (pv 3) pa_nil)) (pe_callB (cr_repr hgd hr.units) (by rfl) T.b_repr (by decide +kernel) (pa_cons (pv 4) pa_nil)) (nomark _)))))))))), ?_⟩
  rw [show L2.start N_Lright [a0] = [some a0, none, none, none, none, none, none, none] from rfl]
  obtain ⟨W, rfl, hw, q⟩ := h
  walk_at "vv"
  refine c1 ⟨W, rfl, hw, fun p H1 hp s1 w1 => ?_⟩
  walk_at "vv"
  refine c1 ⟨W, rfl, w1, fun x0 H2 hx0 s2 w2 => ?_⟩
  walk_at "vv"
  refine c2 ⟨W, 3, rfl, rfl, w2, by decide, by decide, fun r H3 hr s3 w3 => ?_⟩
  walk_at "vv"
  refine v_joinN (fun o => o < MX) (fun c Q' q' => ?_) (fun c Q' q' => ?_) (fun x hx => ?_)
  · walk_at "vv"
    rw [bA]
    exact q' _ (lt_and (n := 522) hp)
  · walk_at "vv"
    exact q' _ hx0
  walk_at "vv"
  refine c1 ⟨p, rfl, hp, fun H4 s4 => ?_⟩
  walk_at "vv"
  refine c1 ⟨x, rfl, hx, fun H5 s5 => ?_⟩
  walk_at "vv"
  refine a_lst (by simp) fun T0 H6 hT0 s6 e6 => ?_
  walk_at "vv"
  refine a_lst (by simp) fun U0 H7 hU0 s7 e7 => ?_
  walk_at "vv"
  have w6 := ((w3.of s4).of s5).of s6
  have td : TDx T0 U0 W _ _ [.int 522, .int _] [.int 522, .int _] H7 := ⟨s7 _ _ e6, e7, w6.of s7, ⟨ne_of_none e6 hU0, ((w3.of s4).of s5).ne hT0, w6.ne hU0⟩, .cons (.int _) (.cons (.int _) .nil), .cons (.int _) (.cons (.int _) .nil)⟩
  rw [full_eq, ← BLv_eq] at td
  have sx5 : Sx W H H5 := s1.trans (s2.trans (s3.trans ((Sx.of s4).trans (Sx.of s5))))
  have sxx : Sx W H H7 := sx5.trans ((Sx.of s6).trans (Sx.of s7))
  have nT : H T0 = none := sx5.free hT0 td.ap.2.1
  have nU : H U0 = none := (sx5.trans (Sx.of s6)).free hU0 td.ap.2.2
  refine a_tup (by simp) fun pa H8 hpa s8 e8 => ?_
  walk_at "vv"
  refine a_tup (by simp) fun pb H9 hpb s9 e9 => ?_
  walk_at "vv"
  refine a_tup (by simp) fun pc H10 hpc s10 e10 => ?_
  walk_at "vv"
  refine a_tup (by simp) fun pd H11 hpd s11 e11 => ?_
  walk_at "vv"
  refine a_tup (by simp) fun po H12 hpo s12 e12 => ?_
  walk_at "vv"
  rw [bO] at e11
  have t8 := td.same s8
  have t9 := t8.same s9
  have t10 := t9.same s10
  have t11 := t10.same s11
  have t12 := t11.same s12
  have hL : ∀ d ∈ [D.tup [.int p, .int x], .tup [.int x, .int p], .tup [.int p, .int p], .tup [.int p, .int ((p ||| x : Nat) : Int)]], ∃ a b : Nat, d = .tup [.int a, .int b] ∧ a < MX ∧ b < MX := by
    intro d hd
    simp only [List.mem_cons, List.not_mem_nil, or_false] at hd
    rcases hd with h | h | h | h <;> subst h
    · exact ⟨p, x, rfl, hp, hx⟩
    · exact ⟨x, p, rfl, hx, hp⟩
    · exact ⟨p, p, rfl, hp, hp⟩
    · exact ⟨p, p ||| x, rfl, hp, lt_or (n := 522) hp hx⟩
  have iL : IsAll (M3 T0 U0 W) H12 [.ref pa, .ref pb, .ref pc, .ref pd] [D.tup [.int p, .int x], .tup [.int x, .int p], .tup [.int p, .int p], .tup [.int p, .int ((p ||| x : Nat) : Int)]] :=
    .cons (.tup (s12 _ _ (s11 _ _ (s10 _ _ (s9 _ _ e8)))) (td.free hpa) (.cons (.int _) (.cons (.int _) .nil))) (.cons (.tup (s12 _ _ (s11 _ _ (s10 _ _ e9))) (t8.free hpb) (.cons (.int _) (.cons (.int _) .nil))) (.cons (.tup (s12 _ _ (s11 _ _ e10)) (t9.free hpc) (.cons (.int _) (.cons (.int _) .nil))) (.cons (.tup (s12 _ _ e11) (t10.free hpd) (.cons (.int _) (.cons (.int _) .nil))) .nil)))
  have nO := t11.free hpo
  have sx12 : Sx W H H12 := sxx.trans ((Sx.of s8).trans ((Sx.of s9).trans ((Sx.of s10).trans ((Sx.of s11).trans (Sx.of s12)))))
  have cB : Cell (.int BLv) := .inl ⟨BLv, rfl, by decide +kernel⟩
  have c5 : Cell (.int 522) := .inl ⟨522, rfl, by decide +kernel⟩
  generalize [D.tup [.int p, .int x], .tup [.int x, .int p], .tup [.int p, .int p], .tup [.int p, .int ((p ||| x : Nat) : Int)]] = L4 at iL hL
  refine ⟨⟨_, sqT_of e12⟩, ?_⟩
  refine for_tup (xs := [V.ref pa, V.ref pb, V.ref pc, V.ref pd]) (fun i σ H' => ∃ (y1 y2 : Option V) (tv uv : List V) (ds : List D), σ = [some (V.ref W), some (V.int p), some (V.int x), some (V.ref T0), some (V.ref U0), y1, y2, none] ∧ TDx T0 U0 W tv uv ds ds H' ∧ ds.length = 2 + i ∧ (∀ d ∈ ds, Cell d) ∧ Sx W H H' ∧ H' po = some (.tup [V.ref pa, V.ref pb, V.ref pc, V.ref pd]) ∧ IsAll (M3 T0 U0 W) H' [V.ref pa, V.ref pb, V.ref pc, V.ref pd] L4)
    ⟨none, none, _, _, _, rfl, t12, rfl, by intro d hd; simp only [List.mem_cons, List.not_mem_nil, or_false] at hd; rcases hd with rfl | rfl; exact c5; exact cB, sx12, e12, iL⟩ ?_ ?_ ?_
  · rintro i σ H' _ ⟨y1, y2, tv, uv, ds, rfl, t, hl, hc, sx, eo, il⟩
    exact sqT_of eo
  · rintro i v σ H' hv ⟨y1, y2, tv, uv, ds, rfl, t, hl, hc, sx, eo, il⟩
    have hi : i < 4 := by
      rcases Nat.lt_or_ge i 4 with h | h
      · exact h
      · rw [List.getElem?_eq_none (by simpa using h)] at hv; cases hv
    obtain ⟨d, hd, iv⟩ := il.get hv
    obtain ⟨a, b, rfl, ha, hb⟩ := hL d (List.mem_of_getElem? hd)
    cases iv with
    | tup ev nv iv =>
    cases iv with
    | cons i1 iv =>
    cases iv with
    | cons i2 iv =>
    cases i1
    cases i2
    cases iv
    refine v_gtup (sqT_of ev) rfl ?_
    walk_at "vv"
    refine ⟨tyL t.t, ?_⟩
    walk_at "vv"
    refine c2 ⟨a, b, rfl, rfl, ha, hb, ?_⟩
    walk_at "vv"
    refine k2 ⟨a, b, rfl, rfl, ha, hb, ?_⟩
    walk_at "vv"
    refine a_lst (by simp) fun q1 G1 hq1 z1 f1 => ?_
    have u1 := t.same z1
    have hlt : tv.length = ds.length := t.ti.len
    have hlu : uv.length = ds.length := t.ui.len
    walk_at "vv"
    refine v_append u1.t (by omega) ?_
    have u2 := u1.addT (v := .ref q1) (d := .lst [.bl (decide (a &&& b = a)), .bl (decide (a &&& b = a))]) (.lst f1 (t.free hq1) (.cons (.bl _) (.cons (.bl _) .nil)))
    walk_at "vv"
    refine ⟨tyL u2.u, ?_⟩
    walk_at "vv"
    refine a_lst (by simp) fun q2 G2 hq2 z2 f2 => ?_
    walk_at "vv"
    refine a_rep (k := 2) f2 (by decide) fun q3 G3 hq3 z3 f3 => ?_
    have u3 := (u2.same z2).same z3
    walk_at "vv"
    refine v_append u3.u (by omega) ?_
    rw [bA, nd] at f3
    have u4 := u3.addU (v := .ref q3) (d := .lst [.bl (decide (a &&& b = a)), .bl (decide (a &&& b = a))]) (.lst f3 ((u2.same z2).free hq3) (.cons (.bl _) (.cons (.bl _) .nil)))
    have fr : Fr (M3 T0 U0 W) H' _ := fun b' o n e => fr_U (T := T0) (W := W) (o := .lst (uv ++ [V.ref q3])) b' o n (z3 _ _ (z2 _ _ (fr_T (U := U0) (W := W) (o := .lst (tv ++ [V.ref q1])) b' o n (z1 _ _ e))))
    refine ⟨_, _, _, _, _, rfl, u4, by rw [List.length_append, hl]; rfl, ?_, ?_, fr _ _ nO eo, il.fr fr⟩
    · intro d hd
      rcases List.mem_append.mp hd with h | h
      · exact hc d h
      · rw [List.mem_singleton.mp h]; exact cell_two _ _
    · exact ((((sx.trans (Sx.of z1)).own nT).trans (Sx.of z2)).trans (Sx.of z3)).own nU
  · rintro σ H' ⟨y1, y2, tv, uv, ds, rfl, t, hl, hc, sx, _, _⟩
    dsimp only
    walk_at "vv"
    refine c2 ⟨W, p, rfl, rfl, hp, t.w, fun l xs es G hl2 hl3 il hx2 sx2 w2 => ?_⟩
    walk_at "vv"
    have t2 := t.sx sx2 w2
    have il2 := il.weak t.old
    have nl := t.free hl3
    refine ⟨⟨_, sqL_of hl2⟩, ?_⟩
    refine for_list (xs := xs) (fun i σ H' => ∃ (y : Option V) (tv uv : List V) (ds : List D), σ = [some (V.ref W), some (V.int p), some (V.int x), some (V.ref T0), some (V.ref U0), y1, y2, y] ∧ TDx T0 U0 W tv uv ds ds H' ∧ ds.length = 6 + i ∧ (∀ d ∈ ds, Cell d) ∧ Sx W H H' ∧ H' l = some (.lst xs) ∧ IsAll (M3 T0 U0 W) H' xs es)
      ⟨none, _, _, _, rfl, t2, by rw [hl]; rfl, hc, sx.trans sx2, hl2, il2⟩ ?_ ?_ ?_
    · rintro i σ H' _ ⟨y, tv, uv, ds, rfl, t, hl, hc, sx, eo, il⟩
      exact sqL_of eo
    · rintro i v σ H' hv ⟨y, tv, uv, ds, rfl, t, hl, hc, sx, eo, il⟩
      have hi : i < 12 := by
        rcases Nat.lt_or_ge i 12 with h | h
        · exact h
        · rw [List.getElem?_eq_none (by omega)] at hv; cases hv
      obtain ⟨d, hd, iv⟩ := il.get hv
      walk_at "vv"
      refine ⟨tyL t.t, ?_⟩
      walk_at "vv"
      refine c1 ⟨_, d, iv, ?_⟩
      walk_at "vv"
      refine k1 ⟨_, d, iv, ?_⟩
      walk_at "vv"
      refine a_lst (by simp) fun q1 G1 hq1 z1 f1 => ?_
      have u1 := t.same z1
      have hlt : tv.length = ds.length := t.ti.len
      have hlu : uv.length = ds.length := t.ui.len
      walk_at "vv"
      refine v_append u1.t (by omega) ?_
      have u2 := u1.addT (v := .ref q1) (d := .lst [.bl (d.btw 0 BLv), .bl (d.btw 0 BLv)]) (.lst f1 (t.free hq1) (.cons (.bl _) (.cons (.bl _) .nil)))
      walk_at "vv"
      refine ⟨tyL u2.u, ?_⟩
      walk_at "vv"
      have fr1 : Fr (M3 T0 U0 W) H' _ := fun b' o n e => fr_T (U := U0) (W := W) (o := .lst (tv ++ [V.ref q1])) b' o n (z1 _ _ e)
      refine c1 ⟨_, d, iv.fr fr1, ?_⟩
      walk_at "vv"
      refine a_lst (by simp) fun q2 G2 hq2 z2 f2 => ?_
      walk_at "vv"
      refine a_rep (k := 2) f2 (by decide) fun q3 G3 hq3 z3 f3 => ?_
      have u3 := (u2.same z2).same z3
      walk_at "vv"
      refine v_append u3.u (by omega) ?_
      have u4 := u3.addU (v := .ref q3) (d := .lst [.bl (d.btw 0 BLv), .bl (d.btw 0 BLv)]) (.lst f3 ((u2.same z2).free hq3) (.cons (.bl _) (.cons (.bl _) .nil)))
      have fr : Fr (M3 T0 U0 W) H' _ := fun b' o n e => fr_U (T := T0) (W := W) (o := .lst (uv ++ [V.ref q3])) b' o n (z3 _ _ (z2 _ _ (fr1 b' o n e)))
      refine ⟨_, _, _, _, rfl, u4, by rw [List.length_append, hl]; rfl, ?_, ?_, fr _ _ nl eo, il.fr fr⟩
      · intro d hd
        rcases List.mem_append.mp hd with h | h
        · exact hc d h
        · rw [List.mem_singleton.mp h]; exact cell_two _ _
      · exact ((((sx.trans (Sx.of z1)).own nT).trans (Sx.of z2)).trans (Sx.of z3)).own nU
    · rintro σ H' ⟨y, tv, uv, ds, rfl, t, hl, hc, sx, _, _⟩
      dsimp only
      have nd := nods_all fun d hd => (hc d hd).nod
      have sw := shw_cells hc (by omega)
      walk_at "vv"
      refine v_repr (.lst (sqL_of t.t) (t.ti.dp _ _ nd)) sw ?_
      walk_at "vv"
      refine v_repr (.lst (sqL_of t.u) (t.ui.dp _ _ nd)) sw ?_
      walk_at "vv"
      exact q H' sx
def spo_Lspring (K : PySem.W.Frag) : Sp := sp2 fun s t H Q => ∃ (a : Addr) (ns : List Int) (k : Nat), s = .ref a ∧ t = .int k ∧ SqL K H a (ns.map V.int) ∧ ns.length ≤ 63 ∧ ∀ (W : Addr) (H' : Hp), H W = none → Same H H' → Wl [] H' W → Q (.ref W) H'
abbrev sp_Lspring := spo_Lspring
theorem ok_Lspring (T : Txt K mg) : FnG P w K mg base 1 T.f_Lspring T.fd_Lspring ["_law_script", "_law_turn"] (sp_Lspring K) := by
  refine okG T.F_Lspring sc_Lspring len2 (fun cdv A outer s H vs Q hgd hr h => ?_)
  obtain ⟨a0, a1, rfl, h⟩ := h
  refine ⟨_, (pss_cons (ps_set (i := 2) sc_Lspring.nd rfl (.inl rfl) (pe_op op_add pe_int (pe_op op_mul pe_int (pv 1))))
    (pss_cons (ps_for PassesOwn.never rfl (pi_list (pe_slice sl_list (pv 0) po_none (po_some pe_int))) (pg_name (i := 3) sc_Lspring.nd rfl (.inl rfl))
      (pss_one (ps_set (i := 2) sc_Lspring.nd rfl (.inl rfl) (pe_op op_modN (pe_callTy cv_int (by rfl) T.b_int (by decide +kernel) (pa_cons (pe_op op_add (pe_op op_add (pe_op op_mul (pv 2) pe_int) (pe_op op_modN (pe_callTy cv_int (by rfl) T.b_int (by decide +kernel) (pa_cons (pv 3) pa_nil)) pe_int)) pe_int) pa_nil)) pe_int))))
    (pss_cons (ps_set (i := 4) sc_Lspring.nd rfl (.inl rfl) (pe_ifExp (pt_cmpR op_lt (pv 1) (pe_callB cv_len (by rfl) T.b_len PySem.boot_len (pa_cons (pv 0) pa_nil)) (nomark _)) (pe_callTy cv_int (by rfl) T.b_int (by decide +kernel) (pa_cons (pe_ix ix_list (pv 0) (pv 1) (fun _ _ => rfl)) pa_nil)) pe_int))
    (pss_cons (ps_set (i := 2) sc_Lspring.nd rfl (.inl rfl) (pe_op op_modN (pe_callTy cv_int (by rfl) T.b_int (by decide +kernel) (pa_cons (pe_op op_add (pe_op op_add (pe_op op_mul (pv 2) pe_int) (pe_op op_mul (pe_op op_modN (pe_callTy cv_int (by rfl) T.b_int (by decide +kernel) (pa_cons (pv 4) pa_nil)) pe_int) pe_int)) pe_int) pa_nil)) pe_int))
    (pss_one (ps_ret (pe_lst (pa_cons (pe_ifExp (PW.pt (pw_or (pt_cmpR op_lt (pv 4) pe_int (nomark _)) (pw_or1 (pt_cmpR op_ge (pv 4) (pe_op op_pow pe_int pe_int) (nomark _))))) (pe_callB cv_abs (by rfl) T.b_abs (by decide +kernel) (pa_cons (pv 4) pa_nil)) pe_int) (pa_cons (pv 2) (pa_cons pe_int pa_nil)))))))))), ?_⟩
  rw [show L2.start N_Lspring [a0, a1] = [some a0, some a1, none, none, none] from rfl]
  obtain ⟨a, ns, k, rfl, rfl, hS, hl, q⟩ := h
  walk_at "vv"
  refine a_slL hS (fun c H1 hc s1 h1 => ?_)
  walk_at "vv"
  refine ⟨⟨_, sqL_of h1⟩, ?_⟩
  refine for_list (xs := cutV (ns.map V.int) none (some 8)) (fun i σ H' => ∃ (m : Int) (y : Option V), σ = [some (.ref a), some (.int k), some (.int m), y, none] ∧ H' = H1) ⟨_, none, rfl, rfl⟩ ?_ ?_ ?_
  · rintro i σ H' _ ⟨m, y, rfl, rfl⟩
    exact sqL_of h1
  · rintro i x σ H' hx ⟨m, y, rfl, rfl⟩
    obtain ⟨z, rfl⟩ := cut_ints hx
    walk_at "vv"
    exact ⟨_, _, rfl, rfl⟩
  · rintro σ H' ⟨m, y, rfl, rfl⟩
    dsimp only
    walk_at "vv"
    refine v_lenL (s1.seq hS) ?_
    walk_at "vv"
    refine v_joinI (fun c Q' q' => ?_) (fun c Q' q' => ?_) (fun o => ?_)
    · walk_at "vv"
      rw [List.length_map, decide_eq_true_eq] at c
      refine v_ixL (s1.seq hS) (atI_nat (j := k) (by rw [List.getElem?_map, List.getElem?_eq_getElem (by omega)]; rfl)) ?_
      walk_at "vv"
      exact q' _
    · walk_at "vv"
      exact q' _
    · walk_at "vv"
      have fin : ∀ (p : Addr) (o1 o2 : Int), H' p = none → Q (.ref p) (upd H' p (.lst [.int o1, .int o2, .int 0])) := fun p o1 o2 hp => q p _ (s1.free hp) (s1.trans (same_new hp)) ⟨_, _, _, upd_same⟩
      refine v_ifd (fun c => ?_) (fun c => ?_)
      · walk_at "vv"
        exact n_lst (by simp) fun p hp => fin p _ _ hp
      · walk_at "vv"
        refine v_ifd (fun c => ?_) (fun c => ?_)
        · walk_at "vv"
          exact n_lst (by simp) fun p hp => fin p _ _ hp
        · walk_at "vv"
          exact n_lst (by simp) fun p hp => fin p _ _ hp
def spo_law (K : PySem.W.Frag) : Sp := sp1 fun v H Q => ∃ (a : Addr) (ns : List Int), v = .ref a ∧ SqL K H a (ns.map V.int) ∧ ns.length ≤ 63 ∧ ∀ H', Q (.bl true) H'
abbrev sp_law := spo_law
theorem ok_law (T : Txt K mg) : FnG P w K mg base 10 T.f_law T.fd_law ["_law_script"] (sp_law K) := by
  refine okG T.F_law sc_law len1 (fun cdv A outer s H vs Q hgd hr h => ?_)
  obtain ⟨a0, rfl, h⟩ := h
  refine ⟨_, (pss_one (ps_ret (pe_callB (cr_all rfl) (by rfl) T.b_all (by decide +kernel) (pa_cons (pe_lc (own := [("_law_turn", 1)]) (g := gName 1) (tt := tYes) (by rfl) sc_law.nd (pi_range1 rfl T.b_range (pa_cons (pe_callB (cv_max rfl) (by rfl) T.b_max (by decide +kernel) (pa_cons pe_int (pa_cons (pe_callB (cv_min rfl) (by rfl) T.b_min (by decide +kernel) (pa_cons (pe_callB cv_len (by rfl) T.b_len PySem.boot_len (pa_cons (pv 0) pa_nil)) (pa_cons pe_int pa_nil))) pa_nil))) pa_nil)) (blkOk_by (own := [("_law_turn", 1)]) (N := N_law) (sc := defScope s_law) (by decide +kernel)) (fun _ _ _ _ _ => pg_name (i := 1) sc_law.nd rfl (Or.inl rfl)) (fun _ _ _ _ _ => pts_nil) (fun _ _ _ _ _ => (pe_callG (ok_Lright T) hgd (hr.mono (by decide)) (by rfl) T.g_Lright T.F_Lright.kp T.bi_Lright .nil (pa_cons (pe_callG (ok_Lspring T) hgd (hr.mono (by decide)) (by rfl) T.g_Lspring T.F_Lspring.kp T.bi_Lspring .nil (pa_cons (pv 0) (pa_cons (pv 1) pa_nil))) pa_nil)))) pa_nil)))), ?_⟩
  rw [show L2.start N_law [a0] = [some a0, none] from rfl]
  obtain ⟨a, ns, rfl, hS, hl, q⟩ := h
  walk_at "vv"
  refine v_lenL hS ?_
  walk_at "vv"
  rw [List.length_map]
  obtain ⟨n, hn, hn2⟩ : ∃ n : Nat, n ≤ 3 ∧ (if (if (3 : Int) < (ns.length : Int) then 3 else (ns.length : Int)) > 2 then (if (3 : Int) < (ns.length : Int) then 3 else (ns.length : Int)) else 2) = (n : Int) := by
    by_cases h3 : (3 : Int) < (ns.length : Int)
    · exact ⟨3, by omega, by rw [if_pos h3]; rfl⟩
    · rw [if_neg h3]
      by_cases h2 : (ns.length : Int) > 2
      · exact ⟨ns.length, by omega, by rw [if_pos h2]⟩
      · exact ⟨2, by omega, by rw [if_neg h2]; rfl⟩
  rw [hn2]
  refine ⟨n, rfl, by omega, by omega, fun D hD => ?_⟩
  refine lc_range (lo := 0) (n := n) (fun i H2 => H2 D = some (.lst (List.replicate i (.bl true))) ∧ Same H H2) ⟨upd_same, same_new hD⟩ ?_ ?_
  · rintro i H2 hi ⟨hD2, s2⟩
    walk_at "vv"
    refine ⟨rfl, ?_⟩
    walk_at "vv"
    rw [Int.zero_add]
    refine c2 ⟨a, ns, i, rfl, rfl, s2.seq hS, hl, fun W H3 hW s3 w3 => ?_⟩
    walk_at "vv"
    refine c1 ⟨W, rfl, w3, fun H4 s4 => ?_⟩
    have s24 := same_sx hW s3 s4
    refine ⟨_, s24 _ _ hD2, by rw [List.length_replicate]; exact small1000 (by omega), ?_, ?_⟩
    · rw [upd_same, rep_more]
    · exact same_own (s2.trans s24) hD
  · rintro H2 ⟨hD2, s2⟩
    walk_at "vv"
    refine v_allT hD2 ?_
    exact q H2
end
theorem law_start (K : PySem.W.Frag) (H : Hp) (a : Addr) (ns : List Int) (hl : ns.length ≤ 63) (hS : SqL K H a (ns.map V.int)) (_ : ∀ b o, H b = some o → ∃ ob xs, o = .frz ob (.lst xs)) : sp_law K [.ref a] H (fun v _ => v = .bl true) E0 :=
  ⟨_, rfl, a, ns, rfl, hS, hl, fun _ => rfl⟩

theorem law_at {P : Program} {w : World} {K : PySem.W.Frag} {mg : Str → Option Value} {base : Heap} {fa : Addr} {fd : FuncData} (T : Txt K mg) (e1 : T.f_law = fa) (e2 : T.fd_law = fd) : FnG P w K mg base 10 fa fd ["_law_script"] (sp_law K) := by
  subst e1
  subst e2
  exact ok_law T
/-! ### what the top has written -/
theorem all_mk {l : PySem.W.OpenLaw} {w : World} {K : PySem.W.Frag} {h : Heap} {mg : Str → Option Value} {fa : Addr} (X : K.In h) (G : h.Ns mainGlobals mg) (hfa : mg "law" = some (.ref fa))
    {od0 an0 : Option Addr} {sl0 : Array (Option Value)} {oc0 kV0 dc0 pm0 ct0 : Value} {cd0 : Value} {f0 : Addr}
    {od1 an1 : Option Addr} {sl1 : Array (Option Value)} {oc1 kV1 dc1 pm1 ct1 : Value} {cd1 : Value} {f1 : Addr}
    {od2 an2 : Option Addr} {sl2 : Array (Option Value)} {oc2 kV2 dc2 pm2 ct2 : Value} {cd2 : Value} {f2 : Addr}
    {od3 an3 : Option Addr} {sl3 : Array (Option Value)} {oc3 kV3 dc3 pm3 ct3 : Value} {cd3 : Value} {f3 : Addr}
    {od4 an4 : Option Addr} {sl4 : Array (Option Value)} {oc4 kV4 dc4 pm4 ct4 : Value} {cd4 : Value} {f4 : Addr}
    {od5 an5 : Option Addr} {sl5 : Array (Option Value)} {oc5 kV5 dc5 pm5 ct5 : Value} {cd5 : Value} {f5 : Addr}
    {od6 an6 : Option Addr} {sl6 : Array (Option Value)} {oc6 kV6 dc6 pm6 ct6 : Value} {cd6 : Value} {f6 : Addr}
    {od7 an7 : Option Addr} {sl7 : Array (Option Value)} {oc7 kV7 dc7 pm7 ct7 : Value} {cd7 : Value} {f7 : Addr}
    {od8 an8 : Option Addr} {sl8 : Array (Option Value)} {oc8 kV8 dc8 pm8 ct8 : Value} {cd8 : Value} {f8 : Addr}
    {od9 an9 : Option Addr} {sl9 : Array (Option Value)} {oc9 kV9 dc9 pm9 ct9 : Value} {cd9 : Value} {f9 : Addr}
    {od10 an10 : Option Addr} {sl10 : Array (Option Value)} {oc10 kV10 dc10 pm10 ct10 : Value} {cd10 : Value} {f10 : Addr}
    {od11 an11 : Option Addr} {sl11 : Array (Option Value)} {oc11 kV11 dc11 pm11 ct11 : Value} {cd11 : Value} {f11 : Addr}
    {od12 an12 : Option Addr} {sl12 : Array (Option Value)} {oc12 kV12 dc12 pm12 ct12 : Value} {cd12 : Value} {f12 : Addr}
    {od13 an13 : Option Addr} {sl13 : Array (Option Value)} {oc13 kV13 dc13 pm13 ct13 : Value} {cd13 : Value} {f13 : Addr}
    {od14 an14 : Option Addr} {sl14 : Array (Option Value)} {oc14 kV14 dc14 pm14 ct14 : Value} {cd14 : Value} {f14 : Addr}
    {od15 an15 : Option Addr} {sl15 : Array (Option Value)} {oc15 kV15 dc15 pm15 ct15 : Value} {cd15 : Value} {f15 : Addr}
    {od16 an16 : Option Addr} {sl16 : Array (Option Value)} {oc16 kV16 dc16 pm16 ct16 : Value} {cd16 : Value} {f16 : Addr}
    {od17 an17 : Option Addr} {sl17 : Array (Option Value)} {oc17 kV17 dc17 pm17 ct17 : Value} {cd17 : Value} {f17 : Addr}
    {od18 an18 : Option Addr} {sl18 : Array (Option Value)} {oc18 kV18 dc18 pm18 ct18 : Value} {cd18 : Value} {f18 : Addr}
    {od19 an19 : Option Addr} {sl19 : Array (Option Value)} {oc19 kV19 dc19 pm19 ct19 : Value} {cd19 : Value} {f19 : Addr}
    {od20 an20 : Option Addr} {sl20 : Array (Option Value)} {oc20 kV20 dc20 pm20 ct20 : Value} {cd20 : Value} {f20 : Addr}
    {od21 an21 : Option Addr} {sl21 : Array (Option Value)} {oc21 kV21 dc21 pm21 ct21 : Value} {cd21 : Value} {f21 : Addr}
    {od22 an22 : Option Addr} {sl22 : Array (Option Value)} {oc22 kV22 dc22 pm22 ct22 : Value} {cd22 : Value} {f22 : Addr}
    {od23 an23 : Option Addr} {sl23 : Array (Option Value)} {oc23 kV23 dc23 pm23 ct23 : Value} {cd23 : Value} {f23 : Addr}
    {od24 an24 : Option Addr} {sl24 : Array (Option Value)} {oc24 kV24 dc24 pm24 ct24 : Value} {cd24 : Value} {f24 : Addr}
    {od25 an25 : Option Addr} {sl25 : Array (Option Value)} {oc25 kV25 dc25 pm25 ct25 : Value} {cd25 : Value} {f25 : Addr}
    {od26 an26 : Option Addr} {sl26 : Array (Option Value)} {oc26 kV26 dc26 pm26 ct26 : Value} {cd26 : Value} {f26 : Addr}
    {od27 an27 : Option Addr} {sl27 : Array (Option Value)} {oc27 kV27 dc27 pm27 ct27 : Value} {cd27 : Value} {f27 : Addr}
    {od28 an28 : Option Addr} {sl28 : Array (Option Value)} {oc28 kV28 dc28 pm28 ct28 : Value} {cd28 : Value} {f28 : Addr}
    {od29 an29 : Option Addr} {sl29 : Array (Option Value)} {oc29 kV29 dc29 pm29 ct29 : Value} {cd29 : Value} {f29 : Addr}
    (a0 : PySem.W.nsIn K mainGlobals "_law_draw" = some (some (.ref f0)))    (l0 : K.lookup f0 = some ⟨oc0, od0, .func (PySem.W.fnOf "_law_draw" "_law_draw" (defArgs s_Ldraw) (defBody s_Ldraw) (defScope s_Ldraw) .none kV0 dc0 pm0 an0 cd0 ct0), sl0⟩)
    (c0 : PySem.W.codeIn K cd0 "_law_draw" = true) (k0 : PySem.W.keepIn K (.ref f0) = true)
    (a1 : PySem.W.nsIn K mainGlobals "_law_pick" = some (some (.ref f1)))    (l1 : K.lookup f1 = some ⟨oc1, od1, .func (PySem.W.fnOf "_law_pick" "_law_pick" (defArgs s_Lpick) (defBody s_Lpick) (defScope s_Lpick) .none kV1 dc1 pm1 an1 cd1 ct1), sl1⟩)
    (c1 : PySem.W.codeIn K cd1 "_law_pick" = true) (k1 : PySem.W.keepIn K (.ref f1) = true)
    (a2 : PySem.W.nsIn K mainGlobals "_law_odd" = some (some (.ref f2)))    (l2 : K.lookup f2 = some ⟨oc2, od2, .func (PySem.W.fnOf "_law_odd" "_law_odd" (defArgs s_Lodd) (defBody s_Lodd) (defScope s_Lodd) .none kV2 dc2 pm2 an2 cd2 ct2), sl2⟩)
    (c2 : PySem.W.codeIn K cd2 "_law_odd" = true) (k2 : PySem.W.keepIn K (.ref f2) = true)
    (a3 : PySem.W.nsIn K mainGlobals "_law_things" = some (some (.ref f3)))    (l3 : K.lookup f3 = some ⟨oc3, od3, .func (PySem.W.fnOf "_law_things" "_law_things" (defArgs s_Lthings) (defBody s_Lthings) (defScope s_Lthings) .none kV3 dc3 pm3 an3 cd3 ct3), sl3⟩)
    (c3 : PySem.W.codeIn K cd3 "_law_things" = true) (k3 : PySem.W.keepIn K (.ref f3) = true)
    (a4 : PySem.W.nsIn K mainGlobals "_law_ones" = some (some (.ref f4)))    (l4 : K.lookup f4 = some ⟨oc4, od4, .func (PySem.W.fnOf "_law_ones" "_law_ones" (defArgs s_Lones) (defBody s_Lones) (defScope s_Lones) .none kV4 dc4 pm4 an4 cd4 ct4), sl4⟩)
    (c4 : PySem.W.codeIn K cd4 "_law_ones" = true) (k4 : PySem.W.keepIn K (.ref f4) = true)
    (a5 : PySem.W.nsIn K mainGlobals "_law_word" = some (some (.ref f5)))    (l5 : K.lookup f5 = some ⟨oc5, od5, .func (PySem.W.fnOf "_law_word" "_law_word" (defArgs s_Lword) (defBody s_Lword) (defScope s_Lword) .none kV5 dc5 pm5 an5 cd5 ct5), sl5⟩)
    (c5 : PySem.W.codeIn K cd5 "_law_word" = true) (k5 : PySem.W.keepIn K (.ref f5) = true)
    (a6 : PySem.W.nsIn K mainGlobals "_law_whole" = some (some (.ref f6)))    (l6 : K.lookup f6 = some ⟨oc6, od6, .func (PySem.W.fnOf "_law_whole" "_law_whole" (defArgs s_Lwhole) (defBody s_Lwhole) (defScope s_Lwhole) .none kV6 dc6 pm6 an6 cd6 ct6), sl6⟩)
    (c6 : PySem.W.codeIn K cd6 "_law_whole" = true) (k6 : PySem.W.keepIn K (.ref f6) = true)
    (a7 : PySem.W.nsIn K mainGlobals "_law_row" = some (some (.ref f7)))    (l7 : K.lookup f7 = some ⟨oc7, od7, .func (PySem.W.fnOf "_law_row" "_law_row" (defArgs s_Lrow) (defBody s_Lrow) (defScope s_Lrow) .none kV7 dc7 pm7 an7 cd7 ct7), sl7⟩)
    (c7 : PySem.W.codeIn K cd7 "_law_row" = true) (k7 : PySem.W.keepIn K (.ref f7) = true)
    (a8 : PySem.W.nsIn K mainGlobals "_law_data" = some (some (.ref f8)))    (l8 : K.lookup f8 = some ⟨oc8, od8, .func (PySem.W.fnOf "_law_data" "_law_data" (defArgs s_Ldata) (defBody s_Ldata) (defScope s_Ldata) .none kV8 dc8 pm8 an8 cd8 ct8), sl8⟩)
    (c8 : PySem.W.codeIn K cd8 "_law_data" = true) (k8 : PySem.W.keepIn K (.ref f8) = true)
    (a9 : PySem.W.nsIn K mainGlobals "_law_bits" = some (some (.ref f9)))    (l9 : K.lookup f9 = some ⟨oc9, od9, .func (PySem.W.fnOf "_law_bits" "_law_bits" (defArgs s_Lbits) (defBody s_Lbits) (defScope s_Lbits) .none kV9 dc9 pm9 an9 cd9 ct9), sl9⟩)
    (c9 : PySem.W.codeIn K cd9 "_law_bits" = true) (k9 : PySem.W.keepIn K (.ref f9) = true)
    (a10 : PySem.W.nsIn K mainGlobals "_law_any" = some (some (.ref f10)))    (l10 : K.lookup f10 = some ⟨oc10, od10, .func (PySem.W.fnOf "_law_any" "_law_any" (defArgs s_Lany) (defBody s_Lany) (defScope s_Lany) .none kV10 dc10 pm10 an10 cd10 ct10), sl10⟩)
    (c10 : PySem.W.codeIn K cd10 "_law_any" = true) (k10 : PySem.W.keepIn K (.ref f10) = true)
    (a11 : PySem.W.nsIn K mainGlobals "is_whole" = some (some (.ref f11)))    (l11 : K.lookup f11 = some ⟨oc11, od11, .func (PySem.W.fnOf "is_whole" "is_whole" (defArgs s_is_whole) (defBody s_is_whole) (defScope s_is_whole) .none kV11 dc11 pm11 an11 cd11 ct11), sl11⟩)
    (c11 : PySem.W.codeIn K cd11 "is_whole" = true) (k11 : PySem.W.keepIn K (.ref f11) = true)
    (a12 : PySem.W.nsIn K mainGlobals "is_between" = some (some (.ref f12)))    (l12 : K.lookup f12 = some ⟨oc12, od12, .func (PySem.W.fnOf "is_between" "is_between" (defArgs s_is_between) (defBody s_is_between) (defScope s_is_between) .none kV12 dc12 pm12 an12 cd12 ct12), sl12⟩)
    (c12 : PySem.W.codeIn K cd12 "is_between" = true) (k12 : PySem.W.keepIn K (.ref f12) = true)
    (a13 : PySem.W.nsIn K mainGlobals "is_page" = some (some (.ref f13)))    (l13 : K.lookup f13 = some ⟨oc13, od13, .func (PySem.W.fnOf "is_page" "is_page" (defArgs s_is_page) (defBody s_is_page) (defScope s_is_page) .none kV13 dc13 pm13 an13 cd13 ct13), sl13⟩)
    (c13 : PySem.W.codeIn K cd13 "is_page" = true) (k13 : PySem.W.keepIn K (.ref f13) = true)
    (a14 : PySem.W.nsIn K mainGlobals "require_page" = some (some (.ref f14)))    (l14 : K.lookup f14 = some ⟨oc14, od14, .func (PySem.W.fnOf "require_page" "require_page" (defArgs s_require_page) (defBody s_require_page) (defScope s_require_page) .none kV14 dc14 pm14 an14 cd14 ct14), sl14⟩)
    (c14 : PySem.W.codeIn K cd14 "require_page" = true) (k14 : PySem.W.keepIn K (.ref f14) = true)
    (a15 : PySem.W.nsIn K mainGlobals "is_blank" = some (some (.ref f15)))    (l15 : K.lookup f15 = some ⟨oc15, od15, .func (PySem.W.fnOf "is_blank" "is_blank" (defArgs s_is_blank) (defBody s_is_blank) (defScope s_is_blank) .none kV15 dc15 pm15 an15 cd15 ct15), sl15⟩)
    (c15 : PySem.W.codeIn K cd15 "is_blank" = true) (k15 : PySem.W.keepIn K (.ref f15) = true)
    (a16 : PySem.W.nsIn K mainGlobals "count_zeros" = some (some (.ref f16)))    (l16 : K.lookup f16 = some ⟨oc16, od16, .func (PySem.W.fnOf "count_zeros" "count_zeros" (defArgs s_count_zeros) (defBody s_count_zeros) (defScope s_count_zeros) .none kV16 dc16 pm16 an16 cd16 ct16), sl16⟩)
    (c16 : PySem.W.codeIn K cd16 "count_zeros" = true) (k16 : PySem.W.keepIn K (.ref f16) = true)
    (a17 : PySem.W.nsIn K mainGlobals "zeros_in" = some (some (.ref f17)))    (l17 : K.lookup f17 = some ⟨oc17, od17, .func (PySem.W.fnOf "zeros_in" "zeros_in" (defArgs s_zeros_in) (defBody s_zeros_in) (defScope s_zeros_in) .none kV17 dc17 pm17 an17 cd17 ct17), sl17⟩)
    (c17 : PySem.W.codeIn K cd17 "zeros_in" = true) (k17 : PySem.W.keepIn K (.ref f17) = true)
    (a18 : PySem.W.nsIn K mainGlobals "state_of" = some (some (.ref f18)))    (l18 : K.lookup f18 = some ⟨oc18, od18, .func (PySem.W.fnOf "state_of" "state_of" (defArgs s_state_of) (defBody s_state_of) (defScope s_state_of) .none kV18 dc18 pm18 an18 cd18 ct18), sl18⟩)
    (c18 : PySem.W.codeIn K cd18 "state_of" = true) (k18 : PySem.W.keepIn K (.ref f18) = true)
    (a19 : PySem.W.nsIn K mainGlobals "numbers_held" = some (some (.ref f19)))    (l19 : K.lookup f19 = some ⟨oc19, od19, .func (PySem.W.fnOf "numbers_held" "numbers_held" (defArgs s_numbers_held) (defBody s_numbers_held) (defScope s_numbers_held) .none kV19 dc19 pm19 an19 cd19 ct19), sl19⟩)
    (c19 : PySem.W.codeIn K cd19 "numbers_held" = true) (k19 : PySem.W.keepIn K (.ref f19) = true)
    (a20 : PySem.W.nsIn K mainGlobals "told_by" = some (some (.ref f20)))    (l20 : K.lookup f20 = some ⟨oc20, od20, .func (PySem.W.fnOf "told_by" "told_by" (defArgs s_told_by) (defBody s_told_by) (defScope s_told_by) .none kV20 dc20 pm20 an20 cd20 ct20), sl20⟩)
    (c20 : PySem.W.codeIn K cd20 "told_by" = true) (k20 : PySem.W.keepIn K (.ref f20) = true)
    (a21 : PySem.W.nsIn K mainGlobals "_law_numbers" = some (some (.ref f21)))    (l21 : K.lookup f21 = some ⟨oc21, od21, .func (PySem.W.fnOf "_law_numbers" "_law_numbers" (defArgs s_Lnumbers) (defBody s_Lnumbers) (defScope s_Lnumbers) .none kV21 dc21 pm21 an21 cd21 ct21), sl21⟩)
    (c21 : PySem.W.codeIn K cd21 "_law_numbers" = true) (k21 : PySem.W.keepIn K (.ref f21) = true)
    (a22 : PySem.W.nsIn K mainGlobals "_law_told_by" = some (some (.ref f22)))    (l22 : K.lookup f22 = some ⟨oc22, od22, .func (PySem.W.fnOf "_law_told_by" "_law_told_by" (defArgs s_Ltold_by) (defBody s_Ltold_by) (defScope s_Ltold_by) .none kV22 dc22 pm22 an22 cd22 ct22), sl22⟩)
    (c22 : PySem.W.codeIn K cd22 "_law_told_by" = true) (k22 : PySem.W.keepIn K (.ref f22) = true)
    (a23 : PySem.W.nsIn K mainGlobals "_law_page_right" = some (some (.ref f23)))    (l23 : K.lookup f23 = some ⟨oc23, od23, .func (PySem.W.fnOf "_law_page_right" "_law_page_right" (defArgs s_Lpage_right) (defBody s_Lpage_right) (defScope s_Lpage_right) .none kV23 dc23 pm23 an23 cd23 ct23), sl23⟩)
    (c23 : PySem.W.codeIn K cd23 "_law_page_right" = true) (k23 : PySem.W.keepIn K (.ref f23) = true)
    (a24 : PySem.W.nsIn K mainGlobals "lies_within" = some (some (.ref f24)))    (l24 : K.lookup f24 = some ⟨oc24, od24, .func (PySem.W.fnOf "lies_within" "lies_within" (defArgs s_lies_within) (defBody s_lies_within) (defScope s_lies_within) .none kV24 dc24 pm24 an24 cd24 ct24), sl24⟩)
    (c24 : PySem.W.codeIn K cd24 "lies_within" = true) (k24 : PySem.W.keepIn K (.ref f24) = true)
    (a25 : PySem.W.nsIn K mainGlobals "is_within" = some (some (.ref f25)))    (l25 : K.lookup f25 = some ⟨oc25, od25, .func (PySem.W.fnOf "is_within" "is_within" (defArgs s_is_within) (defBody s_is_within) (defScope s_is_within) .none kV25 dc25 pm25 an25 cd25 ct25), sl25⟩)
    (c25 : PySem.W.codeIn K cd25 "is_within" = true) (k25 : PySem.W.keepIn K (.ref f25) = true)
    (a26 : PySem.W.nsIn K mainGlobals "_law_is_page" = some (some (.ref f26)))    (l26 : K.lookup f26 = some ⟨oc26, od26, .func (PySem.W.fnOf "_law_is_page" "_law_is_page" (defArgs s_Lis_page) (defBody s_Lis_page) (defScope s_Lis_page) .none kV26 dc26 pm26 an26 cd26 ct26), sl26⟩)
    (c26 : PySem.W.codeIn K cd26 "_law_is_page" = true) (k26 : PySem.W.keepIn K (.ref f26) = true)
    (a27 : PySem.W.nsIn K mainGlobals "_law_right" = some (some (.ref f27)))    (l27 : K.lookup f27 = some ⟨oc27, od27, .func (PySem.W.fnOf "_law_right" "_law_right" (defArgs s_Lright) (defBody s_Lright) (defScope s_Lright) .none kV27 dc27 pm27 an27 cd27 ct27), sl27⟩)
    (c27 : PySem.W.codeIn K cd27 "_law_right" = true) (k27 : PySem.W.keepIn K (.ref f27) = true)
    (a28 : PySem.W.nsIn K mainGlobals "_law_spring" = some (some (.ref f28)))    (l28 : K.lookup f28 = some ⟨oc28, od28, .func (PySem.W.fnOf "_law_spring" "_law_spring" (defArgs s_Lspring) (defBody s_Lspring) (defScope s_Lspring) .none kV28 dc28 pm28 an28 cd28 ct28), sl28⟩)
    (c28 : PySem.W.codeIn K cd28 "_law_spring" = true) (k28 : PySem.W.keepIn K (.ref f28) = true)
    (a29 : PySem.W.nsIn K mainGlobals "law" = some (some (.ref f29)))    (l29 : K.lookup f29 = some ⟨oc29, od29, .func (PySem.W.fnOf "law" "law" (defArgs s_law) (defBody s_law) (defScope s_law) .none kV29 dc29 pm29 an29 cd29 ct29), sl29⟩)
    (c29 : PySem.W.codeIn K cd29 "law" = true) (k29 : PySem.W.keepIn K (.ref f29) = true)
    (z_abs : PySem.W.nsIn K mainGlobals "abs" = some none)
    (z_all : PySem.W.nsIn K mainGlobals "all" = some none)
    (z_bool : PySem.W.nsIn K mainGlobals "bool" = some none)
    (z_divmod : PySem.W.nsIn K mainGlobals "divmod" = some none)
    (z_int : PySem.W.nsIn K mainGlobals "int" = some none)
    (z_isinstance : PySem.W.nsIn K mainGlobals "isinstance" = some none)
    (z_len : PySem.W.nsIn K mainGlobals "len" = some none)
    (z_max : PySem.W.nsIn K mainGlobals "max" = some none)
    (z_min : PySem.W.nsIn K mainGlobals "min" = some none)
    (z_range : PySem.W.nsIn K mainGlobals "range" = some none)
    (z_repr : PySem.W.nsIn K mainGlobals "repr" = some none)
    (z_str : PySem.W.nsIn K mainGlobals "str" = some none)
    (z_tuple : PySem.W.nsIn K mainGlobals "tuple" = some none)
    {t_BLANK : Tok} (y_BLANK : PySem.W.nsIn K mainGlobals "BLANK" = some (some (.int BLv t_BLANK)))
    {t_CHECKS : Tok} (y_CHECKS : PySem.W.nsIn K mainGlobals "CHECKS" = some (some (.int 1023 t_CHECKS)))
    {t_CHECK_WIDTH : Tok} (y_CHECK_WIDTH : PySem.W.nsIn K mainGlobals "CHECK_WIDTH" = some (some (.int 10 t_CHECK_WIDTH)))
    {t_DATA_WIDTH : Tok} (y_DATA_WIDTH : PySem.W.nsIn K mainGlobals "DATA_WIDTH" = some (some (.int 512 t_DATA_WIDTH)))
    {t_GREATEST_UNIT : Tok} (y_GREATEST_UNIT : PySem.W.nsIn K mainGlobals "GREATEST_UNIT" = some (some (.int 65535 t_GREATEST_UNIT)))
    {t_MOST_NUMBERS : Tok} (y_MOST_NUMBERS : PySem.W.nsIn K mainGlobals "MOST_NUMBERS" = some (some (.int 31 t_MOST_NUMBERS)))
    {t_UNIT_WIDTH : Tok} (y_UNIT_WIDTH : PySem.W.nsIn K mainGlobals "UNIT_WIDTH" = some (some (.int 16 t_UNIT_WIDTH)))
    {t_WIDTH : Tok} (y_WIDTH : PySem.W.nsIn K mainGlobals "WIDTH" = some (some (.int 522 t_WIDTH)))
    : ∃ fd : FuncData, (∀ (s : Shared) (v : Value), BindsTo s fd ⟨[v], []⟩ [("_law_script", v)]) ∧ ∀ base : Heap, K.In base → base.Ns mainGlobals mg → FnG l.prog w K mg base 10 fa fd ["_law_script"] (sp_law K) := by
  have e := hfa.symm.trans (PySem.W.mg_of X G a29)
  cases e
  have F0 := fun_mk (st := s_Ldraw) l0 c0 k0
  have F1 := fun_mk (st := s_Lpick) l1 c1 k1
  have F2 := fun_mk (st := s_Lodd) l2 c2 k2
  have F3 := fun_mk (st := s_Lthings) l3 c3 k3
  have F4 := fun_mk (st := s_Lones) l4 c4 k4
  have F5 := fun_mk (st := s_Lword) l5 c5 k5
  have F6 := fun_mk (st := s_Lwhole) l6 c6 k6
  have F7 := fun_mk (st := s_Lrow) l7 c7 k7
  have F8 := fun_mk (st := s_Ldata) l8 c8 k8
  have F9 := fun_mk (st := s_Lbits) l9 c9 k9
  have F10 := fun_mk (st := s_Lany) l10 c10 k10
  have F11 := fun_mk (st := s_is_whole) l11 c11 k11
  have F12 := fun_mk (st := s_is_between) l12 c12 k12
  have F13 := fun_mk (st := s_is_page) l13 c13 k13
  have F14 := fun_mk (st := s_require_page) l14 c14 k14
  have F15 := fun_mk (st := s_is_blank) l15 c15 k15
  have F16 := fun_mk (st := s_count_zeros) l16 c16 k16
  have F17 := fun_mk (st := s_zeros_in) l17 c17 k17
  have F18 := fun_mk (st := s_state_of) l18 c18 k18
  have F19 := fun_mk (st := s_numbers_held) l19 c19 k19
  have F20 := fun_mk (st := s_told_by) l20 c20 k20
  have F21 := fun_mk (st := s_Lnumbers) l21 c21 k21
  have F22 := fun_mk (st := s_Ltold_by) l22 c22 k22
  have F23 := fun_mk (st := s_Lpage_right) l23 c23 k23
  have F24 := fun_mk (st := s_lies_within) l24 c24 k24
  have F25 := fun_mk (st := s_is_within) l25 c25 k25
  have F26 := fun_mk (st := s_Lis_page) l26 c26 k26
  have F27 := fun_mk (st := s_Lright) l27 c27 k27
  have F28 := fun_mk (st := s_Lspring) l28 c28 k28
  have F29 := fun_mk (st := s_law) l29 c29 k29
  let T : Txt K mg := {
    f_Ldraw := _, fd_Ldraw := _, F_Ldraw := F0, g_Ldraw := PySem.W.mg_of X G a0, bi_Ldraw := F0.binds (ps := ["_law_spring_here", "_law_high"]) fun _ _ _ _ _ _ us hl => match us, hl with | [_, _], _ => rfl,
    f_Lpick := _, fd_Lpick := _, F_Lpick := F1, g_Lpick := PySem.W.mg_of X G a1, bi_Lpick := F1.binds (ps := ["_law_spring_here", "_law_some"]) fun _ _ _ _ _ _ us hl => match us, hl with | [_, _], _ => rfl,
    f_Lodd := _, fd_Lodd := _, F_Lodd := F2, g_Lodd := PySem.W.mg_of X G a2, bi_Lodd := F2.binds (ps := ["_law_spring_here"]) fun _ _ _ _ _ _ us hl => match us, hl with | [_], _ => rfl,
    f_Lthings := _, fd_Lthings := _, F_Lthings := F3, g_Lthings := PySem.W.mg_of X G a3, bi_Lthings := F3.binds (ps := ["_law_spring_here", "_law_page"]) fun _ _ _ _ _ _ us hl => match us, hl with | [_, _], _ => rfl,
    f_Lones := _, fd_Lones := _, F_Lones := F4, g_Lones := PySem.W.mg_of X G a4, bi_Lones := F4.binds (ps := ["_law_number"]) fun _ _ _ _ _ _ us hl => match us, hl with | [_], _ => rfl,
    f_Lword := _, fd_Lword := _, F_Lword := F5, g_Lword := PySem.W.mg_of X G a5, bi_Lword := F5.binds (ps := ["_law_numbers_here"]) fun _ _ _ _ _ _ us hl => match us, hl with | [_], _ => rfl,
    f_Lwhole := _, fd_Lwhole := _, F_Lwhole := F6, g_Lwhole := PySem.W.mg_of X G a6, bi_Lwhole := F6.binds (ps := ["_law_data_here"]) fun _ _ _ _ _ _ us hl => match us, hl with | [_], _ => rfl,
    f_Lrow := _, fd_Lrow := _, F_Lrow := F7, g_Lrow := PySem.W.mg_of X G a7, bi_Lrow := F7.binds (ps := ["_law_spring_here"]) fun _ _ _ _ _ _ us hl => match us, hl with | [_], _ => rfl,
    f_Ldata := _, fd_Ldata := _, F_Ldata := F8, g_Ldata := PySem.W.mg_of X G a8, bi_Ldata := F8.binds (ps := ["_law_spring_here"]) fun _ _ _ _ _ _ us hl => match us, hl with | [_], _ => rfl,
    f_Lbits := _, fd_Lbits := _, F_Lbits := F9, g_Lbits := PySem.W.mg_of X G a9, bi_Lbits := F9.binds (ps := ["_law_spring_here"]) fun _ _ _ _ _ _ us hl => match us, hl with | [_], _ => rfl,
    f_Lany := _, fd_Lany := _, F_Lany := F10, g_Lany := PySem.W.mg_of X G a10, bi_Lany := F10.binds (ps := ["_law_spring_here"]) fun _ _ _ _ _ _ us hl => match us, hl with | [_], _ => rfl,
    f_is_whole := _, fd_is_whole := _, F_is_whole := F11, g_is_whole := PySem.W.mg_of X G a11, bi_is_whole := F11.binds (ps := ["value"]) fun _ _ _ _ _ _ us hl => match us, hl with | [_], _ => rfl,
    f_is_between := _, fd_is_between := _, F_is_between := F12, g_is_between := PySem.W.mg_of X G a12, bi_is_between := F12.binds (ps := ["value", "least", "most"]) fun _ _ _ _ _ _ us hl => match us, hl with | [_, _, _], _ => rfl,
    f_is_page := _, fd_is_page := _, F_is_page := F13, g_is_page := PySem.W.mg_of X G a13, bi_is_page := F13.binds (ps := ["value"]) fun _ _ _ _ _ _ us hl => match us, hl with | [_], _ => rfl,
    f_require_page := _, fd_require_page := _, F_require_page := F14, g_require_page := PySem.W.mg_of X G a14, bi_require_page := F14.binds (ps := ["value"]) fun _ _ _ _ _ _ us hl => match us, hl with | [_], _ => rfl,
    f_is_blank := _, fd_is_blank := _, F_is_blank := F15, g_is_blank := PySem.W.mg_of X G a15, bi_is_blank := F15.binds (ps := ["page"]) fun _ _ _ _ _ _ us hl => match us, hl with | [_], _ => rfl,
    f_count_zeros := _, fd_count_zeros := _, F_count_zeros := F16, g_count_zeros := PySem.W.mg_of X G a16, bi_count_zeros := F16.binds (ps := ["data"]) fun _ _ _ _ _ _ us hl => match us, hl with | [_], _ => rfl,
    f_zeros_in := _, fd_zeros_in := _, F_zeros_in := F17, g_zeros_in := PySem.W.mg_of X G a17, bi_zeros_in := F17.binds (ps := ["page"]) fun _ _ _ _ _ _ us hl => match us, hl with | [_], _ => rfl,
    f_state_of := _, fd_state_of := _, F_state_of := F18, g_state_of := PySem.W.mg_of X G a18, bi_state_of := F18.binds (ps := ["page"]) fun _ _ _ _ _ _ us hl => match us, hl with | [_], _ => rfl,
    f_numbers_held := _, fd_numbers_held := _, F_numbers_held := F19, g_numbers_held := PySem.W.mg_of X G a19, bi_numbers_held := F19.binds (ps := ["page"]) fun _ _ _ _ _ _ us hl => match us, hl with | [_], _ => rfl,
    f_told_by := _, fd_told_by := _, F_told_by := F20, g_told_by := PySem.W.mg_of X G a20, bi_told_by := F20.binds (ps := ["page"]) fun _ _ _ _ _ _ us hl => match us, hl with | [_], _ => rfl,
    f_Lnumbers := _, fd_Lnumbers := _, F_Lnumbers := F21, g_Lnumbers := PySem.W.mg_of X G a21, bi_Lnumbers := F21.binds (ps := ["_law_page"]) fun _ _ _ _ _ _ us hl => match us, hl with | [_], _ => rfl,
    f_Ltold_by := _, fd_Ltold_by := _, F_Ltold_by := F22, g_Ltold_by := PySem.W.mg_of X G a22, bi_Ltold_by := F22.binds (ps := ["_law_page"]) fun _ _ _ _ _ _ us hl => match us, hl with | [_], _ => rfl,
    f_Lpage_right := _, fd_Lpage_right := _, F_Lpage_right := F23, g_Lpage_right := PySem.W.mg_of X G a23, bi_Lpage_right := F23.binds (ps := ["_law_page"]) fun _ _ _ _ _ _ us hl => match us, hl with | [_], _ => rfl,
    f_lies_within := _, fd_lies_within := _, F_lies_within := F24, g_lies_within := PySem.W.mg_of X G a24, bi_lies_within := F24.binds (ps := ["inner", "outer"]) fun _ _ _ _ _ _ us hl => match us, hl with | [_, _], _ => rfl,
    f_is_within := _, fd_is_within := _, F_is_within := F25, g_is_within := PySem.W.mg_of X G a25, bi_is_within := F25.binds (ps := ["page", "other"]) fun _ _ _ _ _ _ us hl => match us, hl with | [_, _], _ => rfl,
    f_Lis_page := _, fd_Lis_page := _, F_Lis_page := F26, g_Lis_page := PySem.W.mg_of X G a26, bi_Lis_page := F26.binds (ps := ["_law_thing"]) fun _ _ _ _ _ _ us hl => match us, hl with | [_], _ => rfl,
    f_Lright := _, fd_Lright := _, F_Lright := F27, g_Lright := PySem.W.mg_of X G a27, bi_Lright := F27.binds (ps := ["_law_spring_here"]) fun _ _ _ _ _ _ us hl => match us, hl with | [_], _ => rfl,
    f_Lspring := _, fd_Lspring := _, F_Lspring := F28, g_Lspring := PySem.W.mg_of X G a28, bi_Lspring := F28.binds (ps := ["_law_script", "_law_turn"]) fun _ _ _ _ _ _ us hl => match us, hl with | [_, _], _ => rfl,
    f_law := _, fd_law := _, F_law := F29, g_law := PySem.W.mg_of X G a29, bi_law := F29.binds (ps := ["_law_script"]) fun _ _ _ _ _ _ us hl => match us, hl with | [_], _ => rfl,
    kb_is_blank_0_page := kb_is_blank_0_page F15,
    kb_is_page_0_value := kb_is_page_0_value F13,
    kb_is_within_0_other_page := kb_is_within_0_other_page F25,
    kb_state_of_0_page := kb_state_of_0_page F18,
    kb_told_by_0_page := kb_told_by_0_page F20,
    kb_zeros_in_0_page := kb_zeros_in_0_page F17,
    b_abs := PySem.W.mg_none_of X G z_abs,
    b_all := PySem.W.mg_none_of X G z_all,
    b_bool := PySem.W.mg_none_of X G z_bool,
    b_divmod := PySem.W.mg_none_of X G z_divmod,
    b_int := PySem.W.mg_none_of X G z_int,
    b_isinstance := PySem.W.mg_none_of X G z_isinstance,
    b_len := PySem.W.mg_none_of X G z_len,
    b_max := PySem.W.mg_none_of X G z_max,
    b_min := PySem.W.mg_none_of X G z_min,
    b_range := PySem.W.mg_none_of X G z_range,
    b_repr := PySem.W.mg_none_of X G z_repr,
    b_str := PySem.W.mg_none_of X G z_str,
    b_tuple := PySem.W.mg_none_of X G z_tuple,
    t_BLANK := _, c_BLANK := PySem.W.mg_of X G y_BLANK,
    t_CHECKS := _, c_CHECKS := PySem.W.mg_of X G y_CHECKS,
    t_CHECK_WIDTH := _, c_CHECK_WIDTH := PySem.W.mg_of X G y_CHECK_WIDTH,
    t_DATA_WIDTH := _, c_DATA_WIDTH := PySem.W.mg_of X G y_DATA_WIDTH,
    t_GREATEST_UNIT := _, c_GREATEST_UNIT := PySem.W.mg_of X G y_GREATEST_UNIT,
    t_MOST_NUMBERS := _, c_MOST_NUMBERS := PySem.W.mg_of X G y_MOST_NUMBERS,
    t_UNIT_WIDTH := _, c_UNIT_WIDTH := PySem.W.mg_of X G y_UNIT_WIDTH,
    t_WIDTH := _, c_WIDTH := PySem.W.mg_of X G y_WIDTH }
  exact ⟨PySem.W.fnOf "law" "law" (defArgs s_law) (defBody s_law) (defScope s_law) .none kV29 dc29 pm29 an29 cd29 ct29, fun s v => .of_eq rfl, fun base _ _ => law_at T rfl rfl⟩
end K03
open PySem PySem.W PyProof.Rows
set_option maxHeartbeats 0 in
theorem PySem.Challenge.cw_flashtrees_k03_whole_pages_of_anything_holds : PySem.Challenge.rw_flashtrees_k03_whole_pages_of_anything.Holds := by
  w_on; o_law; k_head; (case hw => w_witness2)
  k_fill
  refine Vc.walkG (l := PySem.Challenge.rw_flashtrees_k03_whole_pages_of_anything) (n := 63) (k := 10) (x := "_law_script") (sp := K03.sp_law) rfl (by decide) rfl ⟨rfl, by decide, by decide⟩ (fun w h Y => PySem.W.kIn_of Y) ?F K03.law_start
  case F =>
    intro w mg fa h KX G hmg
    refine' K03.all_mk KX G hmg ?a0 ?l0 ?c0 ?k0 ?a1 ?l1 ?c1 ?k1 ?a2 ?l2 ?c2 ?k2 ?a3 ?l3 ?c3 ?k3 ?a4 ?l4 ?c4 ?k4 ?a5 ?l5 ?c5 ?k5 ?a6 ?l6 ?c6 ?k6 ?a7 ?l7 ?c7 ?k7 ?a8 ?l8 ?c8 ?k8 ?a9 ?l9 ?c9 ?k9 ?a10 ?l10 ?c10 ?k10 ?a11 ?l11 ?c11 ?k11 ?a12 ?l12 ?c12 ?k12 ?a13 ?l13 ?c13 ?k13 ?a14 ?l14 ?c14 ?k14 ?a15 ?l15 ?c15 ?k15 ?a16 ?l16 ?c16 ?k16 ?a17 ?l17 ?c17 ?k17 ?a18 ?l18 ?c18 ?k18 ?a19 ?l19 ?c19 ?k19 ?a20 ?l20 ?c20 ?k20 ?a21 ?l21 ?c21 ?k21 ?a22 ?l22 ?c22 ?k22 ?a23 ?l23 ?c23 ?k23 ?a24 ?l24 ?c24 ?k24 ?a25 ?l25 ?c25 ?k25 ?a26 ?l26 ?c26 ?k26 ?a27 ?l27 ?c27 ?k27 ?a28 ?l28 ?c28 ?k28 ?a29 ?l29 ?c29 ?k29 ?z_abs ?z_all ?z_bool ?z_divmod ?z_int ?z_isinstance ?z_len ?z_max ?z_min ?z_range ?z_repr ?z_str ?z_tuple ?y_BLANK ?y_CHECKS ?y_CHECK_WIDTH ?y_DATA_WIDTH ?y_GREATEST_UNIT ?y_MOST_NUMBERS ?y_UNIT_WIDTH ?y_WIDTH
    (case a0 => k_is); (case l0 => k_is); (case c0 => k_is); (case k0 => k_is); (case a1 => k_is); (case l1 => k_is); (case c1 => k_is); (case k1 => k_is); (case a2 => k_is); (case l2 => k_is); (case c2 => k_is); (case k2 => k_is); (case a3 => k_is); (case l3 => k_is); (case c3 => k_is); (case k3 => k_is); (case a4 => k_is); (case l4 => k_is); (case c4 => k_is); (case k4 => k_is); (case a5 => k_is); (case l5 => k_is); (case c5 => k_is); (case k5 => k_is); (case a6 => k_is); (case l6 => k_is); (case c6 => k_is); (case k6 => k_is); (case a7 => k_is); (case l7 => k_is); (case c7 => k_is); (case k7 => k_is); (case a8 => k_is); (case l8 => k_is); (case c8 => k_is); (case k8 => k_is); (case a9 => k_is); (case l9 => k_is); (case c9 => k_is); (case k9 => k_is); (case a10 => k_is); (case l10 => k_is); (case c10 => k_is); (case k10 => k_is); (case a11 => k_is); (case l11 => k_is); (case c11 => k_is); (case k11 => k_is); (case a12 => k_is); (case l12 => k_is); (case c12 => k_is); (case k12 => k_is); (case a13 => k_is); (case l13 => k_is); (case c13 => k_is); (case k13 => k_is); (case a14 => k_is); (case l14 => k_is); (case c14 => k_is); (case k14 => k_is); (case a15 => k_is); (case l15 => k_is); (case c15 => k_is); (case k15 => k_is); (case a16 => k_is); (case l16 => k_is); (case c16 => k_is); (case k16 => k_is); (case a17 => k_is); (case l17 => k_is); (case c17 => k_is); (case k17 => k_is); (case a18 => k_is); (case l18 => k_is); (case c18 => k_is); (case k18 => k_is); (case a19 => k_is); (case l19 => k_is); (case c19 => k_is); (case k19 => k_is); (case a20 => k_is); (case l20 => k_is); (case c20 => k_is); (case k20 => k_is); (case a21 => k_is); (case l21 => k_is); (case c21 => k_is); (case k21 => k_is); (case a22 => k_is); (case l22 => k_is); (case c22 => k_is); (case k22 => k_is); (case a23 => k_is); (case l23 => k_is); (case c23 => k_is); (case k23 => k_is); (case a24 => k_is); (case l24 => k_is); (case c24 => k_is); (case k24 => k_is); (case a25 => k_is); (case l25 => k_is); (case c25 => k_is); (case k25 => k_is); (case a26 => k_is); (case l26 => k_is); (case c26 => k_is); (case k26 => k_is); (case a27 => k_is); (case l27 => k_is); (case c27 => k_is); (case k27 => k_is); (case a28 => k_is); (case l28 => k_is); (case c28 => k_is); (case k28 => k_is); (case a29 => k_is); (case l29 => k_is); (case c29 => k_is); (case k29 => k_is); (case z_abs => k_is); (case z_all => k_is); (case z_bool => k_is); (case z_divmod => k_is); (case z_int => k_is); (case z_isinstance => k_is); (case z_len => k_is); (case z_max => k_is); (case z_min => k_is); (case z_range => k_is); (case z_repr => k_is); (case z_str => k_is); (case z_tuple => k_is); (case y_BLANK => k_is); (case y_CHECKS => k_is); (case y_CHECK_WIDTH => k_is); (case y_DATA_WIDTH => k_is); (case y_GREATEST_UNIT => k_is); (case y_MOST_NUMBERS => k_is); (case y_UNIT_WIDTH => k_is); (case y_WIDTH => k_is)
