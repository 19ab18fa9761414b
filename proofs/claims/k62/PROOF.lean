import PyProof.Rows.All
import Wide.All
import OpenK.AllK
import Wide.FinOn
import HandS.Base
import HandS.Call
import HandS.Ends
import HandS.Words
import HandS.List
import HandS.Comp
import HandS.Iter
import HandS.Text
import HandS.Dict
import PyProof.ReprRoads
import HandS.StrMore
import HandS.Style
import HandS.TupAny
import HandS.IsInst
import HandS.Wide
import PyProof.StrLawsRepr
import PyProof.ReprLen
import PyProof.FitsInt
import HandS.Evl
import HandS.Walk
import HandS.SetBool
import HandS.SetKeys
import PyProof.SetRoads
import KE.KUnpackStar
import HandS.Exc
import HandS.ExcOwn
import HandS.WordsExc
import HandS.ExcInit
import HandS.ExcField
import HandS.ExcIs
import HandS.TupMul
import KE.KExcIs
import KE.KTryMore
import HandS.Conv
import KE.KDictPairs
import HandS.Lambda
import HandS.EndTab
import HandS.FStr
import HandS.Flow
import KE.IntTextLaws
import PyProof.StrBlock2
import HandS.More
import KE.GoesEnumKw
import KE.GoesNew
import KE.KDictKeyed
import HandS.Finally
import HandS.Star
import HandS.NoneIn
import PySem.Challenge.RW_decreedays_k62_whole_any_words
set_option Elab.async false
set_option linter.all false
set_option maxRecDepth 100000
set_option maxHeartbeats 1000000
namespace DD
open PySem PySem.Spec PyProof.Rows L2
/-! ### defs that are called where no repr is under way -/
/-- what a def promises, for every call under which no repr runs -/
structure FnR (P : Program) (w : World) (K : PySem.W.Frag) (mg : Str → Option Value) (base : Heap) (CX : CXT) (k : Nat) (f : Addr) (fd : FuncData) (ps : List Str) (sp : Sp) : Prop where
  cnt : ∀ xs H Q E, sp xs H Q E → xs.length = ps.length
  go : ∀ (A : Around), A.guards = some [] → ∀ (fr : List Env) (s : Shared) (H : Hp) (args : Args) (us : List Value) (xs : List V) (Q : VK) (E : XK), Room k A → Env0 P w K mg base A fr s H →
    BindsTo s fd args (ps.zip us) → Vals xs us → sp xs H Q E → codeAny (model P w) A (.call (.ref f) args) (CR CX fr P w H s Q E) s
section
variable {P : Program} {w : World} {K : PySem.W.Frag} {mg : Str → Option Value} {base : Heap} {CX : CXT} {k j : Nat} {f : Addr} {fd : FuncData} {ps : List Str} {sp : Sp}
theorem FnR.of (F : FnOk P w K mg base CX k f fd ps sp) : FnR P w K mg base CX k f fd ps sp :=
  ⟨F.len, fun A _ fr s H args us xs Q E a b c d e => F.run A fr s H args us xs Q E a b c d e⟩
theorem FnR.up (F : FnR P w K mg base CX j f fd ps sp) (h : j ≤ k) : FnR P w K mg base CX k f fd ps sp :=
  ⟨F.cnt, fun A g fr s H args us xs Q E a => F.go A g fr s H args us xs Q E (a.mono h)⟩
/-- a def of the text, by its body -/
theorem okR {x qual : Str} {st : Stmt} {N : List Str} (F : Fun K x qual st f fd) (S : FnScope N ps (defScope st)) (cnt : ∀ xs H Q E, sp xs H Q E → xs.length = ps.length)
    (hb : ∀ (cdv : Value) (A : Around) (fr : List Env) (s : Shared) (H : Hp) (xs : List V) (Q : VK) (E : XK), A.guards = some [] → Room k (A.deeper (envOfC qual (defScope st) s.heap.objs.size f cdv)) → sp xs H Q E →
      ∃ t, PSs (cxOf CX P w K mg base N qual (defScope st) f cdv A fr s H E) (defBody st) t ∧ t { nx := fun _ H' => Q .non H', rt := Q } (start N xs) H) :
    FnR P w K mg base CX (k + 1) f fd ps sp := by
  obtain ⟨oc, od, kV, doc, pm, an, cdv, ct, osl, rfl, lk, hcd⟩ := F.ex
  refine ⟨cnt, fun A gd fr s H args us xs Q E room en bt rv hsp => ?_⟩
  have many := cnt _ _ _ _ hsp
  have inK : K.In s.heap := en.mod.kin.keeps fun b o e => (en.bs b o e).1
  have nolim : s.heap.NoLimit := en.mod.nolimit.keeps fun b o e => (en.bs b o e).1
  refine codeAny_call_function room.depth (inK _ _ lk) rfl S.co S.gen rfl (PySem.W.codeRec_of inK hcd) (bt _ _ _ _ ?_)
  refine wpAny_newFunctionEnv_cells S.kind (fun y hy => ?_) fun env he s1 made => ?_
  · obtain ⟨n, v⟩ := y
    exact (S.par n (List.of_mem_zip hy).1).elim .inl fun q => .inr ⟨q, PySem.W.cellsFrom_some _ _ _ (.inl q)⟩
  subst he
  refine ⟨nolim.keeps made.toInCall.keep, codeAny_func ?_⟩
  obtain ⟨t, ht, hq⟩ := hb cdv A fr s H xs Q E gd (room.deeper _) hsp
  have I := inv_start (CX := CX) (E := E) S room.hd en many rv made
  refine wpAny_mono (ht.run [] s1 (start N xs) H _ I hq) (fun fl s' hs => ?_) fun e s' hs => hs
  cases fl with
  | ret u => exact let ⟨v, _, H', J, rv', q⟩ := hs; ⟨v, H', J.os, J.bare, J.base, J.hok, rv', q⟩
  | next => exact let ⟨_, H', J, q⟩ := hs; ⟨.non, H', J.os, J.bare, J.base, J.hok, rfl, q⟩
  | brk => exact False.elim hs.choose_spec.choose_spec.2
  | cont => exact False.elim hs.choose_spec.choose_spec.2
end
/-- the same of a def that lets no error out -/
theorem okR0 {P : Program} {w : World} {K : PySem.W.Frag} {mg : Str → Option Value} {base : Heap} {k : Nat} {f : Addr} {fd : FuncData} {ps : List Str} {sp : Sp} {x qual : Str} {st : Stmt} {N : List Str} (F : Fun K x qual st f fd) (S : FnScope N ps (defScope st))
    (cnt : ∀ xs H Q E, sp xs H Q E → xs.length = ps.length)
    (hb : ∀ (cdv : Value) (A : Around) (fr : List Env) (s : Shared) (H : Hp) (xs : List V) (Q : VK) (E : XK), A.guards = some [] → Room k (A.deeper (envOfC qual (defScope st) s.heap.objs.size f cdv)) → sp xs H Q E →
      ∃ t, PSs (cxOf CX0 P w K mg base N qual (defScope st) f cdv A fr s H E).nox (defBody st) t ∧ t { nx := fun _ H' => Q .non H', rt := Q } (start N xs) H) :
    FnR P w K mg base CX0 (k + 1) f fd ps sp :=
  okR F S cnt fun cdv A fr s H xs Q E gd hr h => let ⟨t, h1, h2⟩ := hb cdv A fr s H xs Q E gd hr h; ⟨t, h1.nox, h2⟩
section
variable {X : Cx} {CX : CXT} {k : Nat} {f : Addr} {fd : FuncData} {ps : List Str} {sp : Sp} {dvs : List V} {ds : List Value} {E : XK} {x : Str} {p pos : Pos} {e : Expr} {es : List Expr} {t : TA}
theorem runR {pins : List (Addr × Obj)} {σ : L2.St} {H : Hp} {s : Shared} {Q : VK} {us : List Value} {xs : List V} (F : FnR X.prog X.w X.K X.mg X.base CX k f fd ps sp) (gd : X.A.guards = some []) (hr : Room k X.A) (hb : Binds X.K fd ps ds) (hd : Vals dvs ds) (hx : Passes CX X E)
    (I : Inv X pins σ H s) (r : Vals xs us) (h : sp (xs ++ dvs) H Q E) : wpAny (model X.prog X.w) X.A (call (.ref f) us) (EP X pins σ Q) X.xe s := by
  have all : Vals (xs ++ dvs) (us ++ ds) := r.append hd
  have many : (us ++ ds).length = ps.length := all.length.symm.trans (F.cnt _ _ _ _ h)
  have main := F.go X.A gd X.stack s H ⟨us, []⟩ (us ++ ds) (xs ++ dvs) Q E hr I.env0 (hb s us I.kIn many) all h
  refine wpAny_call (codeAny_mono main fun r s' hq => ?_)
  match r, hq with
  | .error e, hq => exact hx pins σ H s e s' I hq
  | .ok (.ret _), hq => exact I.after hq
theorem pe_callR (F : FnR X.prog X.w X.K X.mg X.base CX k f fd ps sp) (gd : X.A.guards = some []) (hr : Room k X.A) (hg : Gl X x) (hm : X.mg x = some (.ref f)) (hk : PySem.W.keepIn X.K (.ref f) = true) (hb : Binds X.K fd ps ds) (hd : Vals dvs ds) (hx : Passes CX X E)
    (ha : PA X (e :: es) t) (hdb : (x == ("__debug__" : Str)) = false := by decide) (he : starEach (e :: es) X.env = (false, eval e X.env) :: starEach es X.env := by rfl) (hpl : (backTo pos (starEach es X.env)).any (·.1) = false := by rfl) :
    PE X (.Call (.Name x p) (e :: es) [] pos) (tCall sp dvs E t) :=
  ⟨fun pins s σ H Q I h => wpAny_Call_Name_kw (ld_glob I hg hm
    (PySem.W.callWith_K (h₀ := X.base) I.ok.mod.kin hk (thn (ha.run pos pins s σ H _ I h) fun _ s1 ⟨_, _, I1, r, q⟩ => ⟨I1.kIn, runR F gd hr hb hd hx I1 r q⟩) he hpl) hdb)⟩
end
/-! ### the head -/
theorem hidden_ns {h : Heap} {H : Hp} {a b : Addr} {m : Str → Option Value} (hA : ∀ c, H c ≠ none → c = a) {o : Obj} {its : Array Value} {n : Nat} (ha : h.get? a = some o) (ho : o.data = .seq its n) : h.Ns b m → (hidT h H).Ns b m := by
  rintro ⟨o2, es, ep, e, d, r⟩
  refine ⟨o2, es, ep, hidT_get e ?_, d, r⟩
  cases q : H b with
  | none => rfl
  | some u =>
    have eb : b = a := hA b (by rw [q]; exact fun z => nomatch z)
    rw [eb, ha] at e
    cases e
    rw [ho] at d
    cases d
/-- the law's promise, run at the top -/
theorem law_run {P : Program} {w : World} {K : PySem.W.Frag} {mg mb : Str → Option Value} {CX : CXT} {k : Nat} {fa a : Addr} {fd : FuncData} {x : Str} {sp : Sp} {s1 : Shared} {its : List Value} {ns : List Int}
    (inK : K.In s1.heap) (gl : s1.heap.Ns mainGlobals mg) (bl : s1.heap.Ns builtinsNs mb) (bb : ∀ y : Str, y ≠ "__name__" → mb y = bootBuiltins y) (lim : s1.heap.NoLimit) (gens : s1.gens = #[])
    (ha : s1.heap.get? a = some { cls := .type "list", data := .seq its.toArray }) (hiv : IntsAre its ns) (few : ns.length ≤ sizeLine) (hr : Room k callerA)
    (F : ∀ base : Heap, K.In base → base.Ns mainGlobals mg → FnR P w K mg base CX k fa fd [x] sp) (bind : ∀ (s : Shared) (u : Value), BindsTo s fd ⟨[u], []⟩ [(x, u)])
    (hsp : ∀ H : Hp, Only H → SqL K H a (ns.map V.int) → sp [.ref a] H (fun v _ => v = .bl true) fun _ _ _ => False)
    (none_leaves : ∀ H e s', CX [] H s1 (fun _ _ _ => False) e s' → False) :
    codeAny (model P w) callerA (.call (.ref fa) ⟨[.ref a], []⟩) (fun r s' => r = .ok (.ret (.bool true)) ∧ OldK s1.heap s'.heap ∧ s'.os = s1.os ∧ AllBare s'.gens) s1 := by
  have rv : Vals (ns.map V.int) its := vals_ints hiv
  have key : ∀ H : Hp, Only H → SqL K H a (ns.map V.int) → HOk P w H s1.heap → (∀ c, H c ≠ none → c = a) → (H a ≠ none → K.lookup a = none) →
      codeAny (model P w) callerA (.call (.ref fa) ⟨[.ref a], []⟩) (fun r s' => r = .ok (.ret (.bool true)) ∧ OldK s1.heap s'.heap ∧ s'.os = s1.os ∧ AllBare s'.gens) s1 := by
    intro H only seq hok hA hK
    have ns : ∀ {b : Addr} {m : Str → Option Value}, s1.heap.Ns b m → (hidT s1.heap H).Ns b m := fun z => hidden_ns hA ha rfl z
    have hKb : K.In (hidT s1.heap H) := fun b o e => hidT_get (inK b o e) (by
      cases q : H b with
      | none => rfl
      | some u =>
        have eb : b = a := hA b (by rw [q]; exact fun z => nomatch z)
        rw [eb] at e q
        rw [hK (by rw [q]; exact fun z => nomatch z)] at e
        cases e)
    have hM : Mod K mg (hidT s1.heap H) := ⟨hKb, ns gl, ⟨mb, ns bl, bb⟩, lim.elim fun mc z => ⟨mc, ns z.1, z.2⟩⟩
    have e0 : Env0 P w K mg (hidT s1.heap H) callerA [] s1 H :=
      ⟨rfl, hM, fun b o e => of_hidT e, Nat.le_of_eq (hidT_size _ _), trivial, fun b z => absurd z List.not_mem_nil, hok, .of_eq gens⟩
    refine codeAny_mono ((F _ hKb (ns gl)).go callerA rfl [] s1 H ⟨[.ref a], []⟩ [.ref a] [.ref a] _ _ hr e0 (bind s1 (.ref a)) (.cons rfl .nil) (hsp H only seq)) fun r s' h => ?_
    match r, h with
    | .error e, h => exact (none_leaves H e s' h).elim
    | .ok (.ret u), ⟨v, H', os, bare, un, hok', r', q⟩ =>
      cases (show v = .bl true from q)
      cases (show u = Value.bool true from r')
      refine ⟨rfl, OldK.of_keep fun b o e => ?_, os, bare⟩
      rcases only b with z | ⟨ob, xs, z⟩
      · exact un.keep b o e z (fun y => absurd y List.not_mem_nil) List.not_mem_nil
      · have before := (hok b _ z).1
        rw [e] at before
        cases before
        exact (hok' b _ (un.frzs b _ _ z)).1
  cases hk : K.lookup a with
  | some o =>
    have same := inK a o hk
    rw [ha] at same
    cases same
    refine key (fun _ => none) (fun _ => .inl rfl) (.inr ⟨_, its.toArray, _, hk, rfl, rfl, rfl, ?_, ?_⟩) (fun b u z => nomatch (show (none : Option HO) = some u from z)) (fun b z => absurd rfl z) fun z => absurd rfl z
    · rw [List.size_toArray, hiv.length]
      exact few
    · simpa using rv
  | none =>
    have at_a : ∀ {c : Addr} {u : HO}, (if c = a then some (HO.frz { cls := .type "list", data := .seq its.toArray } (.lst (ns.map V.int))) else none) = some u → c = a ∧ u = HO.frz { cls := .type "list", data := .seq its.toArray } (.lst (ns.map V.int)) := by
      intro c u z
      split at z
      · exact ⟨by assumption, (Option.some.inj z).symm⟩
      · cases z
    refine key (fun c => if c = a then some (.frz { cls := .type "list", data := .seq its.toArray } (.lst (ns.map V.int))) else none) (fun c => ?_) (.inl (.inr ⟨_, if_pos rfl⟩)) (fun c u z => ?_) (fun c z => ?_) fun _ => hk
    · by_cases hc : c = a
      · exact .inr ⟨_, _, if_pos hc⟩
      · exact .inl (if_neg hc)
    · obtain ⟨rfl, rfl⟩ := at_a z
      exact ⟨ha, by rw [List.length_map]; exact few, its, _, rv, ha⟩
    · by_cases hc : c = a
      · exact hc
      · exact absurd (if_neg hc) z
/-- the goal that the head leaves, from the law's promise -/
theorem walkR {l : PySem.W.OpenLaw} {n k : Nat} {q : Program} {loose : List Str} {XP : (Str → Option Value) → Heap → Prop} {YP : World → Heap → Prop} {d : DefRec} {K : Params → PySem.W.Frag} {CX : CXT} {sp : PySem.W.Frag → Sp} {x : Str}
    (hn : l.most = some n) (hn2 : n ≤ sizeLine) (hdf : d.params.defaults = []) (hr : Room k callerA) (hY : ∀ (w : World) (h : Heap), YP w h → (K w.params).In h)
    (F : ∀ (w : World) (mg : Str → Option Value) (fa : Addr) (h : Heap), (K w.params).In h → h.Ns mainGlobals mg → mg d.name = some (.ref fa) →
      ∃ fd : FuncData, (∀ (s : Shared) (u : Value), BindsTo s fd ⟨[u], []⟩ [(x, u)]) ∧ ∀ base : Heap, (K w.params).In base → base.Ns mainGlobals mg → FnR l.prog w (K w.params) mg base CX k fa fd [x] (sp (K w.params)))
    (hsp : ∀ (K : PySem.W.Frag) (H : Hp) (a : Addr) (ns : List Int), ns.length ≤ n → Only H → SqL K H a (ns.map V.int) → sp K [.ref a] H (fun v _ => v = .bl true) fun _ _ _ => False)
    (none_leaves : ∀ (H : Hp) (s : Shared) (e : Value) (s' : Shared), CX [] H s (fun _ _ _ => False) e s' → False) :
    PySem.W.WalkO q loose XP YP l.row.toRowW d [] (fun f vs => PySem.call f vs) := by
  refine Att.attach_call hn hdf fun w s0 s1 mg mb fa o pm cd doc a its ns G Y ho hd hcd hmg hobj hints hlen hg => ?_
  have inK := hY w _ Y
  obtain ⟨fd, hb, hF⟩ := F w mg fa _ inK G.T.g hmg
  exact law_run inK G.T.g G.T.b G.T.builtins G.T.nolimit hg hobj hints (Nat.le_trans hlen hn2) hr hF hb (fun H o1 o2 => hsp _ H a ns hlen o1 o2) fun H e s' => none_leaves H s1 e s'
/-! ### repr of data -/
section
variable {X : Cx}
theorem depth_fits {A : Around} {n : Nat} (h : n ≤ 60) (hu : A.units + 64 < cLine) : A.units + (n + 1) < cLine := by omega
/-- repr(x), x any data without dicts -/
theorem call_reprD (gd : X.A.guards = some []) (hu : X.A.units + 64 < cLine) : CallR X (.builtin "repr") (fun xs H Q => ∃ v d, xs = [v] ∧ Dp X.K H v d ∧ d.showable = true ∧ d.hasDict = false ∧ d.depth ≤ 60 ∧ d.shown.length ≤ sizeLine ∧ Q (.str d.shown) H) := by
  intro pins s σ H xs us Q I r h
  obtain ⟨v, d, rfl, hd, hs, hn, dep, hz, q⟩ := h
  obtain ⟨u, rfl, ru⟩ := vals1 r
  have heap : ∀ {a : Addr} {as : List Addr}, Reads s.heap (.ref a) d as → wpAny (model X.prog X.w) X.A (call (.builtin "repr") [.ref a]) (EP X pins σ Q) X.xe s := fun {a as} rd =>
    repr_of_reads' rd hs (fun z => by rw [hn] at z; cases z) gd (depth_fits dep hu) (fun _ _ e => e) (fun h' u tk hk => ⟨.str d.shown, H, I.kept hk, ⟨_, rfl⟩, q⟩) hz
  obtain ⟨as, rd⟩ := Dp.reads I d v u hd ru
  cases d with
  | none => cases rd; exact PySem.P.repr_of_none ⟨.str _, H, I.tok _, ⟨_, rfl⟩, q⟩
  | bool b => cases rd; exact PySem.P.repr_of_bool ⟨.str _, H, I.tok _, ⟨_, rfl⟩, q⟩
  | int i => cases rd; exact PySem.P.repr_of_int (of_decide_eq_true hs) ⟨.str _, H, I.tok _, ⟨_, rfl⟩, q⟩
  | str x => cases rd; exact PySem.P.repr_of_str ⟨.str _, H, I.tok _, ⟨_, rfl⟩, q⟩ hz
  | list ds => cases rd with | list a b c e => exact heap (.list a b c e)
  | tuple ds => cases rd with | tuple a b c e => exact heap (.tuple a b c e)
  | dict kvs => cases hd
end
end DD

namespace DD
open PySem PySem.Spec PyProof.Rows L2
/-! ### data: sizes, plain texts -/
mutual
def wt : PyData → Nat
  | .none | .bool _ => 8
  | .int _ => 300
  | .str x => 10 * x.length + 4
  | .list xs | .tuple xs => wtAll xs + 4
  | .dict _ => 0
def wtAll : List PyData → Nat
  | [] => 0
  | x :: xs => wt x + 4 + wtAll xs
end
def tidy (x : Str) : Bool := x.cps.all (· < 128)
mutual
def fineB (B : Nat) : PyData → Bool
  | .none | .bool _ => true
  | .int i => decide (i.natAbs < B)
  | .str x => tidy x
  | .list xs | .tuple xs => fineAllB B xs
  | .dict _ => false
def fineAllB (B : Nat) : List PyData → Bool
  | [] => true
  | x :: xs => fineB B x && fineAllB B xs
end
abbrev fine : PyData → Bool := fineB (10 ^ 80)
abbrev fineAll : List PyData → Bool := fineAllB (10 ^ 80)
theorem fineAllB_iff {B : Nat} : ∀ {ds : List PyData}, fineAllB B ds = true ↔ ∀ d ∈ ds, fineB B d = true
  | [] => ⟨fun _ d h => absurd h List.not_mem_nil, fun _ => rfl⟩
  | x :: xs => by
    unfold fineAllB
    rw [Bool.and_eq_true, fineAllB_iff (ds := xs), List.forall_mem_cons]
theorem fineAll_iff {ds : List PyData} : fineAll ds = true ↔ ∀ d ∈ ds, fine d = true := fineAllB_iff
mutual
theorem fineB_mono {B C : Nat} (h : B ≤ C) : ∀ d : PyData, fineB B d = true → fineB C d = true
  | .none, _ => rfl
  | .bool _, _ => rfl
  | .int i, q => decide_eq_true (Nat.lt_of_lt_of_le (of_decide_eq_true q) h)
  | .str _, q => q
  | .list xs, q => fineAllB_mono h xs q
  | .tuple xs, q => fineAllB_mono h xs q
  | .dict _, q => nomatch q
theorem fineAllB_mono {B C : Nat} (h : B ≤ C) : ∀ ds : List PyData, fineAllB B ds = true → fineAllB C ds = true
  | [], _ => rfl
  | x :: xs, q => by
    obtain ⟨h1, h2⟩ := Bool.and_eq_true_iff.mp (show (fineB B x && fineAllB B xs) = true from q)
    show (fineB C x && fineAllB C xs) = true
    rw [fineB_mono h x h1, fineAllB_mono h xs h2]
    rfl
end
theorem wtAll_mem : ∀ {ds : List PyData} {d : PyData}, d ∈ ds → wt d + 4 ≤ wtAll ds
  | [], _, h => absurd h List.not_mem_nil
  | x :: xs, d, h => by
    unfold wtAll
    rcases List.mem_cons.mp h with rfl | h
    · omega
    · have := wtAll_mem h
      omega
theorem wtAll_append : ∀ (as bs : List PyData), wtAll (as ++ bs) = wtAll as + wtAll bs
  | [], bs => by simp [wtAll]
  | a :: as, bs => by
    show wt a + 4 + wtAll (as ++ bs) = _
    rw [wtAll_append as bs]
    show _ = wt a + 4 + wtAll as + _
    omega
theorem wtAll_len : ∀ ds : List PyData, 4 * ds.length ≤ wtAll ds
  | [] => Nat.le_refl _
  | x :: xs => by
    have := wtAll_len xs
    unfold wtAll
    rw [List.length_cons]
    omega
theorem ofS_len (t : String) : (Str.ofString t).length = t.length := PySem.ofString_length t
theorem e80 : (10 : Nat) ^ 80 < 2 ^ 300 := by decide +kernel
mutual
theorem shown_le : ∀ d : PyData, fine d = true → d.shown.length ≤ wt d
  | .none, _ => by decide
  | .bool b, _ => by cases b <;> decide
  | .int i, h => by
    have hi : i.natAbs < 10 ^ 80 := of_decide_eq_true h
    have := int_text_length_le10 (k := 80) (by decide) hi
    show (Str.ofString (toString i)).length ≤ 300
    rw [ofS_len]
    omega
  | .str x, h => by
    have hx : ∀ c ∈ x.cps.toList, c < 16 ^ 8 := fun c hc => by
      have := Array.all_eq_true'.mp (show x.cps.all (· < 128) = true from h) c (by simpa using hc)
      have := of_decide_eq_true this
      omega
    have := PySem.StrLaws.reprText_len x hx
    show (reprText x).length ≤ 10 * x.length + 4
    omega
  | .list xs, h => by
    have := listText_len_le (PyData.shownAll xs)
    have := shownAll_le xs h
    show (listText _).length ≤ wtAll xs + 4
    omega
  | .tuple xs, h => by
    have := tupleText_len_le (PyData.shownAll xs)
    have := shownAll_le xs h
    show (tupleText _).length ≤ wtAll xs + 4
    omega
  | .dict _, h => nomatch h
theorem shownAll_le : ∀ ds : List PyData, fineAll ds = true → ((PyData.shownAll ds).map (·.length)).sum + 2 * (PyData.shownAll ds).length ≤ wtAll ds
  | [], _ => Nat.le_refl _
  | x :: xs, h => by
    obtain ⟨h1, h2⟩ := Bool.and_eq_true_iff.mp (show (fine x && fineAll xs) = true from h)
    have a := shown_le x h1
    have b := shownAll_le xs h2
    show ((x.shown :: PyData.shownAll xs).map (·.length)).sum + 2 * (x.shown :: PyData.shownAll xs).length ≤ wt x + 4 + wtAll xs
    rw [List.map_cons, List.sum_cons, List.length_cons]
    omega
end
mutual
theorem showable_of : ∀ d : PyData, fine d = true → d.showable = true ∧ d.hasDict = false
  | .none, _ => ⟨rfl, rfl⟩
  | .bool b, _ => ⟨rfl, rfl⟩
  | .int i, h => by
    have hi : i.natAbs < 10 ^ 80 := of_decide_eq_true h
    refine ⟨decide_eq_true ?_, rfl⟩
    have := PySem.Flt.log2_lt_of (n := i.natAbs) (k := 300) (by decide) (Nat.lt_trans hi e80)
    omega
  | .str x, h => ⟨rfl, rfl⟩
  | .list xs, h => showableAll_of xs h
  | .tuple xs, h => showableAll_of xs h
  | .dict _, h => nomatch h
theorem showableAll_of : ∀ ds : List PyData, fineAll ds = true → PyData.showableAll ds = true ∧ PyData.hasDictAll ds = false
  | [], _ => ⟨rfl, rfl⟩
  | x :: xs, h => by
    obtain ⟨h1, h2⟩ := Bool.and_eq_true_iff.mp (show (fine x && fineAll xs) = true from h)
    obtain ⟨a1, a2⟩ := showable_of x h1
    obtain ⟨b1, b2⟩ := showableAll_of xs h2
    exact ⟨by show (x.showable && PyData.showableAll xs) = true; rw [a1, b1]; rfl, by show (x.hasDict || PyData.hasDictAll xs) = false; rw [a2, b2]; rfl⟩
end
/-- data of a law: small enough, no deep nest -/
structure Good (n k : Nat) (d : PyData) : Prop where
  fin : fine d = true
  wt : wt d ≤ n
  dp : d.depth ≤ k
theorem Good.up {n k n' k' : Nat} {d : PyData} (g : Good n k d) (h : n ≤ n' := by omega) (h' : k ≤ k' := by omega) : Good n' k' d := ⟨g.fin, Nat.le_trans g.wt h, Nat.le_trans g.dp h'⟩
theorem depth_mem : ∀ {ds : List PyData} {d : PyData}, d ∈ ds → d.depth ≤ PyData.depthAll ds
  | [], _, h => absurd h List.not_mem_nil
  | x :: xs, d, h => by
    show _ ≤ max x.depth (PyData.depthAll xs)
    rcases List.mem_cons.mp h with rfl | h
    · exact Nat.le_max_left _ _
    · exact Nat.le_trans (depth_mem h) (Nat.le_max_right _ _)
theorem depthAll_le {n : Nat} : ∀ {ds : List PyData}, (∀ d ∈ ds, d.depth ≤ n) → PyData.depthAll ds ≤ n
  | [], _ => Nat.zero_le _
  | x :: xs, h => Nat.max_le.mpr ⟨h x (List.mem_cons_self ..), depthAll_le fun d hd => h d (List.mem_cons_of_mem _ hd)⟩
theorem Good.tup_mem {n k : Nat} {ds : List PyData} {d : PyData} (g : Good n k (.tuple ds)) (h : d ∈ ds) : Good (n - 8) (k - 1) d := by
  have h1 := g.wt
  have h2 := g.dp
  have h3 := wtAll_mem h
  have h4 := depth_mem h
  refine ⟨fineAll_iff.mp g.fin d h, ?_, ?_⟩
  · have : DD.wt (.tuple ds) = wtAll ds + 4 := rfl
    omega
  · have : (PyData.tuple ds).depth = PyData.depthAll ds + 1 := rfl
    omega
theorem Good.mk_tup {n k : Nat} {ds : List PyData} (h1 : ∀ d ∈ ds, fine d = true ∧ d.depth ≤ k) (h2 : wtAll ds + 4 ≤ n) : Good n (k + 1) (.tuple ds) :=
  ⟨fineAll_iff.mpr fun d h => (h1 d h).1, h2, Nat.succ_le_succ (depthAll_le fun d h => (h1 d h).2)⟩
theorem Good.mk_lst {n k : Nat} {ds : List PyData} (h1 : ∀ d ∈ ds, fine d = true ∧ d.depth ≤ k) (h2 : wtAll ds + 4 ≤ n) : Good n (k + 1) (.list ds) :=
  ⟨fineAll_iff.mpr fun d h => (h1 d h).1, h2, Nat.succ_le_succ (depthAll_le fun d h => (h1 d h).2)⟩
theorem line20 : (1000000 : Nat) ≤ sizeLine := by rw [sizeLine_eq]; decide

/-! ### data at a value: each tuple is known as it was made, without a dict of its own -/
def SqF (K : PySem.W.Frag) (H : Hp) (a : Addr) (vs : List V) : Prop := ∃ o : Obj, o.dict = none ∧ (H a = some (.frz o (.tup vs)) ∨
  (K.lookup a = some o ∧ o.cls = .type "tuple" ∧ ∃ (its : Array Value) (n : Nat), o.data = .seq its n ∧ its.size ≤ sizeLine ∧ Vals vs its.toList))
theorem SqF.sqT {K : PySem.W.Frag} {H : Hp} {a : Addr} {vs : List V} (h : SqF K H a vs) : SqT K H a vs := by
  obtain ⟨o, _, h | ⟨h1, h2, its, n, h3, h4, h5⟩⟩ := h
  · exact .inl (.inr ⟨o, h⟩)
  · exact .inr ⟨o, its, n, h1, h2, h3, h4, h5⟩
theorem SqF.to {K : PySem.W.Frag} {H H' : Hp} {a : Addr} {vs : List V} (e : Same H H') (h : SqF K H a vs) : SqF K H' a vs := by
  obtain ⟨o, hd, h | h⟩ := h
  · exact ⟨o, hd, .inl (e _ _ h)⟩
  · exact ⟨o, hd, .inr h⟩
mutual
inductive Df (K : PySem.W.Frag) (H : Hp) : V → PyData → Prop
  | non : Df K H .non .none
  | bl (b : Bool) : Df K H (.bl b) (.bool b)
  | int (i : Int) : Df K H (.int i) (.int i)
  | str (x : Str) : Df K H (.str x) (.str x)
  | lst {a : Addr} {xs : List V} {ds : List PyData} : SqL K H a xs → DfAll K H xs ds → Df K H (.ref a) (.list ds)
  | tup {a : Addr} {xs : List V} {ds : List PyData} : SqF K H a xs → DfAll K H xs ds → Df K H (.ref a) (.tuple ds)
inductive DfAll (K : PySem.W.Frag) (H : Hp) : List V → List PyData → Prop
  | nil : DfAll K H [] []
  | cons {v : V} {vs : List V} {d : PyData} {ds : List PyData} : Df K H v d → DfAll K H vs ds → DfAll K H (v :: vs) (d :: ds)
end
mutual
theorem Df.dp' {K : PySem.W.Frag} {H : Hp} : ∀ (d : PyData) (v : V), Df K H v d → Dp K H v d
  | .none, _, .non => .non
  | .bool _, _, .bl b => .bl b
  | .int _, _, .int i => .int i
  | .str _, _, .str x => .str x
  | .list ds, _, .lst h t => .lst h (DfAll.dp' ds _ t)
  | .tuple ds, _, .tup h t => .tup h.sqT (DfAll.dp' ds _ t)
theorem DfAll.dp' {K : PySem.W.Frag} {H : Hp} : ∀ (ds : List PyData) (vs : List V), DfAll K H vs ds → DpAll K H vs ds
  | [], _, .nil => .nil
  | d :: ds, _, .cons h t => .cons (Df.dp' d _ h) (DfAll.dp' ds _ t)
end
theorem Df.dp {K : PySem.W.Frag} {H : Hp} {d : PyData} {v : V} (h : Df K H v d) : Dp K H v d := Df.dp' d v h
theorem DfAll.get {K : PySem.W.Frag} {H : Hp} : ∀ {vs : List V} {ds : List PyData} {i : Nat} {v : V}, DfAll K H vs ds → vs[i]? = some v → ∃ d, ds[i]? = some d ∧ Df K H v d
  | [], _, _, _, _, e => by simp at e
  | v :: vs, d :: ds, 0, _, .cons h _, e => by
    cases e
    exact ⟨d, rfl, h⟩
  | v :: vs, d :: ds, i + 1, _, .cons _ t, e => DfAll.get (i := i) t e
theorem DfAll.getD {K : PySem.W.Frag} {H : Hp} : ∀ {vs : List V} {ds : List PyData} {i : Nat} {d : PyData}, DfAll K H vs ds → ds[i]? = some d → ∃ v, vs[i]? = some v ∧ Df K H v d
  | _, [], _, _, _, e => by simp at e
  | v :: vs, d :: ds, 0, _, .cons h _, e => by
    cases e
    exact ⟨v, rfl, h⟩
  | v :: vs, d :: ds, i + 1, _, .cons _ t, e => DfAll.getD (i := i) t e
theorem DfAll.len {K : PySem.W.Frag} {H : Hp} : ∀ {vs : List V} {ds : List PyData}, DfAll K H vs ds → vs.length = ds.length
  | _, _, .nil => rfl
  | _, _, .cons _ t => congrArg Nat.succ (DfAll.len t)
theorem DfAll.app {K : PySem.W.Frag} {H : Hp} : ∀ {vs ws : List V} {ds es : List PyData}, DfAll K H vs ds → DfAll K H ws es → DfAll K H (vs ++ ws) (ds ++ es)
  | _, _, _, _, .nil, s => s
  | _, _, _, _, .cons h t, s => .cons h (DfAll.app t s)
theorem DfAll.take {K : PySem.W.Frag} {H : Hp} : ∀ (n : Nat) {vs : List V} {ds : List PyData}, DfAll K H vs ds → DfAll K H (vs.take n) (ds.take n)
  | 0, _, _, _ => .nil
  | _ + 1, _, _, .nil => .nil
  | n + 1, _, _, .cons h t => .cons h (DfAll.take n t)
theorem DfAll.drop {K : PySem.W.Frag} {H : Hp} : ∀ (n : Nat) {vs : List V} {ds : List PyData}, DfAll K H vs ds → DfAll K H (vs.drop n) (ds.drop n)
  | 0, _, _, h => h
  | _ + 1, _, _, .nil => .nil
  | n + 1, _, _, .cons _ t => DfAll.drop n t
theorem DfAll.rev {K : PySem.W.Frag} {H : Hp} : ∀ {vs : List V} {ds : List PyData}, DfAll K H vs ds → DfAll K H vs.reverse ds.reverse
  | _, _, .nil => .nil
  | _, _, .cons h t => by
    rw [List.reverse_cons, List.reverse_cons]
    exact DfAll.app (DfAll.rev t) (.cons h .nil)
theorem seqT_mono {K : PySem.W.Frag} {H H' : Hp} {a : Addr} {xs : List V} (e : Same H H') (h : SqT K H a xs) : SqT K H' a xs := by
  rcases h with (h | ⟨o, h⟩) | h
  · exact .inl (.inl (e _ _ h))
  · exact .inl (.inr ⟨o, e _ _ h⟩)
  · exact .inr h
mutual
theorem Df.mono {K : PySem.W.Frag} {H H' : Hp} (e : Same H H') : ∀ (d : PyData) (v : V), Df K H v d → Df K H' v d
  | .none, _, .non => .non
  | .bool _, _, .bl b => .bl b
  | .int _, _, .int i => .int i
  | .str _, _, .str x => .str x
  | .list ds, _, .lst h t => .lst (e.seq h) (DfAll.mono e ds _ t)
  | .tuple ds, _, .tup h t => .tup (h.to e) (DfAll.mono e ds _ t)
theorem DfAll.mono {K : PySem.W.Frag} {H H' : Hp} (e : Same H H') : ∀ (ds : List PyData) (vs : List V), DfAll K H vs ds → DfAll K H' vs ds
  | [], _, .nil => .nil
  | d :: ds, _, .cons h t => .cons (Df.mono e d _ h) (DfAll.mono e ds _ t)
end
theorem Df.to {K : PySem.W.Frag} {H H' : Hp} {d : PyData} {v : V} (h : Df K H v d) (e : Same H H') : Df K H' v d := Df.mono e d v h
theorem DfAll.to {K : PySem.W.Frag} {H H' : Hp} {ds : List PyData} {vs : List V} (h : DfAll K H vs ds) (e : Same H H') : DfAll K H' vs ds := DfAll.mono e ds vs h
theorem same_new {H : Hp} {p : Addr} {o : HO} (h : H p = none) : Same H (upd H p o) := fun b x e => by
  rw [upd_ne (ne_of_none e h)]
  exact e
theorem len3 {α : Type} {l : List α} (h : l.length = 3) : ∃ a b c, l = [a, b, c] := by
  match l, h with
  | [a, b, c], _ => exact ⟨a, b, c, rfl⟩
theorem len2 {α : Type} {l : List α} (h : l.length = 2) : ∃ a b, l = [a, b] := by
  match l, h with
  | [a, b], _ => exact ⟨a, b, rfl⟩
theorem DfAll.c {K : PySem.W.Frag} {H : Hp} {vs : List V} {d : PyData} {ds : List PyData} (h : DfAll K H vs (d :: ds)) : ∃ v r, vs = v :: r ∧ Df K H v d ∧ DfAll K H r ds := by
  cases h with
  | cons a b => exact ⟨_, _, rfl, a, b⟩
theorem DfAll.n {K : PySem.W.Frag} {H : Hp} {vs : List V} (h : DfAll K H vs []) : vs = [] := by
  cases h
  rfl
theorem DfAll.three {K : PySem.W.Frag} {H : Hp} {vs : List V} {a b c : PyData} (h : DfAll K H vs [a, b, c]) : ∃ x y z, vs = [x, y, z] ∧ Df K H x a ∧ Df K H y b ∧ Df K H z c := by
  obtain ⟨x, _, rfl, h1, h⟩ := DfAll.c h
  obtain ⟨y, _, rfl, h2, h⟩ := DfAll.c h
  obtain ⟨z, _, rfl, h3, h⟩ := DfAll.c h
  obtain rfl := DfAll.n h
  exact ⟨x, y, z, rfl, h1, h2, h3⟩
theorem DfAll.two {K : PySem.W.Frag} {H : Hp} {vs : List V} {a b : PyData} (h : DfAll K H vs [a, b]) : ∃ x y, vs = [x, y] ∧ Df K H x a ∧ Df K H y b := by
  obtain ⟨x, _, rfl, h1, h⟩ := DfAll.c h
  obtain ⟨y, _, rfl, h2, h⟩ := DfAll.c h
  obtain rfl := DfAll.n h
  exact ⟨x, y, rfl, h1, h2⟩
theorem Df.tupF_inv {K : PySem.W.Frag} {H : Hp} {v : V} {ds : List PyData} (h : Df K H v (.tuple ds)) : ∃ a vs, v = .ref a ∧ SqF K H a vs ∧ DfAll K H vs ds := by
  cases h with
  | tup a b => exact ⟨_, _, rfl, a, b⟩
theorem Df.tup_inv {K : PySem.W.Frag} {H : Hp} {v : V} {ds : List PyData} (h : Df K H v (.tuple ds)) : ∃ a vs, v = .ref a ∧ SqT K H a vs ∧ DfAll K H vs ds := by
  obtain ⟨a, vs, e, h1, h2⟩ := h.tupF_inv
  exact ⟨a, vs, e, h1.sqT, h2⟩
theorem Df.lst_inv {K : PySem.W.Frag} {H : Hp} {v : V} {ds : List PyData} (h : Df K H v (.list ds)) : ∃ a vs, v = .ref a ∧ SqL K H a vs ∧ DfAll K H vs ds := by
  cases h with
  | lst a b => exact ⟨_, _, rfl, a, b⟩
/-! ### the heap without some objects: what is read there does not change with them -/
def hid (S : Addr → Bool) (H : Hp) : Hp := fun b => if S b = true then none else H b
theorem hid_same {S : Addr → Bool} {H : Hp} : Same (hid S H) H := fun b o e => by
  unfold hid at e
  split at e
  · cases e
  · exact e
theorem hid_upd {S : Addr → Bool} {H : Hp} {a : Addr} {o : HO} (h : S a = true) : hid S (upd H a o) = hid S H := by
  funext b
  unfold hid
  split
  · rfl
  · rename_i hb
    have : b ≠ a := fun z => hb (by rw [z]; exact h)
    rw [upd_ne this]
/-- all but the objects of S stay -/
def Keeps (S : Addr → Bool) (H H' : Hp) : Prop := Same (hid S H) (hid S H')
theorem Keeps.rfl {S : Addr → Bool} {H : Hp} : Keeps S H H := Same.refl _
theorem Keeps.trans {S : Addr → Bool} {H H1 H2 : Hp} (a : Keeps S H H1) (b : Keeps S H1 H2) : Keeps S H H2 := Same.trans a b
theorem Keeps.at {S : Addr → Bool} {H H' : Hp} (k : Keeps S H H') {b : Addr} {o : HO} (hb : S b = false) (e : H b = some o) : H' b = some o := by
  have h1 : hid S H b = some o := by unfold hid; rw [if_neg (by rw [hb]; exact Bool.false_ne_true)]; exact e
  exact hid_same b o (k b o h1)
theorem Keeps.of {S : Addr → Bool} {H H' : Hp} (h : ∀ b o, S b = false → H b = some o → H' b = some o) : Keeps S H H' := fun b o e => by
  unfold hid at e ⊢
  split at e
  · cases e
  · rename_i hb
    rw [if_neg hb]
    exact h b o (by simpa using hb) e
theorem Keeps.new {S : Addr → Bool} {H : Hp} {p : Addr} {o : HO} (h : H p = none) : Keeps S H (upd H p o) := Keeps.of fun b x _ e => same_new h b x e
theorem Keeps.set {S : Addr → Bool} {H : Hp} {p : Addr} {o : HO} (h : S p = true) : Keeps S H (upd H p o) := by
  unfold Keeps
  rw [hid_upd h]
  exact Same.refl _
theorem Keeps.same {S : Addr → Bool} {H H' : Hp} (h : Same H H') : Keeps S H H' := Keeps.of fun b o _ e => h b o e
/-- the objects of S are all there (so a new one is not of S) -/
def There (S : Addr → Bool) (H : Hp) : Prop := ∀ b, S b = true → H b ≠ none
theorem There.new {S : Addr → Bool} {H : Hp} {p : Addr} (t : There S H) (h : H p = none) : S p = false := by
  cases e : S p with
  | false => rfl
  | true => exact absurd h (t p e)
theorem hid_at {S : Addr → Bool} {H : Hp} {b : Addr} (h : S b = false) : hid S H b = H b := by
  unfold hid
  rw [h]
  rfl
/-- the source's address, if there is one -/
def one (a : Option Addr) : Addr → Bool := fun b => decide (a = some b)
theorem one_self (a : Addr) : one (some a) a = true := decide_eq_true rfl
theorem one_ne {a b : Addr} (h : b ≠ a) : one (some a) b = false := decide_eq_false fun z => h (Option.some.inj z).symm
theorem one_is {a : Option Addr} {b : Addr} (h : one a b = true) : a = some b := of_decide_eq_true h
theorem one_no {a : Option Addr} {b : Addr} (h : a ≠ some b) : one a b = false := decide_eq_false h
theorem one_not {a : Option Addr} {b : Addr} (h : one a b = false) : a ≠ some b := of_decide_eq_false h
/-! ### rules by data -/
def tyName : PyData → String
  | .none => "NoneType"
  | .bool _ => "bool"
  | .int _ => "int"
  | .str _ => "str"
  | .list _ => "list"
  | .tuple _ => "tuple"
  | .dict _ => "dict"
theorem Dp.ty {K : PySem.W.Frag} {H : Hp} {v : V} {d : PyData} (h : Dp K H v d) : TyX K H v (.type (tyName d)) := by
  cases h with
  | non => exact .base .non
  | bl b => exact .base (.bl b)
  | int i => exact .base (.int i)
  | str x => exact .base (.str x)
  | lst h _ =>
    rcases h with (h | ⟨o, h⟩) | ⟨o, its, n, hk, hc, _⟩
    · exact .base (.lst h)
    · exact .base (.frz h)
    · exact .kList hk hc
  | tup h _ =>
    rcases h with (h | ⟨o, h⟩) | ⟨o, its, n, hk, hc, _⟩
    · exact .base (.tup h)
    · exact .fTuple h
    · exact .kTuple hk hc
theorem Df.ty {K : PySem.W.Frag} {H : Hp} {v : V} {d : PyData} (h : Df K H v d) : TyX K H v (.type (tyName d)) := Dp.ty h.dp
def isTy (T : String) (d : PyData) : Bool := (kitB (tyName d) T).getD false
section
variable {X : Cx}
/-- isinstance(x, T) of data: T one of the built-in types that are asked -/
theorem call_isiD : CallR X (.builtin "isinstance") (fun xs H Q => ∃ v d T b, xs = [v, .ty T] ∧ Df X.K H v d ∧ kitB (tyName d) T = some b ∧ Q (.bl b) H) := by
  intro pins s σ H xs us Q I r h
  obtain ⟨v, d, T, b, rfl, hd, hk, q⟩ := h
  exact call_isi pins s σ H _ us Q I r ⟨v, .ty T, _, _, b, rfl, .ty T, Df.ty hd, kit_ty hk, q⟩
/-- a ** b of ints -/
def CPowB (i j : Int) : Prop := 0 ≤ j ∧ ((i.natAbs.log2 : Int) + 1) * j ≤ 2 ^ 27
theorem op_powB : OpR X (binaryOp .Pow) (rI CPowB fun i j => .int (i ^ j.toNat)) := opI fun i j _ _ _ _ _ hc q => by
  refine PyProof.Rows.pow_int hc.1 ?_ q
  have b : (Builtin.Int.intBits i : Int) ≤ (i.natAbs.log2 : Int) + 1 := by
    unfold Builtin.Int.intBits
    split <;> omega
  exact Int.le_trans (Int.mul_le_mul_of_nonneg_right b hc.1) hc.2
end
/-- a call by keywords alone: ks their names, as they are written; ps the parameters; g puts the values in the parameters' order -/
structure KwTo (fd : FuncData) (ks ps : List Str) (g : {α : Type} → List α → List α) : Prop where
  eq : ∀ us : List Value, us.length = ks.length → bindArgs fd ⟨[], ks.zip us⟩ = pure (ps.zip (g us))
  rel : ∀ {xs : List V} {us : List Value}, Vals xs us → xs.length = ks.length → Vals (g xs) (g us)
def gId {α : Type} (l : List α) : List α := l
def gSwap {α : Type} (l : List α) : List α := match l with
  | [a, b] => [b, a]
  | l => l
theorem gSwap_rel {xs : List V} {us : List Value} (r : Vals xs us) (h : xs.length = 2) : Vals (gSwap xs) (gSwap us) := by
  match xs, us, r, h with
  | [a, b], _, .cons r1 (.cons r2 .nil), _ => exact .cons r2 (.cons r1 .nil)
def tCallKw (m : Nat) (sp : Sp) (g : {α : Type} → List α → List α) (E : XK) (tk : TA) : TE := fun σ H Q => tk σ H fun zs H1 => zs.length = m ∧ sp (g zs) H1 Q E
section
variable {X : Cx} {CX : CXT} {k : Nat} {f : Addr} {fd : FuncData} {ps ks : List Str} {sp : Sp} {E : XK} {x : Str} {p pos : Pos} {kws : List Keyword} {tk : TA} {g : {α : Type} → List α → List α}
theorem pe_callKw (F : FnOk X.prog X.w X.K X.mg X.base CX k f fd ps sp) (hr : Room k X.A) (hg : Gl X x) (hm : X.mg x = some (.ref f)) (hk : PySem.W.keepIn X.K (.ref f) = true) (hb : KwTo fd ks ps g) (hx : Passes CX X E)
    (hkw : PK X kws tk) (hall : (backToKw pos (keywordEach kws X.env)).all (·.1.isSome) = true := by rfl) (hks : (backToKw pos (keywordEach kws X.env)).filterMap (·.1) = ks := by rfl)
    (hdb : (x == ("__debug__" : Str)) = false := by decide) (hpl : ((backTo pos (starEach [] X.env)).any (·.1) || (backToKw pos (keywordEach kws X.env)).any (·.1.isNone)) = false := by rfl) :
    PE X (.Call (.Name x p) [] kws pos) (tCallKw ks.length sp g E tk) := by
  refine ⟨fun pins s σ H Q I h => wpAny_Call_Name_kw (ld_glob I hg hm ?_ hdb)⟩
  refine PySem.W.callWith_KW0 (h₀ := X.base) I.ok.mod.kin hk hall (thn (hkw.run pos pins s σ H _ I h) fun ws s1 ⟨zs, H1, I1, rz, len, q⟩ => ⟨I1.kIn, ?_⟩) hpl
  rw [hks]
  have r2 := hb.rel rz len
  have lw : ws.length = ks.length := rz.length.symm.trans len
  have main := F.run X.A X.stack s1 H1 ⟨[], ks.zip ws⟩ (g ws) (g zs) Q E hr I1.env0 (.of_eq (hb.eq ws lw)) r2 q
  refine wpAny_call (codeAny_mono main fun r s' hq => ?_)
  match r, hq with
  | .error e, hq => exact hx pins σ H1 s1 e s' I1 hq
  | .ok (.ret _), hq => exact I1.after hq
end
/-! ### what the program's and the law's tests say of data -/
def isInt : PyData → Bool
  | .int _ => true
  | _ => false
def isKint : PyData → Bool
  | .int _ => true
  | .bool _ => true
  | _ => false
theorem kit_int : ∀ d : PyData, fine d = true → kitB (tyName d) "int" = some (isKint d)
  | .none, _ => (show kitB "NoneType" "int" = some false by decide +kernel)
  | .bool _, _ => (show kitB "bool" "int" = some true by decide +kernel)
  | .int _, _ => (show kitB "int" "int" = some true by decide +kernel)
  | .str _, _ => (show kitB "str" "int" = some false by decide +kernel)
  | .list _, _ => (show kitB "list" "int" = some false by decide +kernel)
  | .tuple _, _ => (show kitB "tuple" "int" = some false by decide +kernel)
  | .dict _, h => nomatch h
def isKbool : PyData → Bool
  | .bool _ => true
  | _ => false
theorem kit_bool : ∀ d : PyData, fine d = true → kitB (tyName d) "bool" = some (isKbool d)
  | .none, _ => (show kitB "NoneType" "bool" = some false by decide +kernel)
  | .bool _, _ => (show kitB "bool" "bool" = some true by decide +kernel)
  | .int _, _ => (show kitB "int" "bool" = some false by decide +kernel)
  | .str _, _ => (show kitB "str" "bool" = some false by decide +kernel)
  | .list _, _ => (show kitB "list" "bool" = some false by decide +kernel)
  | .tuple _, _ => (show kitB "tuple" "bool" = some false by decide +kernel)
  | .dict _, h => nomatch h
def isKstr : PyData → Bool
  | .str _ => true
  | _ => false
theorem kit_str : ∀ d : PyData, fine d = true → kitB (tyName d) "str" = some (isKstr d)
  | .none, _ => (show kitB "NoneType" "str" = some false by decide +kernel)
  | .bool _, _ => (show kitB "bool" "str" = some false by decide +kernel)
  | .int _, _ => (show kitB "int" "str" = some false by decide +kernel)
  | .str _, _ => (show kitB "str" "str" = some true by decide +kernel)
  | .list _, _ => (show kitB "list" "str" = some false by decide +kernel)
  | .tuple _, _ => (show kitB "tuple" "str" = some false by decide +kernel)
  | .dict _, h => nomatch h
def isKtuple : PyData → Bool
  | .tuple _ => true
  | _ => false
theorem kit_tuple : ∀ d : PyData, fine d = true → kitB (tyName d) "tuple" = some (isKtuple d)
  | .none, _ => (show kitB "NoneType" "tuple" = some false by decide +kernel)
  | .bool _, _ => (show kitB "bool" "tuple" = some false by decide +kernel)
  | .int _, _ => (show kitB "int" "tuple" = some false by decide +kernel)
  | .str _, _ => (show kitB "str" "tuple" = some false by decide +kernel)
  | .list _, _ => (show kitB "list" "tuple" = some false by decide +kernel)
  | .tuple _, _ => (show kitB "tuple" "tuple" = some true by decide +kernel)
  | .dict _, h => nomatch h
end DD

namespace DDT
open PySem PySem.Spec PyProof.Rows
/-! ### t[::-1] of a tuple -/
section
variable {prog : Program} {w : World} {A : Around} {E : Value → Shared → Prop} {s : Shared}
theorem back_places (n : Nat) : Builtin.Slice.slicePlaces ((n : Int) - 1) (-1) (-1) = n := by
  unfold Builtin.Slice.slicePlaces
  rw [if_neg (by decide : ¬ ((-1 : Int) > 0))]
  by_cases h : (n : Int) - 1 > -1
  · rw [if_pos h, show -(-1 : Int) = 1 from rfl, Int.ediv_one]
    omega
  · rw [if_neg h]
    show 0 = n
    omega
theorem applied_back {sl : Addr} {n : Nat} {u : Tok} {Q : Int × Int × Nat → Shared → Prop} (hs : s.heap.IsSliceOf sl .none .none (.int (-1) u)) (h : Q ((n : Int) - 1, -1, n) s) :
    wpAny (model prog w) A (Builtin.Slice.sliceApplied (.ref sl) (pure (n : Int))) Q E s := by
  obtain ⟨os, e1, e2, e3⟩ := id hs
  unfold Builtin.Slice.sliceApplied Builtin.Slice.sliceFields
  refine wpAny_bind (wpAny_bind (wpAny_field e1 e3 (x := .none) rfl (wpAny_bind (wpAny_field e1 e3 (x := .none) rfl (wpAny_bind (wpAny_field e1 e3 (x := .int (-1) u) rfl (wpAny_pure (wpAny_bind (slicePart_int ?_)))))))))
  show wpAny _ _ (if ((-1 : Int) == 0) = true then _ else _) _ _ s
  rw [if_neg (by decide)]
  refine wpAny_bind (slicePart_none (wpAny_bind (slicePart_none (wpAny_bind (wpAny_pure ?_)))))
  show wpAny _ _ (pure (((n : Int) - 1), (-1 : Int), Builtin.Slice.slicePlaces ((n : Int) - 1) (-1) (-1))) _ _ s
  rw [back_places]
  exact wpAny_pure h
theorem pick_back (xs : Array Value) : ((List.range xs.size).filterMap fun (m : Nat) => xs[((((xs.size : Nat) : Int) - 1) + (m : Int) * (-1)).toNat]?).toArray = xs.toList.reverse.toArray := by
  congr 1
  have key : ∀ k, k ≤ xs.size → (List.range k).filterMap (fun (m : Nat) => xs[((((xs.size : Nat) : Int) - 1) + (m : Int) * (-1)).toNat]?) = xs.toList.reverse.take k := by
    intro k
    induction k with
    | zero => intro _; rfl
    | succ k ih =>
      intro hk
      have e1 : ((((xs.size : Nat) : Int) - 1) + (k : Int) * (-1)).toNat = xs.size - 1 - k := by omega
      have hlt : xs.size - 1 - k < xs.size := by omega
      have hl : k < xs.toList.reverse.length := by
        rw [List.length_reverse, Array.length_toList]
        omega
      have e2 : xs[xs.size - 1 - k]? = some xs[xs.size - 1 - k] := Array.getElem?_eq_getElem hlt
      have e3 : xs.toList.reverse[k] = xs[xs.size - 1 - k] := by
        rw [List.getElem_reverse, Array.getElem_toList]
        all_goals rfl
      rw [List.range_succ, List.filterMap_append, ih (by omega), List.take_add_one, List.filterMap_cons, e1, e2, List.getElem?_eq_getElem hl, e3]
      rfl
  rw [key xs.size (Nat.le_refl _)]
  exact List.take_of_length_le (by rw [List.length_reverse, Array.length_toList]; exact Nat.le_refl _)
theorem item_back {t sl : Addr} {items : Array Value} {u : Tok} {Q : Value → Shared → Prop} (ht : IsTup s.heap t items) (hs : s.heap.IsSliceOf sl .none .none (.int (-1) u))
    (h : Q (.ref s.heap.objs.size) { s with heap := s.heap.push { cls := .type "tuple", data := .seq items.toList.reverse.toArray } }) (hsz : items.size ≤ sizeLine) : wpAny (model prog w) A (getItem (.ref t) (.ref sl)) Q E s := by
  have room : sizeOk (.seq items.toList.reverse.toArray) := by
    show items.toList.reverse.toArray.size ≤ sizeLine
    rw [List.size_toArray, List.length_reverse, Array.length_toList]
    exact hsz
  obtain ⟨os, e1, e2, e3⟩ := id hs
  have isSl : s.TypeIs (.ref sl) "slice" := ⟨os, e1, e2⟩
  unfold getItem
  refine wpAny_holding ?_
  refine wpAny_bind (wpAny_sequenceKey ht.typeIs (by decide) (wpAny_bind (wpAny_callSpecial?_slot (name := Str.ofString "__getitem__") ht.typeIs PyProof.Rows.slot_tuple_getitem (wpAny_call_entry PyProof.Rows.slot_tuple_getitem ht.typeIs entry_tuple_getitem ?_ (args_tuple_getitem _ _)))))
  show wpAny _ _ (Builtin.Tuple.tupleItemsOf (.ref t) >>= _) _ _ s
  refine wpAny_bind (tupleItemsOf_ ht (wpAny_bind (wpAny_typeOf isSl ?_)))
  rw [if_pos (by decide)]
  refine wpAny_bind (applied_back hs ?_)
  show wpAny _ _ (if (((items.size : Nat) : Int) - 1 == 0 && (-1 : Int) == 1 && items.size == items.size) = true then _ else _) _ _ s
  rw [if_neg (by rw [show ((-1 : Int) == 1) = false from rfl, Bool.and_false, Bool.false_and]; exact Bool.false_ne_true), pick_back]
  first
    | exact wpAny_bind (m := Builtin.Tuple.tupleExact _) (wpAny_newObj_type (wpAny_pure ⟨_, rfl, wpAny_pure h⟩) room)
    | exact wpAny_bind (m := Builtin.Tuple.tupleExact _) (wpAny_newObj_type (wpAny_bind (wpAny_pure (wpAny_pure ⟨_, rfl, wpAny_pure h⟩))) room)
    | exact wpAny_bind (wpAny_bind (m := Builtin.Tuple.tupleExact _) (wpAny_newObj_type (wpAny_pure (wpAny_pure ⟨_, rfl, wpAny_pure h⟩)) room))
    | exact wpAny_bind (wpAny_bind (m := Builtin.Tuple.tupleExact _) (wpAny_newObj_type (wpAny_pure ⟨_, rfl, wpAny_pure h⟩) room))
end
end DDT
namespace DD
open PySem PySem.Spec PyProof.Rows L2
section
variable {X : Cx}
def tRevT (K : PySem.W.Frag) (te : TE) : TE := fun σ H Q => te σ H fun x H1 => ∃ a xs, x = .ref a ∧ SqT K H1 a xs ∧ ∀ p o, H1 p = none → o.dict = none → Q (.ref p) (upd H1 p (.frz o (.tup xs.reverse)))
theorem pe_revT {e : Expr} {te : TE} {k : Nat} {p1 p2 p3 pos : Pos} (he : PE X e te) : PE X (.Subscript e (.Slice none none (some (.UnaryOp .USub (.Constant (.int 1) k p1) p2)) p3) pos) (tRevT X.K te) := by
  refine ⟨fun pins s σ H Q I h => Subscript_ (thn (he.run pins s σ H _ I h) fun v s1 ⟨x, H1, I1, r1, a, xs, ex, hx, q⟩ => ?_)⟩
  subst ex
  cases r1
  have part : PO X (some (.UnaryOp .USub (.Constant (.int 1) k p1) p2)) (tPart (tUn (rU fun i => .int (-i)) (tC (.int 1)))) := po_some (pe_un un_neg pe_int)
  refine wpAny_Slice (thn (po_none.run pins s1 σ H1 (fun o G => o = none ∧ G = H1) I1 ⟨rfl, rfl⟩) fun vl s2 ⟨l, H2, I2, pl, el, g2⟩ => ?_)
  subst el g2
  refine thn (po_none.run pins s2 σ H2 (fun o G => o = none ∧ G = H2) I2 ⟨rfl, rfl⟩) fun vu s3 ⟨u, H3, I3, pu, eu, g3⟩ => ?_
  subst eu g3
  refine thn (part.run pins s3 σ H3 (fun o G => o = some (-1) ∧ G = H3) I3 ⟨1, rfl, -1, rfl, rfl, rfl⟩) fun vs s4 ⟨o, H4, I4, ps, eo, g4⟩ => ?_
  subst eo g4
  have I5 : Inv X pins σ H4 { s4 with heap := s4.heap.push { cls := .type "slice", data := .fields #[vl, vu, vs] } } := I4.kept (t' := s4.toks) fun b ob q => Heap.get?_push_of_some _ q
  obtain ⟨its, r, ht, hz⟩ := I5.tuple hx
  have len := r.length
  cases pl
  cases pu
  cases ps
  show wpAny (model X.prog X.w) X.A (subscriptTail e (.Slice none none (some (.UnaryOp .USub (.Constant (.int 1) k p1) p2)) p3) (.ref a) (.ref s4.heap.objs.size)) (EP X pins σ Q) X.xe { s4 with heap := s4.heap.push { cls := .type "slice", data := .fields #[.none, .none, _] } }
  refine tail_any (ops := [.ref a, .ref s4.heap.objs.size]) ht.typeIs (PyProof.Rows.slot_tuple_getitem.lookup) ?_ (by with_unfolding_all rfl)
  refine DDT.item_back ht (Heap.IsSliceOf.new _ _ _ _) ?_ (by rw [List.size_toArray]; omega)
  exact ⟨.ref _, _, I5.laid (t' := s4.toks) (o := .frz _ (.tup xs.reverse)) (fun b ob q => Heap.get?_push_of_some _ q) (Nat.le_refl _) ⟨Heap.get?_push_size _ rfl, by rw [List.length_reverse]; exact hz, _, r.reverse, IsTup.new _ _⟩, rfl, q _ _ (I5.hok.fresh (Nat.le_refl _)) rfl⟩
/-- xs + ys of any two lists that may be read -/
def rCatQ (K : PySem.W.Frag) : R2 := fun x y H Q => ∃ a b xs ys, x = .ref a ∧ y = .ref b ∧ SqL K H a xs ∧ SqL K H b ys ∧ xs.length + ys.length ≤ sizeLine ∧ ∀ p, H p = none → Q (.ref p) (upd H p (.lst (xs ++ ys)))
theorem op_catQ : OpR X (binaryOp .Add) (rCatQ X.K) := by
  intro pins s σ H x y v u Q I rx ry h
  obtain ⟨a, b, xs, ys, rfl, rfl, ha, hb, hz, q⟩ := h
  cases rx
  cases ry
  obtain ⟨its, r1, ⟨⟨c1, d1, dt1, l1⟩, n1, e1, f1, g1, i1⟩, _⟩ := I.list ha
  obtain ⟨jts, r2, ⟨⟨c2, d2, dt2, l2⟩, n2, e2, f2, g2, i2⟩, _⟩ := I.list hb
  simp only at f1 g1 i1 f2 g2 i2
  subst f1 g1 i1 f2 g2 i2
  have e : its.toArray ++ jts.toArray = (its ++ jts).toArray := by simp
  have few : its.toArray.size + jts.toArray.size ≤ sizeLine := by
    rw [List.size_toArray, List.size_toArray, ← r1.length, ← r2.length]
    exact hz
  refine concat_meets ⟨_, e1, rfl⟩ ⟨_, e2, rfl⟩ noFill_list_add seq_list_add PySem.F.slot_list_add PySem.F.entry_list_add (PySem.F.args_list_add_2 _ _) (list_addW a b _ _ n1 n2 _ _ l1 l2 few) ⟨e1, e2, ?_⟩
  rw [e]
  exact ⟨.ref _, _, I.lnew (t' := s.toks) (r1.append r2) (by rw [List.length_append]; exact hz), rfl, q _ I.fresh⟩
/-! ### tuples that are made: known as they are made -/
def tTupF (t : TA) : TE := fun σ H Q => t σ H fun xs H1 => xs.length ≤ sizeLine ∧ ∀ p o, H1 p = none → o.dict = none → Q (.ref p) (upd H1 p (.frz o (.tup xs)))
theorem pe_tupF {es : List Expr} {t : TA} {pos : Pos} {x1} (h : PA X es t) : PE X (.Tuple es x1 pos) (tTupF t) := by
  refine ⟨fun pins s σ H Q I hq => ?_⟩
  refine wpAny_Tuple_spliced (thn (h.run pos pins s σ H _ I hq) fun us s1 ⟨xs, H1, I1, r, z, q⟩ => ⟨by rw [← r.length]; exact z, ?_⟩)
  exact ⟨.ref s1.heap.objs.size, _, I1.laid (t' := s1.toks) (o := .frz _ (.tup xs)) (fun b u e => Heap.get?_push_of_some _ e) (Nat.le_refl _) ⟨Heap.get?_push_size _ rfl, z, us, r, ⟨_, Heap.get?_push_size _ rfl, rfl, _, rfl⟩⟩, rfl, q _ _ (I1.hok.fresh (Nat.le_refl _)) rfl⟩
def rSlF (K : PySem.W.Frag) : V → Option Int → Option Int → Hp → VK → Prop := fun x lo hi H Q => ∃ a xs, x = .ref a ∧ SqT K H a xs ∧
  (HT.sIx xs.length 0 lo = 0 ∧ HT.sIx xs.length xs.length hi = xs.length → Q (.ref a) H) ∧ (¬ (HT.sIx xs.length 0 lo = 0 ∧ HT.sIx xs.length xs.length hi = xs.length) → ∀ p o, H p = none → o.dict = none → Q (.ref p) (upd H p (.frz o (.tup (cutV xs lo hi)))))
theorem sl_tupF {K : PySem.W.Frag} (hK : X.K = K) : SlR X (rSlF K) := by
  subst hK
  intro pins s σ H x v vl vu lo hi sl Q I rx hs pl pu h
  obtain ⟨a, xs, rfl, hx, q1, q2⟩ := h
  cases rx
  obtain ⟨its, r, ht, hz⟩ := I.tuple hx
  have hlen : its.toArray.size = xs.length := by rw [List.size_toArray]; exact r.length.symm
  refine ⟨"tuple", _, PyProof.Rows.slot_tuple_getitem.lookup, ht.typeIs, ?_⟩
  by_cases hw : HT.sIx xs.length 0 lo = 0 ∧ HT.sIx xs.length xs.length hi = xs.length
  · exact getItem_tuple_whole ht hs pl pu (by rw [hlen]; exact hw) ⟨.ref a, H, I, rfl, q1 hw⟩
  · refine HT.getItem_tuple_cut ht hs pl pu (by rw [hlen]; exact hw) ?_ (by rw [hlen]; exact hz)
    rw [hlen]
    exact ⟨.ref s.heap.objs.size, _, I.laid (t' := s.toks) (o := .frz _ (.tup (cutV xs lo hi))) (fun b ob q => Heap.get?_push_of_some _ q) (Nat.le_refl _) ⟨Heap.get?_push_size _ rfl, Nat.le_trans (cutV_length xs lo hi) hz, _, (r.drop (HT.sIx xs.length 0 lo)).take (HT.sIx xs.length xs.length hi - HT.sIx xs.length 0 lo), IsTup.new _ _⟩, rfl, q2 hw _ _ (I.hok.fresh (Nat.le_refl _)) rfl⟩
def rCatF (K : PySem.W.Frag) : R2 := fun x y H Q => ∃ a b xs ys, x = .ref a ∧ y = .ref b ∧ SqT K H a xs ∧ SqT K H b ys ∧ xs.length + ys.length ≤ sizeLine ∧ (xs = [] → Q (.ref b) H) ∧ (xs ≠ [] → ys = [] → Q (.ref a) H) ∧
  (xs ≠ [] → ys ≠ [] → ∀ p o, H p = none → o.dict = none → Q (.ref p) (upd H p (.frz o (.tup (xs ++ ys)))))
theorem op_catF {K : PySem.W.Frag} (hK : X.K = K) : OpR X (binaryOp .Add) (rCatF K) := by
  subst hK
  intro pins s σ H x y v u Q I rx ry h
  obtain ⟨a, b, xs, ys, rfl, rfl, ha, hb, hz, q0, q1, q2⟩ := h
  cases rx
  cases ry
  obtain ⟨its, r1, p1, _⟩ := I.tuple ha
  obtain ⟨its2, r2, p2, _⟩ := I.tuple hb
  by_cases hx : xs = []
  · subst hx
    cases r1
    exact cat_tup0 p1 p2 ⟨.ref b, H, I, rfl, q0 rfl⟩
  · refine HT.cat_tup p1 p2 (fun z => hx (r1.nil_iff.mp z)) (fun z => ⟨.ref a, H, I, rfl, q1 hx (r2.nil_iff.mp z)⟩) (fun z => ?_) (by rw [← r1.length, ← r2.length]; exact hz)
    exact ⟨.ref s.heap.objs.size, _, I.laid (t' := s.toks) (o := .frz _ (.tup (xs ++ ys))) (fun b ob q => Heap.get?_push_of_some _ q) (Nat.le_refl _) ⟨Heap.get?_push_size _ rfl, by rw [List.length_append]; exact hz, _, r1.append r2, IsTup.new _ _⟩, rfl, q2 hx (fun w => z (r2.nil_iff.mpr w)) _ _ (I.hok.fresh (Nat.le_refl _)) rfl⟩
/-- tuple(l) -/
def rTupQ (K : PySem.W.Frag) : List V → Hp → VK → Prop := fun xs H Q => ∃ p ys, xs = [.ref p] ∧ ((SqL K H p ys ∧ ∀ l o, H l = none → o.dict = none → Q (.ref l) (upd H l (.frz o (.tup ys)))) ∨ (SqT K H p ys ∧ Q (.ref p) H))
theorem call_tupF {K : PySem.W.Frag} (hK : X.K = K) : CallR X (.type "tuple") (rTupQ K) := by
  subst hK
  intro pins s σ H xs us Q I r h
  obtain ⟨p, ys, rfl, h⟩ := h
  obtain ⟨u, rfl, rx⟩ := vals1 r
  cases rx
  rcases h with ⟨hq, q⟩ | ⟨hq, q⟩
  · obtain ⟨its, r', pl, hz⟩ := I.list hq
    have hlen := r'.length
    refine call_tuple_list pl.isList (fun h' kp => ?_) (by simp only [List.size_toArray] <;> omega)
    have I1 : Inv X pins σ H { s with heap := h' } := I.kept (t' := s.toks) kp
    exact ⟨.ref h'.objs.size, _, I1.laid (t' := s.toks) (o := .frz _ (.tup ys)) (fun b o e => Heap.get?_push_of_some _ e) (Nat.le_refl _) ⟨Heap.get?_push_size _ rfl, hz, its, r', IsTup.new _ _⟩, rfl, q _ _ (I1.hok.fresh (Nat.le_refl _)) rfl⟩
  · obtain ⟨its, r', pl, hz⟩ := I.tuple hq
    exact call_tuple_same pl ⟨.ref p, H, I, rfl, q⟩
def rDivQ : List V → Hp → VK → Prop := fun xs H Q => ∃ i j, xs = [.int i, .int j] ∧ CDiv i j ∧ ∀ p o, H p = none → o.dict = none → Q (.ref p) (upd H p (.frz o (.tup [.int (i / j), .int (i % j)])))
theorem call_divmodF : CallR X (.builtin "divmod") rDivQ := by
  intro pins s σ H xs us Q I r h
  obtain ⟨i, j, rfl, ⟨h1, h2⟩, q⟩ := h
  obtain ⟨u, w', rfl, ⟨t, rfl⟩, ⟨t', rfl⟩⟩ := vals2 r
  refine divmod_int (by omega) ?_ (.inl (PyProof.noPylong_small (by omega)))
  rw [Int.fdiv_eq_ediv_of_nonneg i (by omega), Int.fmod_eq_emod_of_nonneg i (by omega)]
  exact ⟨.ref s.heap.objs.size, _, I.laid (o := .frz _ (.tup [.int (i / j), .int (i % j)])) (fun b o e => Heap.get?_push_of_some _ e) (Nat.le_refl _) ⟨Heap.get?_push_size s.heap rfl, by simp only [List.length_cons, List.length_nil]; rw [sizeLine_eq]; decide, [.int (i / j) s.toks, .int (i % j) (s.toks + 1)], .cons ⟨_, rfl⟩ (.cons ⟨_, rfl⟩ .nil), ⟨_, Heap.get?_push_size s.heap rfl, rfl, 0, rfl⟩⟩, rfl, q _ _ (I.hok.fresh (Nat.le_refl _)) rfl⟩
end
end DD

namespace DD
open PySem PySem.Spec PyProof.Rows L2
/-! ### the drawn source: a list of three numbers, written by the draws alone -/
def Src (H : Hp) (a : Addr) (n : Nat) : Prop := ∃ g b t : Int, H a = some (.lst [.int g, .int b, .int t]) ∧ 0 ≤ g ∧ 0 ≤ b ∧ b < 2 ^ 61 ∧ 0 ≤ t ∧ t ≤ n
theorem Src.up {H : Hp} {a : Addr} {n m : Nat} (s : Src H a n) (h : n ≤ m) : Src H a m := by
  obtain ⟨g, b, t, e, h1, h2, h3, h4, h5⟩ := s
  exact ⟨g, b, t, e, h1, h2, h3, h4, by omega⟩
theorem Src.at {H H' : Hp} {a : Addr} {n : Nat} (s : Src H a n) (h : ∀ o, H a = some o → H' a = some o) : Src H' a n := by
  obtain ⟨g, b, t, e, r⟩ := s
  exact ⟨g, b, t, h _ e, r⟩
/-- S: what data do not speak of; a, the source, among them (where there is one) -/
structure Rn (S : Addr → Bool) (a : Option Addr) (n : Nat) (H : Hp) : Prop where
  sa : ∀ x, a = some x → S x = true
  th : There S H
  src : ∀ x, a = some x → Src H x n
theorem Rn.mk1 {S : Addr → Bool} {a : Addr} {n : Nat} {H : Hp} (sa : S a = true) (th : There S H) (s : Src H a n) : Rn S (some a) n H := ⟨fun x e => by cases e; exact sa, th, fun x e => by cases e; exact s⟩
theorem keeps_one {S : Addr → Bool} {a : Option Addr} {H H' : Hp} (sa : ∀ x, a = some x → S x = true) (k : Keeps (one a) H H') : Keeps S H H' :=
  Keeps.of fun b o hb e => k.at (one_no fun z => by rw [sa b z] at hb; cases hb) e
theorem Rn.step {S : Addr → Bool} {a : Option Addr} {n m : Nat} {H H' : Hp} (r : Rn S a n H) (k : Keeps (one a) H H') (s : ∀ x, a = some x → Src H' x m) : Rn S a m H' := by
  refine ⟨r.sa, fun b hb => ?_, s⟩
  by_cases e : a = some b
  · obtain ⟨g, b', t, q, _⟩ := s b e
    rw [q]
    exact fun z => nomatch z
  · intro z
    cases q : H b with
    | none => exact r.th b hb q
    | some o =>
      rw [k.at (one_no e) q] at z
      cases z
theorem Rn.stepS {S : Addr → Bool} {a : Addr} {n m : Nat} {H H' : Hp} (r : Rn S (some a) n H) (k : Keeps (one (some a)) H H') (s : Src H' a m) : Rn S (some a) m H' := r.step k fun x e => by cases e; exact s
theorem Rn.same {S : Addr → Bool} {a : Option Addr} {n : Nat} {H H' : Hp} (r : Rn S a n H) (k : Same H H') : Rn S a n H' := r.step (Keeps.same k) fun x e => (r.src x e).at (k x)
theorem Rn.up {S : Addr → Bool} {a : Option Addr} {n m : Nat} {H : Hp} (r : Rn S a n H) (h : n ≤ m) : Rn S a m H := ⟨r.sa, r.th, fun x e => (r.src x e).up h⟩
/-- no source at all: only the number of draws is written -/
theorem Rn.pure {S : Addr → Bool} {n : Nat} {H : Hp} (t : There S H) : Rn S none n H := ⟨fun x e => (by cases e), t, fun x e => (by cases e)⟩
theorem Df.keep {K : PySem.W.Frag} {S : Addr → Bool} {H H' : Hp} {v : V} {d : PyData} (h : Df K (hid S H) v d) (k : Keeps S H H') : Df K (hid S H') v d := Df.to h k
theorem DfAll.keep {K : PySem.W.Frag} {S : Addr → Bool} {H H' : Hp} {v : List V} {d : List PyData} (h : DfAll K (hid S H) v d) (k : Keeps S H H') : DfAll K (hid S H') v d := DfAll.to h k
theorem Df.bare {K : PySem.W.Frag} {S : Addr → Bool} {H : Hp} {v : V} {d : PyData} (h : Df K (hid S H) v d) : Df K H v d := Df.to h hid_same
theorem DfAll.bare {K : PySem.W.Frag} {S : Addr → Bool} {H : Hp} {v : List V} {d : List PyData} (h : DfAll K (hid S H) v d) : DfAll K H v d := DfAll.to h hid_same
/-- a new tuple of data, a new list -/
theorem Df.newT {K : PySem.W.Frag} {S : Addr → Bool} {H : Hp} {p : Addr} {o : Obj} {vs : List V} {ds : List PyData} (h : DfAll K (hid S H) vs ds) (n : H p = none) (hp : S p = false) (ho : o.dict = none) : Df K (hid S (upd H p (.frz o (.tup vs)))) (.ref p) (.tuple ds) :=
  .tup ⟨o, ho, .inl (by rw [hid_at hp]; exact upd_same)⟩ (DfAll.keep h (Keeps.new n))
theorem Df.newL {K : PySem.W.Frag} {S : Addr → Bool} {H : Hp} {p : Addr} {vs : List V} {ds : List PyData} (h : DfAll K (hid S H) vs ds) (n : H p = none) (hp : S p = false) : Df K (hid S (upd H p (.lst vs))) (.ref p) (.list ds) :=
  .lst (.inl (.inl (by rw [hid_at hp]; exact upd_same))) (DfAll.keep h (Keeps.new n))

/-! ### what an expression gives: data with P, by at most m draws -/
abbrev most : Nat := 1000000
def Ev (K : PySem.W.Frag) (S : Addr → Bool) (a : Option Addr) (σ : L2.St) (H0 : Hp) (te : TE) (m : Nat) (P : PyData → Prop) : Prop :=
  ∀ (H : Hp) (n : Nat) (Q : VK), Keeps S H0 H → Rn S a n H → n + m ≤ most → (∀ (H' : Hp) (v : V) (d : PyData), Keeps (one a) H H' → Rn S a (n + m) H' → Df K (hid S H') v d → P d → Q v H') → te σ H Q
def EvA (K : PySem.W.Frag) (S : Addr → Bool) (a : Option Addr) (σ : L2.St) (H0 : Hp) (ta : TA) (m : Nat) (P : List PyData → Prop) : Prop :=
  ∀ (H : Hp) (n : Nat) (Q : List V → Hp → Prop), Keeps S H0 H → Rn S a n H → n + m ≤ most → (∀ (H' : Hp) (vs : List V) (ds : List PyData), Keeps (one a) H H' → Rn S a (n + m) H' → DfAll K (hid S H') vs ds → P ds → Q vs H') → ta σ H Q
section
variable {K : PySem.W.Frag} {S : Addr → Bool} {a : Option Addr} {σ : L2.St} {H0 : Hp} {te ta tb : TE} {tr : TA} {m m1 m2 : Nat} {P P1 P2 : PyData → Prop} {R R1 : List PyData → Prop}
theorem Ev.mono (h : Ev K S a σ H0 te m P1) (hp : ∀ d, P1 d → P d) : Ev K S a σ H0 te m P := fun H n Q k r b q => h H n Q k r b fun H' v d k' r' hd p => q H' v d k' r' hd (hp d p)
theorem Ev.up (h : Ev K S a σ H0 te m1 P) (hm : m1 ≤ m) : Ev K S a σ H0 te m P := fun H n Q k r b q => h H n Q k r (by omega) fun H' v d k' r' hd p => q H' v d k' (r'.up (by omega)) hd p
theorem Ev.late {H1 : Hp} (h : Ev K S a σ H0 te m P) (k0 : Keeps S H0 H1) : Ev K S a σ H1 te m P := fun H n Q k r b q => h H n Q (k0.trans k) r b q
theorem ev_var {i : Nat} {v : V} {d : PyData} (e : σ[i]? = some (some v)) (h : Df K (hid S H0) v d) (p : P d) : Ev K S a σ H0 (tVar i) 0 P := fun H n Q k r b q => ⟨v, e, q H v d Keeps.rfl r (Df.keep h k) p⟩
theorem ev_int {i : Int} (p : P (.int i)) : Ev K S a σ H0 (tC (.int i)) 0 P := fun H n Q k r b q => q H _ _ Keeps.rfl r (.int i) p
theorem ev_str {x : Str} (p : P (.str x)) : Ev K S a σ H0 (tC (.str x)) 0 P := fun H n Q k r b q => q H _ _ Keeps.rfl r (.str x) p
theorem ev_bl {x : Bool} (p : P (.bool x)) : Ev K S a σ H0 (tC (.bl x)) 0 P := fun H n Q k r b q => q H _ _ Keeps.rfl r (.bl x) p
theorem ev_non (p : P .none) : Ev K S a σ H0 (tC .non) 0 P := fun H n Q k r b q => q H _ _ Keeps.rfl r .non p
theorem eva_nil (p : R []) : EvA K S a σ H0 tNil 0 R := fun H n Q k r b q => q H [] [] Keeps.rfl r .nil p
theorem eva_cons (h1 : Ev K S a σ H0 te m1 P) (h2 : EvA K S a σ H0 tr m2 R1) (p : ∀ d ds, P d → R1 ds → R (d :: ds)) : EvA K S a σ H0 (tCons te tr) (m1 + m2) R := by
  intro H n Q k r b q
  refine h1 H n _ k r (by omega) fun H1 v d k1 r1 hd p1 => ?_
  refine h2 H1 (n + m1) _ (k.trans (keeps_one r.sa k1)) r1 (by omega) fun H2 vs ds k2 r2 hds p2 => ?_
  exact q H2 _ _ (k1.trans k2) (by rw [← Nat.add_assoc]; exact r2) (.cons (Df.keep hd (keeps_one r.sa k2)) hds) (p d ds p1 p2)
theorem ev_tup (h : EvA K S a σ H0 tr m R) (few : ∀ ds, R ds → ds.length ≤ 100000) (p : ∀ ds, R ds → P (.tuple ds)) : Ev K S a σ H0 (tTupF tr) m P := by
  intro H n Q k r b q
  refine h H n _ k r b fun H1 vs ds k1 r1 hds p1 => ⟨?_, fun x o nx ho => ?_⟩
  · rw [DfAll.len hds]
    exact Nat.le_trans (few ds p1) (Nat.le_trans (by decide) line20)
  · exact q _ _ _ (k1.trans (Keeps.new nx)) (r1.same (same_new nx)) (Df.newT hds nx (r1.th.new nx) ho) (p ds p1)
theorem ev_lst (h : EvA K S a σ H0 tr m R) (few : ∀ ds, R ds → ds.length ≤ 100000) (p : ∀ ds, R ds → P (.list ds)) : Ev K S a σ H0 (tLst tr) m P := by
  intro H n Q k r b q
  refine h H n _ k r b fun H1 vs ds k1 r1 hds p1 => ⟨?_, fun x nx => ?_⟩
  · rw [DfAll.len hds]
    exact Nat.le_trans (few ds p1) (Nat.le_trans (by decide) line20)
  · exact q _ _ _ (k1.trans (Keeps.new nx)) (r1.same (same_new nx)) (Df.newL hds nx (r1.th.new nx)) (p ds p1)
/-- an operator over two data -/
theorem ev_op {r : R2} (ha : Ev K S a σ H0 ta m1 P1) (hb : Ev K S a σ H0 tb m2 P2)
    (hr : ∀ (H : Hp) (x y : V) (d e : PyData) (Q : VK), There S H → Df K (hid S H) x d → Df K (hid S H) y e → P1 d → P2 e → (∀ (H' : Hp) (v : V) (f : PyData), Same H H' → Df K (hid S H') v f → P f → Q v H') → r x y H Q) : Ev K S a σ H0 (tOp r ta tb) (m1 + m2) P := by
  intro H n Q k rn b q
  refine ha H n _ k rn (by omega) fun H1 x d k1 r1 hd p1 => ?_
  refine hb H1 (n + m1) _ (k.trans (keeps_one rn.sa k1)) r1 (by omega) fun H2 y e k2 r2 he p2 => ?_
  rw [Nat.add_assoc] at r2
  exact hr H2 x y d e Q r2.th (Df.keep hd (keeps_one rn.sa k2)) he p1 p2 fun H3 v f s3 hf p3 => q H3 v f (k1.trans (k2.trans (Keeps.same s3))) (r2.same s3) hf p3
/-- an operator over one -/
theorem ev_un {r : V → Hp → VK → Prop} (ha : Ev K S a σ H0 ta m P1)
    (hr : ∀ (H : Hp) (x : V) (d : PyData) (Q : VK), There S H → Df K (hid S H) x d → P1 d → (∀ (H' : Hp) (v : V) (f : PyData), Same H H' → Df K (hid S H') v f → P f → Q v H') → r x H Q) : Ev K S a σ H0 (tUn r ta) m P := by
  intro H n Q k rn b q
  refine ha H n _ k rn b fun H1 x d k1 r1 hd p1 => ?_
  exact hr H1 x d Q r1.th hd p1 fun H3 v f s3 hf p3 => q H3 v f (k1.trans (Keeps.same s3)) (r1.same s3) hf p3
/-- a built-in over data -/
theorem ev_cb {r : List V → Hp → VK → Prop} (ha : EvA K S a σ H0 tr m R)
    (hr : ∀ (H : Hp) (xs : List V) (ds : List PyData) (Q : VK), There S H → DfAll K (hid S H) xs ds → R ds → (∀ (H' : Hp) (v : V) (f : PyData), Same H H' → Df K (hid S H') v f → P f → Q v H') → r xs H Q) : Ev K S a σ H0 (tCB r tr) m P := by
  intro H n Q k rn b q
  refine ha H n _ k rn b fun H1 x d k1 r1 hd p1 => ?_
  exact hr H1 x d Q r1.th hd p1 fun H3 v f s3 hf p3 => q H3 v f (k1.trans (Keeps.same s3)) (r1.same s3) hf p3
/-- a + b, a - b: ints -/
theorem ev_ints {f : Int → Int → Int} {p1 p2 : Int → Prop} (ha : Ev K S a σ H0 ta m1 fun d => ∃ i, d = .int i ∧ p1 i) (hb : Ev K S a σ H0 tb m2 fun d => ∃ i, d = .int i ∧ p2 i) (h : ∀ i j, p1 i → p2 j → P (.int (f i j))) :
    Ev K S a σ H0 (tOp (rI0 fun i j => .int (f i j)) ta tb) (m1 + m2) P :=
  ev_op ha hb fun H x y d e Q t hd he p1 p2 q => by
    obtain ⟨i, rfl, pi⟩ := p1
    obtain ⟨j, rfl, pj⟩ := p2
    cases hd
    cases he
    exact ⟨i, j, rfl, rfl, q H _ _ (Same.refl H) (.int _) (h i j pi pj)⟩
theorem ev_intsC {C : Int → Int → Prop} {f : Int → Int → Int} {p1 p2 : Int → Prop} (ha : Ev K S a σ H0 ta m1 fun d => ∃ i, d = .int i ∧ p1 i) (hb : Ev K S a σ H0 tb m2 fun d => ∃ i, d = .int i ∧ p2 i) (h : ∀ i j, p1 i → p2 j → C i j ∧ P (.int (f i j))) :
    Ev K S a σ H0 (tOp (rI C fun i j => .int (f i j)) ta tb) (m1 + m2) P :=
  ev_op ha hb fun H x y d e Q t hd he p1 p2 q => by
    obtain ⟨i, rfl, pi⟩ := p1
    obtain ⟨j, rfl, pj⟩ := p2
    cases hd
    cases he
    obtain ⟨c, p⟩ := h i j pi pj
    exact ⟨i, j, rfl, rfl, c, q H _ _ (Same.refl H) (.int _) p⟩
theorem ev_neg {p1 : Int → Prop} (ha : Ev K S a σ H0 ta m fun d => ∃ i, d = .int i ∧ p1 i) (h : ∀ i, p1 i → P (.int (-i))) : Ev K S a σ H0 (tUn (rU fun i => .int (-i)) ta) m P :=
  ev_un ha fun H x d Q t hd p1 q => by
    obtain ⟨i, rfl, pi⟩ := p1
    cases hd
    exact ⟨i, rfl, q H _ _ (Same.refl H) (.int _) (h i pi)⟩
/-- xs[i] of a list -/
theorem ev_ixL (ha : Ev K S a σ H0 ta m1 P1) (hb : Ev K S a σ H0 tb m2 P2) (h : ∀ d e, P1 d → P2 e → ∃ ds i f, d = .list ds ∧ e = .int i ∧ atI ds i = some f ∧ P f) : Ev K S a σ H0 (tOp (rIxL K) ta tb) (m1 + m2) P :=
  ev_op ha hb fun H x y d e Q t hd he p1 p2 q => by
    obtain ⟨ds, i, f, rfl, rfl, hf, pf⟩ := h d e p1 p2
    obtain ⟨p, vs, rfl, hL, hds⟩ := Df.lst_inv hd
    cases he
    obtain ⟨j, hj, hjf⟩ := Option.bind_eq_some_iff.mp hf
    obtain ⟨v, hv, dv⟩ := DfAll.getD hds hjf
    have hat : atI vs i = some v := by
      unfold atI
      rw [DfAll.len hds, hj]
      exact hv
    exact ⟨p, vs, i, v, rfl, rfl, Same.seq hid_same hL, hat, q H v f (Same.refl H) dv pf⟩
theorem ev_ixT (ha : Ev K S a σ H0 ta m1 P1) (hb : Ev K S a σ H0 tb m2 P2) (h : ∀ d e, P1 d → P2 e → ∃ ds i f, d = .tuple ds ∧ e = .int i ∧ atI ds i = some f ∧ P f) : Ev K S a σ H0 (tOp (rIxT K) ta tb) (m1 + m2) P :=
  ev_op ha hb fun H x y d e Q t hd he p1 p2 q => by
    obtain ⟨ds, i, f, rfl, rfl, hf, pf⟩ := h d e p1 p2
    obtain ⟨p, vs, rfl, hL, hds⟩ := Df.tup_inv hd
    cases he
    obtain ⟨j, hj, hjf⟩ := Option.bind_eq_some_iff.mp hf
    obtain ⟨v, hv, dv⟩ := DfAll.getD hds hjf
    have hat : atI vs i = some v := by
      unfold atI
      rw [DfAll.len hds, hj]
      exact hv
    exact ⟨p, vs, i, v, rfl, rfl, seqT_mono hid_same hL, hat, q H v f (Same.refl H) dv pf⟩
/-- xs + ys of lists -/
theorem ev_catL (ha : Ev K S a σ H0 ta m1 P1) (hb : Ev K S a σ H0 tb m2 P2) (h : ∀ d e, P1 d → P2 e → ∃ ds es, d = .list ds ∧ e = .list es ∧ ds.length + es.length ≤ 100000 ∧ P (.list (ds ++ es))) :
    Ev K S a σ H0 (tOp (rCatQ K) ta tb) (m1 + m2) P :=
  ev_op ha hb fun H x y d e Q t hd he p1 p2 q => by
    obtain ⟨ds, es, rfl, rfl, few, pf⟩ := h d e p1 p2
    obtain ⟨p, vs, rfl, hL, hds⟩ := Df.lst_inv hd
    obtain ⟨p', vs', rfl, hL', hes⟩ := Df.lst_inv he
    have l1 := DfAll.len hds
    have l2 := DfAll.len hes
    refine ⟨p, p', vs, vs', rfl, rfl, Same.seq hid_same hL, Same.seq hid_same hL', ?_, fun x nx => ?_⟩
    · exact Nat.le_trans (by omega) line20
    · exact q _ _ _ (same_new nx) (Df.newL (DfAll.app hds hes) nx (t.new nx)) pf
/-- s + t of tuples -/
theorem ev_catT (ha : Ev K S a σ H0 ta m1 P1) (hb : Ev K S a σ H0 tb m2 P2) (h : ∀ d e, P1 d → P2 e → ∃ ds es, d = .tuple ds ∧ e = .tuple es ∧ ds.length + es.length ≤ 100000 ∧ P (.tuple (ds ++ es))) :
    Ev K S a σ H0 (tOp (rCatF K) ta tb) (m1 + m2) P :=
  ev_op ha hb fun H x y d e Q t hd he p1 p2 q => by
    obtain ⟨ds, es, rfl, rfl, few, pf⟩ := h d e p1 p2
    obtain ⟨p, vs, rfl, hL, hds⟩ := Df.tup_inv hd
    obtain ⟨p', vs', rfl, hL', hes⟩ := Df.tup_inv he
    have l1 := DfAll.len hds
    have l2 := DfAll.len hes
    refine ⟨p, p', vs, vs', rfl, rfl, seqT_mono hid_same hL, seqT_mono hid_same hL', Nat.le_trans (by omega) line20, fun z => ?_, fun z1 z2 => ?_, fun z1 z2 x o nx ho => ?_⟩
    · subst z
      have : ds = [] := List.length_eq_zero_iff.mp l1.symm
      subst this
      exact q H _ _ (Same.refl H) he pf
    · subst z2
      have : es = [] := List.length_eq_zero_iff.mp l2.symm
      subst this
      rw [List.append_nil] at pf
      exact q H _ _ (Same.refl H) hd pf
    · exact q _ _ _ (same_new nx) (Df.newT (DfAll.app hds hes) nx (t.new nx) ho) pf
end
end DD
namespace DD
open PySem PySem.Spec PyProof.Rows L2
/-- an expression that gives an int with p, the heap as it was -/
theorem by_int {te : TE} {σ : L2.St} {H : Hp} {G : VK} {p : Int → Prop} (h1 : ∀ G : VK, (∀ c : Int, p c → G (.int c) H) → te σ H G) (h2 : ∀ c : Int, p c → G (.int c) H) : te σ H G := h1 G h2
end DD
namespace DD
open PySem PySem.Spec PyProof.Rows L2
section
variable {K : PySem.W.Frag} {S : Addr → Bool} {a : Option Addr} {σ : L2.St} {H0 : Hp} {te ta tb : TE} {tr : TA} {m m1 m2 : Nat} {P P1 P2 : PyData → Prop} {R R1 : List PyData → Prop}
/-- a def that draws m times at most: the source first, then data -/
def spRng (K : PySem.W.Frag) (m : Nat) (pre : List PyData → Prop) (post : List PyData → PyData → Prop) : Sp := fun vs H Q _ => ∃ (a : Addr) (S : Addr → Bool) (ws : List V) (ds : List PyData) (n : Nat),
  vs = .ref a :: ws ∧ Rn S a n H ∧ n + m ≤ most ∧ DfAll K (hid S H) ws ds ∧ pre ds ∧ ∀ H' v d, Keeps (one a) H H' → Rn S a (n + m) H' → Df K (hid S H') v d → post ds d → Q v H'
theorem spRng_len {pre : List PyData → Prop} {post : List PyData → PyData → Prop} {j : Nat} (h : ∀ ds, pre ds → ds.length = j) : ∀ vs H Q E, spRng K m pre post vs H Q E → vs.length = j + 1 := fun vs H Q E z => by
  obtain ⟨a, S, ws, ds, n, rfl, _, _, hd, hp, _⟩ := z
  rw [List.length_cons, DfAll.len hd, h ds hp]
theorem ev_rng {a : Addr} {pre : List PyData → Prop} {post : List PyData → PyData → Prop} {E : XK} {i : Nat} (hs : σ[i]? = some (some (.ref a))) (ht : EvA K S a σ H0 tr m1 R) (h1 : ∀ ds, R ds → pre ds) (h2 : ∀ ds d, R ds → post ds d → P d) :
    Ev K S a σ H0 (tCall (spRng K m pre post) [] E (tCons (tVar i) tr)) (m1 + m) P := by
  intro H n Q k r b q
  refine ⟨.ref a, hs, ht H n _ k r (by omega) fun H1 ws ds k1 r1 hd p1 => ?_⟩
  exact ⟨a, S, ws ++ [], ds, n + m1, rfl, r1, by omega, by rw [List.append_nil]; exact hd, h1 ds p1, fun H2 v d k2 r2 hd2 p2 => q H2 v d (k1.trans k2) (by rw [← Nat.add_assoc]; exact r2) hd2 (h2 ds d p1 p2)⟩
/-- exactly these data -/
theorem eva_c (h1 : Ev K S a σ H0 te 0 (· = d)) {ds : List PyData} (h2 : EvA K S a σ H0 tr 0 (· = ds)) : EvA K S a σ H0 (tCons te tr) 0 (· = d :: ds) := eva_cons h1 h2 fun _ _ e1 e2 => by rw [e1, e2]
theorem eva_n : EvA K S a σ H0 tNil 0 (· = []) := eva_nil rfl
theorem ev_t {ds : List PyData} (h : EvA K S a σ H0 tr m (· = ds)) (few : ds.length ≤ 100000) : Ev K S a σ H0 (tTupF tr) m (· = .tuple ds) := ev_tup h (fun _ e => e ▸ few) fun _ e => e ▸ rfl
theorem ev_l {ds : List PyData} (h : EvA K S a σ H0 tr m (· = ds)) (few : ds.length ≤ 100000) : Ev K S a σ H0 (tLst tr) m (· = .list ds) := ev_lst h (fun _ e => e ▸ few) fun _ e => e ▸ rfl
/-- len of a list, of a tuple -/
def rLenQ (K : PySem.W.Frag) : List V → Hp → VK → Prop := fun xs H Q => ∃ p ys, xs = [.ref p] ∧ (SqL K H p ys ∨ SqT K H p ys) ∧ Q (.int ys.length) H
theorem ev_len (h : EvA K S a σ H0 tr m R) (p : ∀ ds, R ds → ∃ es, (ds = [.list es] ∨ ds = [.tuple es]) ∧ P (.int es.length)) : Ev K S a σ H0 (tCB (rLenQ K) tr) m P :=
  ev_cb h fun H xs ds Q t hd pd q => by
    obtain ⟨es, hes, pe⟩ := p ds pd
    rcases hes with rfl | rfl
    · obtain ⟨x, _, rfl, h1, h2⟩ := DfAll.c hd
      obtain rfl := DfAll.n h2
      obtain ⟨b, vs, rfl, hL, hv⟩ := Df.lst_inv h1
      exact ⟨b, vs, rfl, .inl (Same.seq hid_same hL), q H _ _ (Same.refl H) (.int _) (by rw [DfAll.len hv]; exact pe)⟩
    · obtain ⟨x, _, rfl, h1, h2⟩ := DfAll.c hd
      obtain rfl := DfAll.n h2
      obtain ⟨b, vs, rfl, hL, hv⟩ := Df.tup_inv h1
      exact ⟨b, vs, rfl, .inr (seqT_mono hid_same hL), q H _ _ (Same.refl H) (.int _) (by rw [DfAll.len hv]; exact pe)⟩
end
end DD
namespace DD
open PySem PySem.Spec PyProof.Rows L2
theorem ev_intE {K : PySem.W.Frag} {S : Addr → Bool} {a : Option Addr} {σ : L2.St} {H0 : Hp} {i : Int} {p : Int → Prop} (h : p i) : Ev K S a σ H0 (tC (.int i)) 0 (fun d => ∃ j, d = .int j ∧ p j) := ev_int ⟨i, rfl, h⟩
theorem ev_negC {K : PySem.W.Frag} {S : Addr → Bool} {a : Option Addr} {σ : L2.St} {H0 : Hp} {i : Int} : Ev K S a σ H0 (tUn (rU fun i => .int (-i)) (tC (.int i))) 0 (· = .int (-i)) := ev_neg (p1 := (· = i)) (ev_intE rfl) fun j e => by rw [e]
theorem ev_powC {K : PySem.W.Frag} {S : Addr → Bool} {a : Option Addr} {σ : L2.St} {H0 : Hp} {i j : Int} (h : CPow i j) : Ev K S a σ H0 (tOp (rI CPow fun i j => .int (i ^ j.toNat)) (tC (.int i)) (tC (.int j))) 0 (· = .int (i ^ j.toNat)) :=
  ev_intsC (m1 := 0) (m2 := 0) (p1 := (· = i)) (p2 := (· = j)) (ev_intE rfl) (ev_intE rfl) fun x y e1 e2 => by
    subst e1 e2
    exact ⟨h, rfl⟩
end DD
namespace DD
open PySem PySem.Spec PyProof.Rows L2
theorem ev_go {K : PySem.W.Frag} {S : Addr → Bool} {a : Option Addr} {σ : L2.St} {H : Hp} {te : TE} {m n : Nat} {P : PyData → Prop} {Q : VK} (r : Rn S a n H) (b : n + m ≤ most) (h : Ev K S a σ H te m P)
    (q : ∀ H' v d, Keeps (one a) H H' → Rn S a (n + m) H' → Df K (hid S H') v d → P d → Q v H') : te σ H Q := h H n Q Keeps.rfl r b q
end DD
namespace DD
open PySem PySem.Spec PyProof.Rows L2
section
variable {K : PySem.W.Frag} {S : Addr → Bool} {a : Option Addr} {σ : L2.St} {H : Hp} {te : TE} {m n i : Nat} {u : TS} {D : Ends}
/-- x = e, then the rest -/
theorem ev_set (P : PyData → Prop) (m : Nat) (r : Rn S a n H) (b : n + m ≤ most) (h : Ev K S a σ H te m P) (q : ∀ H' v d, Keeps (one a) H H' → Rn S a (n + m) H' → Df K (hid S H') v d → P d → u D (σ.set i (some v)) H') :
    tSeq (tAsg te (gName i)) u D σ H := h H n _ Keeps.rfl r b q
/-- return e -/
theorem ev_ret (P : PyData → Prop) (m : Nat) (r : Rn S a n H) (b : n + m ≤ most) (h : Ev K S a σ H te m P) (q : ∀ H' v d, Keeps (one a) H H' → Rn S a (n + m) H' → Df K (hid S H') v d → P d → D.rt v H') : tRet te D σ H := h H n _ Keeps.rfl r b q
end
theorem most0 {n m : Nat} (h : n + m ≤ most) : n + 0 ≤ most := Nat.le_trans (Nat.le_add_right n m) h
end DD
namespace DD
open PySem PySem.Spec PyProof.Rows L2
/-- a test of one datum -/
def spB (K : PySem.W.Frag) (r : PyData → Bool) : Sp := fun vs H Q _ => ∃ v d, vs = [v] ∧ Df K H v d ∧ Good 900000 50 d ∧ ∀ H', Same H H' → Q (.bl (r d)) H'
theorem spB_len {K : PySem.W.Frag} {r : PyData → Bool} : ∀ vs H Q E, spB K r vs H Q E → vs.length = 1 := fun vs H Q E h => by
  obtain ⟨v, d, rfl, _⟩ := h
  rfl
end DD

namespace DD
open PySem PySem.Spec PyProof.Rows L2
/-! ### slices, texts, lists of alternatives -/
def EvO (K : PySem.W.Frag) (S : Addr → Bool) (a : Option Addr) (σ : L2.St) (H0 : Hp) (t : TO) (m : Nat) (p : Option Int → Prop) : Prop :=
  ∀ (H : Hp) (n : Nat) (Q : Option Int → Hp → Prop), Keeps S H0 H → Rn S a n H → n + m ≤ most → (∀ (H' : Hp) (o : Option Int), Keeps (one a) H H' → Rn S a (n + m) H' → p o → Q o H') → t σ H Q
def cutD (ds : List PyData) (lo hi : Option Int) : List PyData := (ds.drop (HT.sIx ds.length 0 lo)).take (HT.sIx ds.length ds.length hi - HT.sIx ds.length 0 lo)
theorem cutD_to (ds : List PyData) (k : Nat) : cutD ds none (some (k : Int)) = ds.take k := by
  unfold cutD
  rw [HT.sIx_none, HT.sIx_nat, List.drop_zero, Nat.sub_zero]
  by_cases h : k ≤ ds.length
  · rw [Nat.min_eq_left h]
  · rw [Nat.min_eq_right (by omega), List.take_of_length_le (Nat.le_refl _), List.take_of_length_le (by omega)]
theorem cutD_from (ds : List PyData) (k : Nat) : cutD ds (some (k : Int)) none = ds.drop k := by
  unfold cutD
  rw [HT.sIx_none, HT.sIx_nat]
  by_cases h : k ≤ ds.length
  · rw [Nat.min_eq_left h, List.take_of_length_le (by rw [List.length_drop]; exact Nat.le_refl _)]
  · rw [Nat.min_eq_right (by omega), List.drop_of_length_le (Nat.le_refl _), List.drop_of_length_le (by omega), List.take_nil]
section
variable {K : PySem.W.Frag} {S : Addr → Bool} {a : Option Addr} {σ : L2.St} {H0 : Hp} {te ta tb : TE} {tr : TA} {tl th : TO} {m m1 m2 m3 : Nat} {P P1 P2 : PyData → Prop} {R R1 : List PyData → Prop} {p1 p2 : Option Int → Prop}
theorem evo_none : EvO K S a σ H0 tNoPart 0 (· = none) := fun H n Q k r b q => q H none Keeps.rfl r rfl
theorem evo_some {p : Int → Prop} (h : Ev K S a σ H0 te m fun d => ∃ i, d = .int i ∧ p i) : EvO K S a σ H0 (tPart te) m (fun o => ∃ i, o = some i ∧ p i) := by
  intro H n Q k r b q
  refine h H n _ k r b fun H1 v d k1 r1 hd ⟨i, e, pi⟩ => ?_
  subst e
  cases hd
  exact ⟨i, rfl, q H1 _ k1 r1 ⟨i, rfl, pi⟩⟩
theorem ev_cut (h : Ev K S a σ H0 te m1 P1) (hl : EvO K S a σ H0 tl m2 p1) (hh : EvO K S a σ H0 th m3 p2) (p : ∀ d lo hi, P1 d → p1 lo → p2 hi → ∃ ds, d = .tuple ds ∧ P (.tuple (cutD ds lo hi))) :
    Ev K S a σ H0 (tSl (rSlF K) te tl th) (m1 + m2 + m3) P := by
  intro H n Q k r b q
  refine h H n _ k r (by omega) fun H1 x d k1 r1 hd q1 => ?_
  refine hl H1 (n + m1) _ (k.trans (keeps_one r.sa k1)) r1 (by omega) fun H2 lo k2 r2 q2 => ?_
  refine hh H2 (n + m1 + m2) _ ((k.trans (keeps_one r.sa k1)).trans (keeps_one r.sa k2)) r2 (by omega) fun H3 hi k3 r3 q3 => ?_
  obtain ⟨ds, rfl, pd⟩ := p d lo hi q1 q2 q3
  have hd3 := Df.keep hd ((keeps_one r.sa k2).trans (keeps_one r.sa k3))
  obtain ⟨y, vs, rfl, hT, hv⟩ := Df.tup_inv hd3
  have el := DfAll.len hv
  have r4 : Rn S a (n + (m1 + m2 + m3)) H3 := by
    rw [show n + (m1 + m2 + m3) = n + m1 + m2 + m3 by omega]
    exact r3
  have k4 := k1.trans (k2.trans k3)
  refine ⟨y, vs, rfl, seqT_mono hid_same hT, fun w => ?_, fun w z o nz ho => ?_⟩
  · rw [el] at w
    have e : cutD ds lo hi = ds := by
      unfold cutD
      rw [w.1, w.2, List.drop_zero, Nat.sub_zero, List.take_of_length_le (Nat.le_refl _)]
    rw [e] at pd
    exact q H3 _ _ k4 r4 hd3 pd
  · have e : DfAll K (hid S H3) (cutV vs lo hi) (cutD ds lo hi) := by
      unfold cutV cutD
      rw [el]
      exact DfAll.take _ (DfAll.drop _ hv)
    exact q _ _ _ (k4.trans (Keeps.new nz)) (r4.same (same_new nz)) (Df.newT e nz (r4.th.new nz) ho) pd
theorem ev_rev (h : Ev K S a σ H0 te m P1) (p : ∀ d, P1 d → ∃ ds, d = .tuple ds ∧ P (.tuple ds.reverse)) : Ev K S a σ H0 (tRevT K te) m P := by
  intro H n Q k r b q
  refine h H n _ k r b fun H1 x d k1 r1 hd q1 => ?_
  obtain ⟨ds, rfl, pd⟩ := p d q1
  obtain ⟨y, vs, rfl, hT, hv⟩ := Df.tup_inv hd
  exact ⟨y, vs, rfl, seqT_mono hid_same hT, fun z o nz ho => q _ _ _ (k1.trans (Keeps.new nz)) (r1.same (same_new nz)) (Df.newT (DfAll.rev hv) nz (r1.th.new nz) ho) pd⟩
/-- list(t) -/
def rListQ (K : PySem.W.Frag) : List V → Hp → VK → Prop := fun xs H Q => ∃ p ys, xs = [.ref p] ∧ (SqL K H p ys ∨ SqT K H p ys) ∧ ∀ l, H l = none → Q (.ref l) (upd H l (.lst ys))
theorem ev_list (h : EvA K S a σ H0 tr m R) (p : ∀ ds, R ds → ∃ es, ds = [.tuple es] ∧ P (.list es)) : Ev K S a σ H0 (tCB (rListQ K) tr) m P :=
  ev_cb h fun H xs ds Q t hd pd q => by
    obtain ⟨es, rfl, pe⟩ := p ds pd
    obtain ⟨x, _, rfl, h1, h2⟩ := DfAll.c hd
    obtain rfl := DfAll.n h2
    obtain ⟨b, vs, rfl, hL, hv⟩ := Df.tup_inv h1
    exact ⟨b, vs, rfl, .inr (seqT_mono hid_same hL), fun l nl => q _ _ _ (same_new nl) (Df.newL hv nl (t.new nl)) pe⟩
theorem ev_strI (h : EvA K S a σ H0 tr m R) (p : ∀ ds, R ds → ∃ i : Int, ds = [.int i] ∧ i.natAbs < 10 ^ 80 ∧ P (.str (toString i))) : Ev K S a σ H0 (tCB (fun xs H Q => ∃ i : Int, xs = [.int i] ∧ i.natAbs.log2 < 1920 ∧ Q (.str (toString i)) H) tr) m P :=
  ev_cb h fun H xs ds Q t hd pd q => by
    obtain ⟨i, rfl, hi, pe⟩ := p ds pd
    obtain ⟨x, _, rfl, h1, h2⟩ := DfAll.c hd
    obtain rfl := DfAll.n h2
    cases h1
    have := PySem.Flt.log2_lt_of (n := i.natAbs) (k := 300) (by decide) (Nat.lt_trans hi e80)
    exact ⟨i, rfl, by omega, q H _ _ (Same.refl H) (.str _) pe⟩
theorem ev_eqI (ha : Ev K S a σ H0 ta m1 fun d => ∃ i, d = .int i) (hb : Ev K S a σ H0 tb m2 fun d => ∃ i, d = .int i) (p : ∀ b, P (.bool b)) : Ev K S a σ H0 (tOp rEq ta tb) (m1 + m2) P :=
  ev_op ha hb fun H x y d e Q t hd he q1 q2 q => by
    obtain ⟨i, rfl⟩ := q1
    obtain ⟨j, rfl⟩ := q2
    cases hd
    cases he
    exact ⟨rfl, q H _ _ (Same.refl H) (.bl _) (p _)⟩
theorem ev_catS (ha : Ev K S a σ H0 ta m1 P1) (hb : Ev K S a σ H0 tb m2 P2) (h : ∀ d e, P1 d → P2 e → ∃ x y, d = .str x ∧ e = .str y ∧ x.length + y.length ≤ 1000000 ∧ P (.str (x ++ y))) :
    Ev K S a σ H0 (tOp (fun x y H Q => ∃ i j, x = .str i ∧ y = .str j ∧ i.length + j.length ≤ sizeLine ∧ Q (.str (i ++ j)) H) ta tb) (m1 + m2) P :=
  ev_op ha hb fun H x y d e Q t hd he q1 q2 q => by
    obtain ⟨i, j, rfl, rfl, few, pe⟩ := h d e q1 q2
    cases hd
    cases he
    exact ⟨i, j, rfl, rfl, Nat.le_trans few line20, q H _ _ (Same.refl H) (.str _) pe⟩
theorem ev_upper (h : Ev K S a σ H0 te m P1) (p : ∀ d, P1 d → ∃ x, d = .str x ∧ x.length ≤ 1000000 ∧ P (.str (Txt.upper x))) :
    Ev K S a σ H0 (tM0 (fun x xs H Q => ∃ a, x = .str a ∧ xs = [] ∧ a.length ≤ 5592405 ∧ Q (.str (Txt.upper a)) H) te) m P := by
  intro H n Q k r b q
  refine h H n _ k r b fun H1 x d k1 r1 hd q1 => ?_
  obtain ⟨x, rfl, few, pe⟩ := p d q1
  cases hd
  exact ⟨⟨x, rfl⟩, x, rfl, rfl, by omega, q H1 _ _ k1 r1 (.str _) pe⟩
theorem ev_cutS (h : Ev K S a σ H0 te m1 P1) (hl : EvO K S a σ H0 tl m2 p1) (hh : EvO K S a σ H0 th m3 p2) (p : ∀ d lo hi, P1 d → p1 lo → p2 hi → ∃ x, d = .str x ∧ x.length ≤ 1000000 ∧ P (.str (cutS x lo hi))) :
    Ev K S a σ H0 (tSl rSlS te tl th) (m1 + m2 + m3) P := by
  intro H n Q k r b q
  refine h H n _ k r (by omega) fun H1 x d k1 r1 hd q1 => ?_
  refine hl H1 (n + m1) _ (k.trans (keeps_one r.sa k1)) r1 (by omega) fun H2 lo k2 r2 q2 => ?_
  refine hh H2 (n + m1 + m2) _ ((k.trans (keeps_one r.sa k1)).trans (keeps_one r.sa k2)) r2 (by omega) fun H3 hi k3 r3 q3 => ?_
  obtain ⟨z, rfl, few, pd⟩ := p d lo hi q1 q2 q3
  cases hd
  have r4 : Rn S a (n + (m1 + m2 + m3)) H3 := by
    rw [show n + (m1 + m2 + m3) = n + m1 + m2 + m3 by omega]
    exact r3
  exact ⟨z, rfl, Nat.le_trans few line20, q H3 _ _ (k1.trans (k2.trans k3)) r4 (.str _) pd⟩
/-- a display of alternatives -/
theorem eva_all0 : EvA K S a σ H0 tNil 0 (fun ds => ds.length = 0 ∧ ∀ e ∈ ds, P e) := eva_nil ⟨rfl, fun e h => absurd h List.not_mem_nil⟩
theorem eva_all {k : Nat} (h1 : Ev K S a σ H0 te m1 P) (h2 : EvA K S a σ H0 tr m2 (fun ds => ds.length = k ∧ ∀ e ∈ ds, P e)) : EvA K S a σ H0 (tCons te tr) (m1 + m2) (fun ds => ds.length = k + 1 ∧ ∀ e ∈ ds, P e) :=
  eva_cons h1 h2 fun d ds p r => ⟨by rw [List.length_cons, r.1], fun e he => (List.mem_cons.mp he).elim (fun z => z ▸ p) (r.2 e)⟩
theorem ev_pick {k : Nat} (ha : Ev K S a σ H0 ta m1 fun d => ∃ ds, d = .list ds ∧ ds.length = k ∧ ∀ e ∈ ds, P e) (hb : Ev K S a σ H0 tb m2 fun e => ∃ i : Int, e = .int i ∧ 0 ≤ i ∧ i < k) : Ev K S a σ H0 (tOp (rIxL K) ta tb) (m1 + m2) P :=
  ev_ixL ha hb fun d e ⟨ds, h1, h2, h3⟩ ⟨i, h4, h5, h6⟩ => by
    have hk : i.toNat < ds.length := by omega
    refine ⟨ds, i, ds[i.toNat], h1, h4, ?_, h3 _ (List.getElem_mem hk)⟩
    have := atI_nat (List.getElem?_eq_getElem hk)
    rwa [Int.toNat_of_nonneg h5] at this
/-- x, y = e, f -/
theorem ev_par {u : TS} {D : Ends} {n i j : Nat} {H : Hp} (P : PyData → Prop) (P' : PyData → Prop) (m : Nat) (r : Rn S a n H) (b : n + m ≤ most) (h : EvA K S a σ H tr m fun ds => ∃ d e, ds = [d, e] ∧ P d ∧ P' e)
    (q : ∀ H' v w d e, Keeps (one a) H H' → Rn S a (n + m) H' → Df K (hid S H') v d → Df K (hid S H') w e → P d → P' e → u D ((σ.set i (some v)).set j (some w)) H') : tSeq (tPar i j tr) u D σ H := by
  refine h H n _ Keeps.rfl r b fun H1 vs ds k1 r1 hd ⟨d, e, q1, q2, q3⟩ => ?_
  subst q1
  obtain ⟨x, y, rfl, hx, hy⟩ := DfAll.two hd
  exact ⟨x, y, rfl, q H1 x y d e k1 r1 hx hy q2 q3⟩
end
/-! ### the sizes of what is bent -/
theorem wtAll_take (k : Nat) (ds : List PyData) : wtAll (ds.take k) + wtAll (ds.drop k) = wtAll ds := by rw [← wtAll_append, List.take_append_drop]
theorem wtAll_rev : ∀ ds : List PyData, wtAll ds.reverse = wtAll ds
  | [] => rfl
  | d :: ds => by
    rw [List.reverse_cons, wtAll_append, wtAll_rev ds]
    show wtAll ds + (wt d + 4 + 0) = wt d + 4 + wtAll ds
    omega
theorem wtAll_one (d : PyData) : wtAll [d] = wt d + 4 := rfl
structure BentTo (B : Nat) (d d' : PyData) : Prop where
  fin : fineB (B + 60) d' = true
  sz : wt d' ≤ 2 * wt d + 3000
  dp : d'.depth ≤ d.depth + 4
theorem bent_seq {B : Nat} {ds es : List PyData} (hf : fineAllB B ds = true) (hm : ∀ e ∈ es, e ∈ ds ∨ (fineB (B + 60) e = true ∧ e.depth ≤ PyData.depthAll ds + 4)) (hw : wtAll es ≤ 2 * wtAll ds + 3000) :
    BentTo B (.tuple ds) (.tuple es) ∧ BentTo B (.tuple ds) (.list es) := by
  have f : ∀ e ∈ es, fineB (B + 60) e = true := fun e he => (hm e he).elim (fun z => fineB_mono (by omega) e (fineAllB_iff.mp hf e z)) fun z => z.1
  have g : PyData.depthAll es ≤ PyData.depthAll ds + 4 := depthAll_le fun e he => (hm e he).elim (fun z => Nat.le_trans (depth_mem z) (by omega)) fun z => z.2
  have h1 : wt (.tuple es) = wtAll es + 4 := rfl
  have h2 : wt (.list es) = wtAll es + 4 := rfl
  have h3 : wt (.tuple ds) = wtAll ds + 4 := rfl
  have h4 : (PyData.tuple es).depth = PyData.depthAll es + 1 := rfl
  have h5 : (PyData.list es).depth = PyData.depthAll es + 1 := rfl
  have h6 : (PyData.tuple ds).depth = PyData.depthAll ds + 1 := rfl
  exact ⟨⟨fineAllB_iff.mpr f, by omega, by omega⟩, ⟨fineAllB_iff.mpr f, by omega, by omega⟩⟩
theorem tidy_iff {x : Str} : tidy x = true ↔ ∀ c ∈ x.cps.toList, c < 128 := by
  unfold tidy
  rw [← Array.all_toList, List.all_eq_true]
  exact ⟨fun h c hc => of_decide_eq_true (h c hc), fun h c hc => decide_eq_true (h c hc)⟩
theorem tidy_app {x y : Str} (hx : tidy x = true) (hy : tidy y = true) : tidy (x ++ y) = true := by
  rw [tidy_iff] at hx hy ⊢
  intro c hc
  have e : (x ++ y).cps.toList = x.cps.toList ++ y.cps.toList := by
    show (x.cps ++ y.cps).toList = _
    exact Array.toList_append
  rw [e] at hc
  exact (List.mem_append.mp hc).elim (hx c) (hy c)
theorem tidy_int (i : Int) : tidy (Str.ofString (toString i)) = true := by
  rw [tidy_iff]
  intro c hc
  rw [signs_ofString] at hc
  obtain ⟨ch, hc, e⟩ := List.mem_map.mp hc
  rcases int_sign i ch hc with h | h
  · have := digit_range h
    omega
  · rw [h] at e
    have : ('-' : Char).toNat = 45 := by decide
    omega
theorem tidy_cut {x : Str} (lo hi : Option Int) (h : tidy x = true) : tidy (cutS x lo hi) = true := by
  rw [tidy_iff] at h ⊢
  intro c hc
  exact h c (List.mem_of_mem_drop (List.mem_of_mem_take (by simpa [cutS] using hc)))
theorem upper_tab : ∀ c, c < 128 → ∃ e, Unicode.upperOf c = [e] ∧ e < 128 := by
  have h : ∀ c, c < 128 → (Unicode.upperOf c).length = 1 ∧ (Unicode.upperOf c).headD 0 < 128 := by decide +kernel
  intro c hc
  obtain ⟨h1, h2⟩ := h c hc
  match e : Unicode.upperOf c, h1 with
  | [x], _ => exact ⟨x, rfl, by rw [e] at h2; exact h2⟩
theorem upper_list : ∀ l : List (Array Nat), (∀ a ∈ l, ∃ e, a = #[e] ∧ e < 128) → ((l.map Array.toList).flatten.length = l.length ∧ ∀ c ∈ (l.map Array.toList).flatten, c < 128)
  | [], _ => ⟨rfl, fun c h => absurd h List.not_mem_nil⟩
  | x :: l, h => by
    obtain ⟨e, rfl, he⟩ := h x (List.mem_cons_self ..)
    obtain ⟨h1, h2⟩ := upper_list l fun a ha => h a (List.mem_cons_of_mem _ ha)
    rw [List.map_cons, List.flatten_cons]
    refine ⟨?_, fun c hc => ?_⟩
    · show (e :: (l.map Array.toList).flatten).length = _
      rw [List.length_cons, h1, List.length_cons]
    · rcases List.mem_cons.mp (show c ∈ e :: (l.map Array.toList).flatten from hc) with rfl | hc
      · exact he
      · exact h2 c hc
theorem tidy_upper {x : Str} (h : tidy x = true) : tidy (Txt.upper x) = true ∧ (Txt.upper x).length = x.length := by
  rw [tidy_iff] at h
  have key := upper_list ((x.cps.mapIdx fun _ c => (Unicode.upperOf c).toArray).toList) (fun z hz => by
    obtain ⟨i, hi, rfl⟩ := Array.mem_iff_getElem.mp (Array.mem_toList_iff.mp hz)
    rw [Array.getElem_mapIdx]
    have hlt : i < x.cps.size := by simpa using hi
    obtain ⟨e, h1, h2⟩ := upper_tab x.cps[i] (h _ (by rw [Array.mem_toList_iff]; exact Array.getElem_mem hlt))
    exact ⟨e, by rw [h1], h2⟩)
  have e : (Txt.upper x).cps.toList = (((x.cps.mapIdx fun _ c => (Unicode.upperOf c).toArray).toList).map Array.toList).flatten := by
    show (Array.flatten _).toList = _
    exact Array.toList_flatten
  refine ⟨tidy_iff.mpr fun c hc => key.2 c (by rw [← e]; exact hc), ?_⟩
  have e2 : (Txt.upper x).length = (Txt.upper x).cps.toList.length := by rw [Array.length_toList]; rfl
  rw [e2, e, key.1, Array.length_toList, Array.size_mapIdx]
  rfl
end DD

namespace DD
open PySem PySem.Spec PyProof.Rows L2
/-! ### comprehensions by Ev -/
def plusA (S : Addr → Bool) (D : Addr) : Addr → Bool := fun b => S b || decide (b = D)
theorem plusA_self (S : Addr → Bool) (D : Addr) : plusA S D D = true := by unfold plusA; rw [decide_eq_true rfl, Bool.or_true]
theorem plusA_of {S : Addr → Bool} {D b : Addr} (h : S b = true) : plusA S D b = true := by unfold plusA; rw [h, Bool.true_or]
theorem plusA_no {S : Addr → Bool} {D b : Addr} (h : S b = false) (hn : b ≠ D) : plusA S D b = false := by unfold plusA; rw [h, decide_eq_false hn]; rfl
theorem plusA_back {S : Addr → Bool} {D b : Addr} (h : plusA S D b = false) : S b = false ∧ b ≠ D := by
  unfold plusA at h
  rw [Bool.or_eq_false_iff] at h
  exact ⟨h.1, of_decide_eq_false h.2⟩
theorem hid_some {S : Addr → Bool} {H : Hp} {b : Addr} {o : HO} (e : hid S H b = some o) : S b = false ∧ H b = some o := by
  cases q : S b with
  | false => exact ⟨rfl, by rw [hid_at q] at e; exact e⟩
  | true =>
    unfold hid at e
    rw [if_pos q] at e
    cases e
theorem hid_plus {S : Addr → Bool} {D : Addr} {H : Hp} : Same (hid (plusA S D) H) (hid S H) := fun b o e => by
  obtain ⟨h1, h2⟩ := hid_some e
  rw [hid_at (plusA_back h1).1]
  exact h2
/-- data ahead of the list D are data behind it too -/
theorem hid_new {S : Addr → Bool} {D : Addr} {H : Hp} {o : HO} (hD : H D = none) : Same (hid S H) (hid (plusA S D) (upd H D o)) := fun b u e => by
  obtain ⟨hS, e⟩ := hid_some e
  have hb : b ≠ D := ne_of_none e hD
  rw [hid_at (plusA_no hS hb), upd_ne hb]
  exact e
section
variable {K : PySem.W.Frag} {S : Addr → Bool} {a : Option Addr} {σ : L2.St} {H0 : Hp} {te ta tb tn : TE} {tr : TA} {m m1 m2 : Nat} {P1 P2 : PyData → Prop} {R R1 : List PyData → Prop}
theorem lc_ev {J : It} {N : Nat} {G : Hp → Prop} {X : Nat → V → Prop} (w : Walk J N G (fun i H x H' => H' = H ∧ X i x)) {g : TG} {vs : List Nat} {slot : Nat} {H1 : Hp} {n : Nat} {P : Nat → PyData → Prop} {Q : VK}
    (hg : g = gName slot) (hw : ∀ x, wipe ((wipe σ vs).set slot (some x)) vs = wipe σ vs) (r : Rn S a n H1) (b : n + N * m ≤ most) (few : N ≤ 100000)
    (hG : ∀ D H', Keeps S H1 H' ∨ Keeps (plusA S D) (upd H1 D (.lst [])) H' → H1 D = none → G H')
    (he : ∀ D, H1 D = none → ∀ i x, i < N → X i x → Ev K (plusA S D) a ((wipe σ vs).set slot (some x)) (upd H1 D (.lst [])) te m (P i))
    (q : ∀ H' D ds, Keeps (one a) H1 H' → Rn S a (n + N * m) H' → Df K (hid S H') (.ref D) (.list ds) → ds.length = N → (∀ i e, ds[i]? = some e → P i e) → Q (.ref D) H') :
    ∀ D, H1 D = none → ∃ W : Nat → Nat → Hp → Prop, (∃ m, W 0 m (upd H1 D (.lst []))) ∧ ∀ i m H, W i m H →
      (J.stop i H ∧ Q (.ref D) H) ∨ (J.go i H ∧ ∃ Nx : Hp → Prop, (∀ H', Nx H' → ∃ m', m' < m ∧ W (i + 1) m' H') ∧ ∀ x H', J.yld i H x H' → g x (wipe σ vs) H' fun σ2 H2 => wipe σ2 vs = wipe σ vs ∧ tYes σ2 H2 fun b H3 =>
        if b = true then te σ2 H3 fun y H4 => ∃ acc, H4 D = some (.lst acc) ∧ acc.length < sizeLine ∧ Nx (upd H4 D (.lst (acc ++ [y]))) else Nx H3) := by
  intro D hD
  subst hg
  have aD : a ≠ some D := fun z => by
    obtain ⟨_, _, _, e, _⟩ := r.src D z
    rw [hD] at e
    cases e
  have sD : S D = false := r.th.new hD
  have r0 : Rn (plusA S D) a n (upd H1 D (.lst [])) := by
    refine ⟨fun x e => plusA_of (r.sa x e), fun b hb => ?_, fun x e => (r.src x e).at (same_new hD x)⟩
    by_cases e : b = D
    · rw [e, upd_same]
      exact fun z => nomatch z
    · rw [upd_ne e]
      refine r.th b ?_
      unfold plusA at hb
      rw [decide_eq_false e, Bool.or_false] at hb
      exact hb
  refine lc_it w (fun i H => ∃ (xs : List V) (ds : List PyData), H D = some (.lst xs) ∧ DfAll K (hid (plusA S D) H) xs ds ∧ ds.length = i ∧ (∀ j e, ds[j]? = some e → P j e) ∧
      Keeps (fun b => one a b || decide (b = D)) (upd H1 D (.lst [])) H ∧ Rn (plusA S D) a (n + i * m) H) ?_ ?_ ?_ ?_
  · exact ⟨[], [], upd_same, .nil, rfl, fun j e h => by simp at h, Keeps.rfl, by rw [Nat.zero_mul]; exact r0⟩
  · rintro i H hi ⟨xs, ds, e1, e2, e3, e4, kp, rr⟩
    refine hG D H (.inr (Keeps.of fun b o hb e => kp.at ?_ e)) hD
    have z := plusA_back hb
    have na : a ≠ some b := fun y => by rw [r.sa b y] at z; exact nomatch z.1
    show (one a b || decide (b = D)) = false
    rw [one_no na, decide_eq_false z.2]
    rfl
  · rintro i x H H' hi ⟨xs, ds, e1, e2, e3, e4, kp, rr⟩ ⟨rfl, hx⟩
    have kS : Keeps (plusA S D) (upd H1 D (.lst [])) H' := Keeps.of fun b o hb e => kp.at (by
      have z := plusA_back hb
      have na : a ≠ some b := fun y => by rw [r.sa b y] at z; exact nomatch z.1
      show (one a b || decide (b = D)) = false
      rw [one_no na, decide_eq_false z.2]
      rfl) e
    have bound : n + i * m + m ≤ n + N * m := by
      have := Nat.mul_le_mul_right m (show i + 1 ≤ N from hi)
      rw [Nat.succ_mul] at this
      omega
    refine ⟨hw x, ?_⟩
    dsimp only [tYes]
    rw [if_pos rfl]
    refine he D hD i x hi hx H' (n + i * m) _ kS rr (Nat.le_trans bound b) fun H2 v d k2 r2 hd pd => ?_
    have eD : H2 D = some (.lst xs) := k2.at (one_no aD) e1
    have el := DfAll.len e2
    refine ⟨xs, eD, Nat.lt_of_lt_of_le (by omega : xs.length < 1000000) line20, xs ++ [v], ds ++ [d], upd_same, ?_, ?_, ?_, ?_, ?_⟩
    · rw [hid_upd (plusA_self S D)]
      exact DfAll.app (DfAll.keep e2 (keeps_one rr.sa k2)) (.cons hd .nil)
    · rw [List.length_append, e3]
      rfl
    · intro j e hj
      by_cases h : j < ds.length
      · rw [List.getElem?_append_left h] at hj
        exact e4 j e hj
      · rw [List.getElem?_append_right (by omega)] at hj
        have hj0 : j - ds.length = 0 := by
          cases hz : j - ds.length with
          | zero => rfl
          | succ z => rw [hz] at hj; simp at hj
        rw [hj0] at hj
        cases hj
        have : j = i := by omega
        subst this
        exact pd
    · refine Keeps.of fun b o hb e => ?_
      have z := kp.at hb e
      have hb' : one a b = false ∧ decide (b = D) = false := Bool.or_eq_false_iff.mp hb
      rw [upd_ne (of_decide_eq_false hb'.2)]
      exact k2.at hb'.1 z
    · rw [Nat.succ_mul, ← Nat.add_assoc]
      refine ⟨r2.sa, fun b hb => ?_, ?_⟩
      · by_cases e : b = D
        · rw [e, upd_same]
          exact fun z => nomatch z
        · rw [upd_ne e]
          exact r2.th b hb
      · exact fun x hx => (r2.src x hx).at fun o e => by rw [upd_ne (fun y => aD (by rw [hx, y]))]; exact e
  · rintro H ⟨xs, ds, e1, e2, e3, e4, kp, rr⟩
    refine q H D ds (Keeps.of fun b o hb e => ?_) ⟨r.sa, fun b hb => rr.th b (plusA_of hb), rr.src⟩ ?_ e3 e4
    · have nD : b ≠ D := ne_of_none e hD
      refine kp.at ?_ (by rw [upd_ne nD]; exact e)
      show (one a b || decide (b = D)) = false
      rw [hb, decide_eq_false nD]
      rfl
    · exact .lst (.inl (.inl (by rw [hid_at sD]; exact e1))) (DfAll.to e2 hid_plus)
/-- [e for x in range(k)] -/
theorem ev_lcR {vs : List Nat} {slot N : Nat} {P : Nat → PyData → Prop} {Z : PyData → Prop} (hn : EvA K S a σ H0 tr m1 fun l => l = [.int (N : Int)]) (hw : ∀ x, wipe ((wipe σ vs).set slot (some x)) vs = wipe σ vs) (few : N ≤ 100000)
    (he : ∀ D H1, Same (hid S H0) (hid (plusA S D) H1) → ∀ i : Nat, i < N → Ev K (plusA S D) a ((wipe σ vs).set slot (some (.int i))) H1 te m (P i)) (hz : ∀ ds, ds.length = N → (∀ i e, ds[i]? = some e → P i e) → Z (.list ds)) :
    Ev K S a σ H0 (tLc (iRng1 tr) (gName slot) tYes te vs) (m1 + N * m) Z := by
  intro H n Q k r b q
  refine hn H n _ k r (by omega) fun H1 xs ds k1 r1 hd e => ?_
  subst e
  obtain ⟨x, _, rfl, h1, h2⟩ := DfAll.c hd
  obtain rfl := DfAll.n h2
  cases h1
  refine ⟨N, rfl, by omega, by omega, ?_⟩
  rw [Int.toNat_natCast]
  refine lc_ev (K := K) (S := S) (a := a) (m := m) (n := n + m1) (P := P) (X := fun i x => x = .int (0 + (i : Int))) (walk_range (lo := 0) (n := N)) rfl hw r1 (by omega) few (fun _ _ _ _ => trivial) (fun D hD i x hi hx => ?_) (fun H' D ds kk rr hd el hp => q H' _ _ (k1.trans kk) (by rw [← Nat.add_assoc]; exact rr) hd (hz ds el hp))
  rw [hx, Int.zero_add]
  exact he D _ (Same.trans (k.trans (keeps_one r.sa k1)) (hid_new hD)) i hi
/-- [e for c in s], s a text -/
theorem ev_lcS {vs : List Nat} {slot : Nat} {s : Str} {P : Nat → PyData → Prop} {Z : PyData → Prop} (hn : Ev K S a σ H0 tn m1 (· = .str s)) (hw : ∀ x, wipe ((wipe σ vs).set slot (some x)) vs = wipe σ vs) (few : s.length ≤ 100000)
    (he : ∀ D H1, Same (hid S H0) (hid (plusA S D) H1) → ∀ (i : Nat) (c : Nat), s.cps[i]? = some c → Ev K (plusA S D) a ((wipe σ vs).set slot (some (.str ⟨#[c]⟩))) H1 te m (P i)) (hz : ∀ ds, ds.length = s.length → (∀ i e, ds[i]? = some e → P i e) → Z (.list ds)) :
    Ev K S a σ H0 (tLc (iStr tn) (gName slot) tYes te vs) (m1 + s.length * m) Z := by
  intro H n Q k r b q
  refine hn H n _ k r (by omega) fun H1 x d k1 r1 hd e => ?_
  subst e
  cases hd
  refine ⟨s, rfl, ?_⟩
  refine lc_ev (K := K) (S := S) (a := a) (m := m) (n := n + m1) (P := P) (X := fun i x => ∃ c, s.cps[i]? = some c ∧ x = .str ⟨#[c]⟩) (walk_str (z := s)) rfl hw r1 (by show n + m1 + s.length * m ≤ most; omega) few (fun _ _ _ _ => trivial) (fun D hD i x hi hx => ?_) (fun H' D ds kk rr hd el hp => q H' _ _ (k1.trans kk) (by rw [← Nat.add_assoc]; exact rr) hd (hz ds el hp))
  obtain ⟨c, hc, rfl⟩ := hx
  exact he D _ (Same.trans (k.trans (keeps_one r.sa k1)) (hid_new hD)) i c hc
theorem sq_keep {L : Addr} {xs : List V} {D : Addr} {H1 H' : Hp} (h : SqL K (hid S H1) L xs) (hD : H1 D = none) (k : Keeps S H1 H' ∨ Keeps (plusA S D) (upd H1 D (.lst [])) H') : SqL K H' L xs := by
  rcases k with k | k
  · exact Same.seq (Same.trans k hid_same) h
  · exact Same.seq (Same.trans (Same.trans (hid_new hD) k) hid_same) h
theorem sqT_keep {L : Addr} {xs : List V} {D : Addr} {H1 H' : Hp} (h : SqT K (hid S H1) L xs) (hD : H1 D = none) (k : Keeps S H1 H' ∨ Keeps (plusA S D) (upd H1 D (.lst [])) H') : SqT K H' L xs := by
  rcases k with k | k
  · exact seqT_mono (Same.trans k hid_same) h
  · exact seqT_mono (Same.trans (Same.trans (hid_new hD) k) hid_same) h
/-- [e for x in xs], xs a list of data -/
theorem ev_lcL {vs : List Nat} {slot : Nat} {es : List PyData} {P : Nat → PyData → Prop} {Z : PyData → Prop} (hn : Ev K S a σ H0 tn m1 (· = .list es)) (hw : ∀ x, wipe ((wipe σ vs).set slot (some x)) vs = wipe σ vs) (few : es.length ≤ 100000)
    (he : ∀ D H1, Same (hid S H0) (hid (plusA S D) H1) → ∀ (i : Nat) (x : V) (e : PyData), es[i]? = some e → Df K (hid (plusA S D) H1) x e → Ev K (plusA S D) a ((wipe σ vs).set slot (some x)) H1 te m (P i)) (hz : ∀ ds, ds.length = es.length → (∀ i e, ds[i]? = some e → P i e) → Z (.list ds)) :
    Ev K S a σ H0 (tLc (iList K tn) (gName slot) tYes te vs) (m1 + es.length * m) Z := by
  intro H n Q k r b q
  refine hn H n _ k r (by omega) fun H1 x d k1 r1 hd e => ?_
  subst e
  obtain ⟨L, xs, rfl, hL, hxs⟩ := Df.lst_inv hd
  have el := DfAll.len hxs
  refine ⟨L, rfl, ⟨xs, Same.seq hid_same hL⟩, ?_⟩
  rw [← el] at b few hz q
  refine lc_ev (K := K) (S := S) (a := a) (m := m) (n := n + m1) (P := P) (X := fun i x => xs[i]? = some x) (walk_list (K := K) (a := L) (xs := xs)) rfl hw r1 (by omega) few (fun D H' kk hD => sq_keep hL hD kk) (fun D hD i x hi hx => ?_) (fun H' D ds kk rr hd el hp => q H' _ _ (k1.trans kk) (by rw [← Nat.add_assoc]; exact rr) hd (hz ds el hp))
  obtain ⟨e, he1, he2⟩ := DfAll.get hxs hx
  exact he D _ (Same.trans (k.trans (keeps_one r.sa k1)) (hid_new hD)) i x e he1 (Df.to he2 (hid_new hD))
theorem ev_lcT {vs : List Nat} {slot : Nat} {es : List PyData} {P : Nat → PyData → Prop} {Z : PyData → Prop} (hn : Ev K S a σ H0 tn m1 (· = .tuple es)) (hw : ∀ x, wipe ((wipe σ vs).set slot (some x)) vs = wipe σ vs) (few : es.length ≤ 100000)
    (he : ∀ D H1, Same (hid S H0) (hid (plusA S D) H1) → ∀ (i : Nat) (x : V) (e : PyData), es[i]? = some e → Df K (hid (plusA S D) H1) x e → Ev K (plusA S D) a ((wipe σ vs).set slot (some x)) H1 te m (P i)) (hz : ∀ ds, ds.length = es.length → (∀ i e, ds[i]? = some e → P i e) → Z (.list ds)) :
    Ev K S a σ H0 (tLc (iTup K tn) (gName slot) tYes te vs) (m1 + es.length * m) Z := by
  intro H n Q k r b q
  refine hn H n _ k r (by omega) fun H1 x d k1 r1 hd e => ?_
  subst e
  obtain ⟨L, xs, rfl, hL, hxs⟩ := Df.tup_inv hd
  have el := DfAll.len hxs
  refine ⟨L, rfl, ⟨xs, seqT_mono hid_same hL⟩, ?_⟩
  rw [← el] at b few hz q
  refine lc_ev (K := K) (S := S) (a := a) (m := m) (n := n + m1) (P := P) (X := fun i x => xs[i]? = some x) (walk_tup (K := K) (a := L) (xs := xs)) rfl hw r1 (by omega) few (fun D H' kk hD => sqT_keep hL hD kk) (fun D hD i x hi hx => ?_) (fun H' D ds kk rr hd el hp => q H' _ _ (k1.trans kk) (by rw [← Nat.add_assoc]; exact rr) hd (hz ds el hp))
  obtain ⟨e, he1, he2⟩ := DfAll.get hxs hx
  exact he D _ (Same.trans (k.trans (keeps_one r.sa k1)) (hid_new hD)) i x e he1 (Df.to he2 (hid_new hD))
/-! ### repr, tests, calls of tests -/
def rReprQ (K : PySem.W.Frag) : List V → Hp → VK → Prop := fun xs H Q => ∃ v d, xs = [v] ∧ Dp K H v d ∧ d.showable = true ∧ d.hasDict = false ∧ d.depth ≤ 60 ∧ d.shown.length ≤ sizeLine ∧ Q (.str d.shown) H
theorem ev_repr {P : PyData → Prop} (h : EvA K S a σ H0 tr m R) (p : ∀ ds, R ds → ∃ d, ds = [d] ∧ Good 1000000 60 d ∧ P (.str d.shown)) : Ev K S a σ H0 (tCB (rReprQ K) tr) m P :=
  ev_cb h fun H xs ds Q t hd pd q => by
    obtain ⟨d, rfl, g, pe⟩ := p ds pd
    obtain ⟨x, _, rfl, h1, h2⟩ := DfAll.c hd
    obtain rfl := DfAll.n h2
    obtain ⟨s1, s2⟩ := showable_of d g.fin
    exact ⟨x, d, rfl, (Df.bare h1).dp, s1, s2, g.dp, Nat.le_trans (shown_le d g.fin) (Nat.le_trans g.wt line20), q H _ _ (Same.refl H) (.str _) pe⟩
/-- x != y of texts -/
theorem ev_neS {P : PyData → Prop} (ha : Ev K S a σ H0 ta m1 P1) (hb : Ev K S a σ H0 tb m2 P2) (h : ∀ d e, P1 d → P2 e → ∃ x y, d = .str x ∧ e = .str y ∧ P (.bool (!decide (V.str x = V.str y)))) : Ev K S a σ H0 (tOp rNe ta tb) (m1 + m2) P :=
  ev_op ha hb fun H x y d e Q t hd he q1 q2 q => by
    obtain ⟨i, j, rfl, rfl, p⟩ := h d e q1 q2
    cases hd
    cases he
    exact ⟨rfl, q H _ _ (Same.refl H) (.bl _) p⟩
theorem ne_same (x : Str) : (!decide (V.str x = V.str x)) = false := by rw [decide_eq_true rfl]; rfl
/-- if a or b: .., both false -/
theorem ev_orF {t1 t2 : TE} {body : TS} {D : Ends} {n : Nat} {H : Hp} (r : Rn S a n H) (b : n + (m1 + m2) ≤ most) (h1 : Ev K S a σ H t1 m1 (· = .bool false)) (h2 : Ev K S a σ H t2 m2 (· = .bool false))
    (q : ∀ H', Keeps (one a) H H' → Rn S a (n + (m1 + m2)) H' → D.nx σ H') : tIfS (tOr (tTest t1) (tTest t2)) body tNext D σ H := by
  refine h1 H n _ Keeps.rfl r (by omega) fun H1 v d k1 r1 hd e => ?_
  subst e
  cases hd
  refine ⟨false, rfl, ?_⟩
  refine iteF (h2 H1 (n + m1) _ (keeps_one r.sa k1) r1 (by omega) fun H2 v d k2 r2 hd e => ?_)
  subst e
  cases hd
  refine ⟨false, rfl, ?_⟩
  refine iteF (q H2 (k1.trans k2) ?_)
  rw [← Nat.add_assoc]
  exact r2
end
end DD
namespace DD
open PySem PySem.Spec PyProof.Rows L2
/-! ### pure defs: no source -/
def noS : Addr → Bool := fun _ => false
theorem there_no {H : Hp} : There noS H := fun b h => nomatch h
theorem rn_no {H : Hp} : Rn noS none 0 H := Rn.pure there_no
theorem hid_no {H : Hp} : hid noS H = H := by
  funext b
  exact hid_at rfl
theorem keeps_no {H H' : Hp} (k : Keeps (one none) H H') : Same H H' := fun b o e => k.at rfl e
theorem dp_no {K : PySem.W.Frag} {H : Hp} {v : V} {d : PyData} (h : Df K H v d) : Df K (hid noS H) v d := by rw [hid_no]; exact h
theorem no_dp {K : PySem.W.Frag} {H : Hp} {v : V} {d : PyData} (h : Df K (hid noS H) v d) : Df K H v d := by rw [hid_no] at h; exact h
/-- an expression without draws, run where no source is -/
theorem ev_no {K : PySem.W.Frag} {σ : L2.St} {H : Hp} {te : TE} (m : Nat) (P : PyData → Prop) {Q : VK} (h : Ev K noS none σ H te m P) (hm : m ≤ most) (q : ∀ H' v d, Same H H' → Df K H' v d → P d → Q v H') : te σ H Q :=
  h H 0 Q Keeps.rfl rn_no (by rw [Nat.zero_add]; exact hm) fun H' v d k r hd p => q H' v d (keeps_no k) (no_dp hd) p
theorem dp_bools {K : PySem.W.Frag} {H : Hp} : ∀ {bs : List Bool} {vs : List V}, DfAll K H vs (bs.map PyData.bool) → vs = bs.map V.bl
  | [], _, h => DfAll.n h
  | b :: bs, _, h => by
    obtain ⟨v, r, rfl, h1, h2⟩ := DfAll.c h
    cases h1
    rw [dp_bools h2]
    rfl
section
variable {K : PySem.W.Frag} {S : Addr → Bool} {a : Option Addr} {σ : L2.St} {H0 : Hp} {te ta tb tn : TE} {tr : TA} {m m1 m2 : Nat} {P P1 P2 : PyData → Prop} {R R1 : List PyData → Prop}
theorem ev_all (h : EvA K S a σ H0 tr m R) (p : ∀ ds, R ds → ∃ bs : List Bool, ds = [.list (bs.map PyData.bool)] ∧ P (.bool (bs.all id))) : Ev K S a σ H0 (tCB (rAll K) tr) m P :=
  ev_cb h fun H xs ds Q t hd pd q => by
    obtain ⟨bs, rfl, pe⟩ := p ds pd
    obtain ⟨x, _, rfl, h1, h2⟩ := DfAll.c hd
    obtain rfl := DfAll.n h2
    obtain ⟨b, vs, rfl, hL, hv⟩ := Df.lst_inv h1
    rw [dp_bools hv] at hL
    exact ⟨b, bs, rfl, Same.seq hid_same hL, q H _ _ (Same.refl H) (.bl _) pe⟩
theorem ev_any (h : EvA K S a σ H0 tr m R) (p : ∀ ds, R ds → ∃ bs : List Bool, ds = [.list (bs.map PyData.bool)] ∧ P (.bool (bs.any id))) : Ev K S a σ H0 (tCB (rAny K) tr) m P :=
  ev_cb h fun H xs ds Q t hd pd q => by
    obtain ⟨bs, rfl, pe⟩ := p ds pd
    obtain ⟨x, _, rfl, h1, h2⟩ := DfAll.c hd
    obtain rfl := DfAll.n h2
    obtain ⟨b, vs, rfl, hL, hv⟩ := Df.lst_inv h1
    rw [dp_bools hv] at hL
    exact ⟨b, bs, rfl, Same.seq hid_same hL, q H _ _ (Same.refl H) (.bl _) pe⟩
theorem ev_inSign (ha : Ev K S a σ H0 ta m1 P1) (hb : Ev K S a σ H0 tb m2 P2) (h : ∀ d e, P1 d → P2 e → ∃ (c : Nat) (z : Str), d = .str ⟨#[c]⟩ ∧ e = .str z ∧ P (.bool (decide (c ∈ z.cps.toList)))) :
    Ev K S a σ H0 (tOp (fun x y H Q => ∃ (c : Nat) (z : Str), x = .str ⟨#[c]⟩ ∧ y = .str z ∧ Q (.bl (decide (c ∈ z.cps.toList))) H) ta tb) (m1 + m2) P :=
  ev_op ha hb fun H x y d e Q t hd he q1 q2 q => by
    obtain ⟨c, z, rfl, rfl, p⟩ := h d e q1 q2
    cases hd
    cases he
    exact ⟨c, z, rfl, rfl, q H _ _ (Same.refl H) (.bl _) p⟩
end
theorem list_of_get {f : Nat → PyData} : ∀ (n : Nat) (ds : List PyData), ds.length = n → (∀ i e, ds[i]? = some e → e = f i) → ds = (List.range n).map f
  | 0, [], _, _ => rfl
  | n + 1, ds, hl, h => by
    refine List.ext_getElem? fun i => ?_
    rw [List.getElem?_map]
    by_cases hi : i < n + 1
    · rw [List.getElem?_range hi, List.getElem?_eq_getElem (by omega), h i _ (List.getElem?_eq_getElem (by omega))]
      rfl
    · rw [List.getElem?_eq_none (by omega), List.getElem?_eq_none (by rw [List.length_range]; omega)]
      rfl
  | 0, _ :: _, hl, _ => by simp at hl
/-- data by their places -/
theorem list_by {α : Type} {f : α → PyData} (xs : List α) (ds : List PyData) (hl : ds.length = xs.length) (h : ∀ (i : Nat) (e : PyData) (x : α), ds[i]? = some e → xs[i]? = some x → e = f x) : ds = xs.map f := by
  refine List.ext_getElem? fun i => ?_
  rw [List.getElem?_map]
  by_cases hi : i < xs.length
  · rw [List.getElem?_eq_getElem (l := ds) (by omega), List.getElem?_eq_getElem hi, h i _ _ (List.getElem?_eq_getElem (by omega)) (List.getElem?_eq_getElem hi)]
    rfl
  · rw [List.getElem?_eq_none (by omega), List.getElem?_eq_none (by omega)]
    rfl
end DD
namespace DD
open PySem PySem.Spec PyProof.Rows L2
theorem ev_retN {K : PySem.W.Frag} {σ : L2.St} {H : Hp} {te : TE} {D : Ends} (m : Nat) (P : PyData → Prop) (h : Ev K noS none σ H te m P) (hm : m ≤ most) (q : ∀ H' v d, Same H H' → Df K H' v d → P d → D.rt v H') : tRet te D σ H := ev_no m P h hm q
theorem ev_setN {K : PySem.W.Frag} {σ : L2.St} {H : Hp} {te : TE} {D : Ends} {u : TS} {i : Nat} (m : Nat) (P : PyData → Prop) (h : Ev K noS none σ H te m P) (hm : m ≤ most) (q : ∀ H' v d, Same H H' → Df K H' v d → P d → u D (σ.set i (some v)) H') : tSeq (tAsg te (gName i)) u D σ H := ev_no m P h hm q
end DD
namespace DD
open PySem PySem.Spec PyProof.Rows L2
section
variable {K : PySem.W.Frag} {S : Addr → Bool} {a : Option Addr} {σ : L2.St} {H0 : Hp} {te ta tb tn : TE} {tr : TA} {m m1 m2 : Nat} {P P1 P2 : PyData → Prop} {R R1 : List PyData → Prop}
theorem ev_callB {r : PyData → Bool} {E : XK} (h : EvA K S a σ H0 tr m R) (p : ∀ ds, R ds → ∃ d, ds = [d] ∧ Good 900000 50 d ∧ P (.bool (r d))) : Ev K S a σ H0 (tCall (spB K r) [] E tr) m P := by
  intro H n Q k rn b q
  refine h H n _ k rn b fun H1 vs ds k1 r1 hd pd => ?_
  obtain ⟨d, rfl, g, pe⟩ := p ds pd
  obtain ⟨x, _, rfl, h1, h2⟩ := DfAll.c hd
  obtain rfl := DfAll.n h2
  exact ⟨x, d, rfl, Df.bare h1, g, fun H2 s2 => q H2 _ _ (k1.trans (Keeps.same s2)) (r1.same s2) (.bl _) pe⟩
theorem ev_callKwB {r : PyData → Bool} {E : XK} (h : EvA K S a σ H0 tr m R) (p : ∀ ds, R ds → ∃ d, ds = [d] ∧ Good 900000 50 d ∧ P (.bool (r d))) : Ev K S a σ H0 (tCallKw 1 (spB K r) gId E tr) m P := by
  intro H n Q k rn b q
  refine h H n _ k rn b fun H1 vs ds k1 r1 hd pd => ?_
  obtain ⟨d, rfl, g, pe⟩ := p ds pd
  obtain ⟨x, _, rfl, h1, h2⟩ := DfAll.c hd
  obtain rfl := DfAll.n h2
  exact ⟨rfl, x, d, rfl, Df.bare h1, g, fun H2 s2 => q H2 _ _ (k1.trans (Keeps.same s2)) (r1.same s2) (.bl _) pe⟩
theorem ev_andT (h1 : Ev K S a σ H0 ta m1 (· = .bool true)) (h2 : Ev K S a σ H0 tb m2 P) : Ev K S a σ H0 (tAndV ta tb) (m1 + m2) P := by
  intro H n Q k rn b q
  refine h1 H n _ k rn (by omega) fun H1 v d k1 r1 hd e => ?_
  subst e
  cases hd
  refine ⟨true, rfl, ?_⟩
  refine iteT (h2 H1 (n + m1) _ (k.trans (keeps_one rn.sa k1)) r1 (by omega) fun H2 v d k2 r2 hd p => ?_)
  exact q H2 v d (k1.trans k2) (by rw [← Nat.add_assoc]; exact r2) hd p
theorem ev_isB {x y : Bool} (h1 : Ev K S a σ H0 ta m1 (· = .bool x)) (h2 : Ev K S a σ H0 tb m2 (· = .bool y)) (p : P (.bool (decide (x = y)))) : Ev K S a σ H0 (tOp rIsB ta tb) (m1 + m2) P :=
  ev_op h1 h2 fun H v w d e Q t hd he q1 q2 q => by
    subst q1 q2
    cases hd
    cases he
    exact ⟨x, y, rfl, rfl, q H _ _ (Same.refl H) (.bl _) p⟩
/-- for v in a list of data -/
theorem ev_forLast {n i : Nat} {H : Hp} {tb : TS} {D : Ends} (P : PyData → Prop) (m : Nat) (Pv : L2.St → Prop) (r : Rn S a n H) (b : n + m ≤ most) (h : Ev K S a σ H te m fun d => ∃ l, d = .list l ∧ ∀ e ∈ l, P e) (h0 : Pv σ)
    (hs : ∀ Hs σ1 H1 v d, Pv σ1 → Keeps (one a) H Hs → Keeps (one a) Hs H1 → Rn S a (n + m) H1 → Df K (hid S H1) v d → P d →
      tb { D with nx := fun σ' H' => Pv σ' ∧ Keeps (one a) Hs H' ∧ Rn S a (n + m) H', ct := fun σ' H' => Pv σ' ∧ Keeps (one a) Hs H' ∧ Rn S a (n + m) H', bk := D.nx } (σ1.set i (some v)) H1)
    (hd : ∀ σ1 H1, Pv σ1 → Keeps (one a) H H1 → Rn S a (n + m) H1 → D.nx σ1 H1) : tFor (iList K te) (gName i) tb D σ H := by
  refine h H n _ Keeps.rfl r b fun H1 v d k1 r1 hdd ⟨l, e, hl⟩ => ?_
  subst e
  obtain ⟨L, xs, rfl, hL, hxs⟩ := Df.lst_inv hdd
  refine ⟨L, rfl, ⟨xs, Same.seq hid_same hL⟩, ?_⟩
  refine for_list (K := K) (a := L) (xs := xs) (fun _ σ1 H2 => Pv σ1 ∧ Keeps (one a) H1 H2 ∧ Rn S a (n + m) H2) ⟨h0, Keeps.rfl, r1⟩ (fun j σ1 H2 _ p => Same.seq (Same.trans (keeps_one r.sa p.2.1) hid_same) hL) (fun j x σ1 H2 hx p => ?_) (fun σ1 H2 p => hd σ1 H2 p.1 (k1.trans p.2.1) p.2.2)
  obtain ⟨e, he1, he2⟩ := DfAll.get hxs hx
  have he3 : Df K (hid S H2) x e := Df.keep he2 (keeps_one r.sa p.2.1)
  exact hs H1 σ1 H2 x e p.1 k1 p.2.1 p.2.2 he3 (hl e (List.mem_of_getElem? he1))
theorem ev_forL {n i : Nat} {H : Hp} {u tb : TS} {D : Ends} (P : PyData → Prop) (m : Nat) (Pv : L2.St → Prop) (r : Rn S a n H) (b : n + m ≤ most) (h : Ev K S a σ H te m fun d => ∃ l, d = .list l ∧ ∀ e ∈ l, P e) (h0 : Pv σ)
    (hs : ∀ Hs σ1 H1 v d, Pv σ1 → Keeps (one a) H Hs → Keeps (one a) Hs H1 → Rn S a (n + m) H1 → Df K (hid S H1) v d → P d →
      tb { D with nx := fun σ' H' => Pv σ' ∧ Keeps (one a) Hs H' ∧ Rn S a (n + m) H', ct := fun σ' H' => Pv σ' ∧ Keeps (one a) Hs H' ∧ Rn S a (n + m) H', bk := u D } (σ1.set i (some v)) H1)
    (hd : ∀ σ1 H1, Pv σ1 → Keeps (one a) H H1 → Rn S a (n + m) H1 → u D σ1 H1) : tSeq (tFor (iList K te) (gName i) tb) u D σ H :=
  ev_forLast (D := { D with nx := u D }) P m Pv r b h h0 hs hd
end
theorem same_hid_new {H H1 : Hp} {p : Addr} (s : Same H H1) (np : H p = none) : Same H (hid (one (some p)) H1) := fun b o e => by
  rw [hid_at (one_ne (ne_of_none e np))]
  exact s b o e
theorem rn_src {H : Hp} {p : Addr} {n : Nat} (s : Src H p n) : Rn (one (some p)) (some p) n H :=
  Rn.mk1 (one_self p) (fun b hb => by
    cases one_is hb
    obtain ⟨_, _, _, e, _⟩ := s
    rw [e]
    exact fun z => nomatch z) s
end DD

namespace DD
open PySem PySem.Spec PyProof.Rows L2
/-! ### {e for x in ..} where e is an int or a text -/
section
variable {X : Cx}
/-- the reading: D the new set, the keys so far in it -/
def tKc (P : Program) (w : World) (wi : TI) (g : TG) (tt : TT) (te : TE) (vs : List Nat) : TE := fun σ H Q => wi σ H fun J H1 => ∀ D, H1 D = none → ∃ W : Nat → Nat → Hp → Prop, (∃ m, W 0 m (upd H1 D (SetK P w D (fun _ => false) 0))) ∧ ∀ i m H, W i m H →
  (J.stop i H ∧ Q (.ref D) H) ∨ (J.go i H ∧ ∃ Nx : Hp → Prop, (∀ H', Nx H' → ∃ m', m' < m ∧ W (i + 1) m' H') ∧ ∀ x H', J.yld i H x H' → g x (wipe σ vs) H' fun σ2 H2 => wipe σ2 vs = wipe σ vs ∧ tt σ2 H2 fun b H3 =>
    if b = true then te σ2 H3 fun y H4 => ∃ (k : Key) (S : Key → Bool) (n : Nat), y = kV k ∧ H4 D = some (SetK P w D S n) ∧ n + 1 < scanBound ∧ Nx (upd H4 D (SetK P w D (fun j => S j || decide (j = k)) (if S k = true then n else n + 1))) else Nx H3)
abbrev freshSet (w : World) : Obj := { cls := .type "set", dict := none, data := .set #[] 0 (.fresh 0 0 (!w.params.followText "set-order")) }
theorem fresh_set {P : Program} {w : World} {h : Heap} : (h.push (freshSet w)).SetOf (mixKind P w) h.objs.size (fun _ => false) 0 :=
  ⟨_, #[], 0, _, Heap.get?_push_size _ rfl, ⟨rfl, rfl, rfl⟩, rfl, (fun e he => by simp at he), (fun k => by simp), (by decide), (by rfl), rfl⟩
theorem kc_core {pins : List (Addr × Obj)} {s : Shared} {σ : L2.St} {H : Hp} {Q : VK} {elt tg iter : Expr} {ifs : List Expr} {scope : Scope} {own : List (PySem.Str × Nat)} {pos pos' : Pos} {wi : TI} {g : TG} {tt : TT} {te : TE} {Qf : Value → Shared → Prop}
    (calm : X.calm = true) (names : X.N.Nodup) (I : Inv X pins σ H s) (walk : PI X tg iter wi) (blk : BlkOk X.N X.env.scope scope own)
    (tgt : ∀ (s : Shared) (H : Hp) (C : Addr) (cl : List (PySem.Str × Addr)) (fp : List Addr), PG (X.blk s H scope (compEnvC scope cl C X.env) fp) tg g)
    (tests : ∀ (s : Shared) (H : Hp) (C : Addr) (cl : List (PySem.Str × Addr)) (fp : List Addr), PTs (X.blk s H scope (compEnvC scope cl C X.env) fp) ifs tt)
    (elem : ∀ (s : Shared) (H : Hp) (C : Addr) (cl : List (PySem.Str × Addr)) (fp : List Addr), PE (X.blk s H scope (compEnvC scope cl C X.env) fp) elt te) (fold : ∀ x, foldedSetIterable iter X.env x = pure x)
    (h : tKc X.prog X.w wi g tt te (own.map (·.2)) σ H Q) (behind : ∀ D C s' m H', Inv X pins σ H' s' → Q (.ref D) H' → s'.heap.Ns C m → FpOk X pins H' C → compPost (model X.prog X.w) X.A X.xe none Qf (.ref D) C (.ok .next) s') :
    wpAny (model X.prog X.w) X.A (comprehension (.SetComp elt [⟨tg, iter, ifs, 0⟩] scope pos) scope X.env pos' (newSet (.type "set")) false (eval iter X.env) none) Qf X.xe s := by
  have captured : ∀ y ∈ scope.names, y.2 = .free → ∃ c, X.env.cells.lookup y.1 = some c := fun y hy e => (blk.free y hy e).elim (fun z => I.ok.has _ (.inl z)) fun z => I.ok.has _ (.inr z)
  refine wpAny_comprehension_free (use := none) rfl fold (closure_ok captured) blk.kind (fun y hy e => (blk.uniq y hy).trans (congrArg some e)) (thn (walk.run pins s σ H _ I h) fun xv s1 h1 => thn h1 fun itv s2 h2 => ?_)
  obtain ⟨it, fp, tn, J, H2, e, I2, T, at2, ok2, q⟩ := h2
  subst e
  refine PpSet.newSet_ok (newEnv_comp ?_)
  generalize eD : s2.heap.objs.size = D
  have noD : H2 D = none := I2.hok.fresh (Nat.le_of_eq eD)
  obtain ⟨W, ⟨m0, w0⟩, turn⟩ := q D noD
  generalize es3 : ({ s2 with heap := s2.heap.push (freshSet X.w) } : Shared) = s3
  have heap3 : s3.heap = s2.heap.push (freshSet X.w) := by rw [← es3]
  generalize eH3 : upd H2 D (SetK X.prog X.w D (fun _ => false) 0) = H3 at w0
  have I3 : Inv X pins σ H3 s3 := by
    rw [← es3, ← eH3]
    refine I2.laid (t' := s2.toks) (fun b o e => Heap.get?_push_of_some _ e) (Nat.le_of_eq eD) ?_
    rw [← eD]
    exact setK_new fresh_set
  have ok3 : ∀ b ∈ fp, FpOk X pins H3 b ∧ b < s3.heap.objs.size := fun b hb => by
    obtain ⟨o, there, _⟩ := T.obj _ _ at2 b hb
    have below : b < s2.heap.objs.size := Heap.lt_size there
    refine ⟨⟨?_, (ok2 b hb).2⟩, by rw [heap3, Heap.size_push]; exact Nat.lt_succ_of_lt below⟩
    rw [← eH3, upd_ne (by rw [← eD]; exact Nat.ne_of_lt below)]
    exact (ok2 b hb).1
  have at3 : tn 0 s3.heap := T.keep _ _ _ at2 fun b _ o e => by rw [heap3]; exact Heap.get?_push_of_some _ e
  have I4 := block_start I3 blk names ok3
  have G := tgt s3 H3 s3.heap.objs.size (cellsFrom (s3.heap.objs.size + 1) scope.names (cloFrom X.env.cells scope.names [])) fp
  have B := tests s3 H3 s3.heap.objs.size (cellsFrom (s3.heap.objs.size + 1) scope.names (cloFrom X.env.cells scope.names [])) fp
  have M := elem s3 H3 s3.heap.objs.size (cellsFrom (s3.heap.objs.size + 1) scope.names (cloFrom X.env.cells scope.names [])) fp
  show codeAny (model X.prog X.w) X.A (.compStart (.SetComp elt [⟨tg, iter, ifs, 0⟩] scope pos) 0 (.ref it) (.ref D) (compEnvC scope (cellsFrom (s3.heap.objs.size + 1) scope.names (cloFrom X.env.cells scope.names [])) s3.heap.objs.size X.env))
    (compPost (model X.prog X.w) X.A X.xe none Qf (.ref D) s3.heap.objs.size) { s3 with heap := pushCells (s3.heap.push { cls := .type "dict", data := .dict #[] }) scope.names }
  have free3 : ∀ b ∈ fp, H3 b = none := fun b hb => (ok3 b hb).1.1
  generalize ece : compEnvC scope (cellsFrom (s3.heap.objs.size + 1) scope.names (cloFrom X.env.cells scope.names [])) s3.heap.objs.size X.env = ce at I4 G B M ⊢
  have frame : ce.locals = s3.heap.objs.size := by subst ece; rfl
  generalize es4 : ({ s3 with heap := pushCells (s3.heap.push { cls := .type "dict", data := .dict #[] }) scope.names } : Shared) = s4 at I4 ⊢
  have at4 : tn 0 s4.heap := T.keep _ _ _ at3 fun b _ o e => by rw [← es4]; exact pushCells_keeps _ _ _ _ (Heap.get?_push_of_some _ e)
  have still : ∀ {σ' : L2.St} {H' : Hp} {s' : Shared}, Inv (X.blk s3 H3 scope ce fp) [] σ' H' s' → (∀ b ∈ fp, H' b = none) → ∀ b ∈ fp, FpOk (X.blk s3 H3 scope ce fp) [] H' b := fun {σ' H' s'} I' no b hb =>
    ⟨no b hb, (I'.ok.exf b hb).1, I'.ok.exfs b hb, .inl hb, fun x c e => (I'.ok.exf b hb).2 x c e, fun p hp => absurd hp (by simp)⟩
  refine PpSet.codeAny_compStart_set ?loop (T.self X.A 0 _ _ _ at4 ?loop)
  refine PpSet.compLoopS_any (fun n s' => ∃ i H', Inv (X.blk s3 H3 scope ce fp) [] (wipe σ (own.map (·.2))) H' s' ∧ tn i s'.heap ∧ (∀ b ∈ fp, H' b = none) ∧ W i n H') ?_ m0 ⟨0, H3, I4, at4, free3, w0⟩
  rintro n s5 ⟨i, H5, I5, at5, free5, w5⟩
  rcases turn i n H5 w5 with ⟨stop, fin⟩ | ⟨go, Nx, next, step⟩
  · refine thnF (T.done (X.blk s3 H3 scope ce fp) rfl rfl rfl calm i [] s5 _ H5 (fun _ _ => False) I5 (still I5 free5) at5 stop) fun r s6 ⟨er, I6⟩ => ?_
    subst er
    have back : Inv X pins σ H5 s6 := I3.call' (ch := fp) I6.os I6.base I6.hok I6.bare fun b hb => let z := (ok3 b hb).1; ⟨z.2.2.2.1, z.2.1, z.2.2.2.2.1, z.2.2.2.2.2⟩
    obtain ⟨m, ns, _⟩ := I6.loc
    exact behind D s3.heap.objs.size s6 m H5 back fin (frame ▸ ns) (I3.fpOk (Nat.le_refl _) (frame ▸ I6.free))
  · refine thnF (T.item (X.blk s3 H3 scope ce fp) rfl rfl rfl calm i [] s5 _ H5 (fun _ _ => False) I5 (still I5 free5) at5 go) fun r s6 ⟨u, er, h6⟩ => ?_
    subst er
    refine thnF h6 fun _ s7 ⟨x, H7, I7, rx, y7, at7, free7⟩ => ?_
    have pinned := I7.pinned (still I7 free7) (T.obj _ _ at7)
    refine thnF (G.run _ s7 _ H7 x u _ pinned rx (step x H7 y7)) fun _ s8 ⟨σ8, H8, I8, wiped, q8⟩ => thnF (B.run _ s8 σ8 H8 _ I8 q8) fun b s9 ⟨H9, I9, q9⟩ => ?_
    have again : ∀ {s' : Shared} {H' : Hp}, Inv (X.blk s3 H3 scope ce fp) ([] ++ pinsAt fp s7.heap) σ8 H' s' → Nx H' → ∃ m, m < n ∧ ∃ i H', Inv (X.blk s3 H3 scope ce fp) [] (wipe σ (own.map (·.2))) H' s' ∧ tn i s'.heap ∧ (∀ b ∈ fp, H' b = none) ∧ W i m H' := by
      intro s' H' I' nx
      obtain ⟨m', lt, w'⟩ := next H' nx
      have held : ∀ b ∈ fp, ∀ o, s7.heap.get? b = some o → s'.heap.get? b = some o ∧ H' b = none := fun b hb o e => let z := I'.pin (b, o) (List.mem_append_right _ (List.mem_append_right _ (mem_pinsAt hb e))); ⟨z.1, z.2.1⟩
      refine ⟨m', lt, i + 1, H', (I'.unpinned (pins := [])).weak (by rw [← wiped, wipe_length]) (fun j v e => (wipe_some (wiped ▸ e)).1), T.keep _ _ _ at7 fun b hb o e => (held b hb o e).1, fun b hb => ?_, w'⟩
      obtain ⟨o, e, _⟩ := T.obj _ _ at7 b hb
      exact (held b hb o e).2
    cases b with
    | false =>
      simp only [Bool.false_eq_true, if_false] at q9 ⊢
      exact again I9 q9
    | true =>
      simp only [if_true] at q9 ⊢
      refine thnF (M.run _ s9 σ8 H9 _ I9 q9) fun z s10 ⟨yv, H10, I10, r10, k, S0, n0, ey, hD10, room, nx⟩ => ?_
      subst ey
      refine call_set_add (kV_is r10) (key_scan r10) (setK_get (X := X.blk s3 H3 scope ce fp) I10 hD10) room fun h' sb new => again (I10.write (e := D) (t' := s10.toks + 1) (by rw [hD10]; trivial) (.inl rfl) (fun b u hb hu => (sb.2 b hb).trans hu) ?_ (setK_new new)) nx
      obtain ⟨o, _, _, _, ho, _⟩ := id new
      exact ⟨o, ho⟩
theorem pe_kc {elt tg iter : Expr} {ifs : List Expr} {scope : Scope} {own : List (PySem.Str × Nat)} {pos : Pos} {wi : TI} {g : TG} {tt : TT} {te : TE} (calm : X.calm = true) (names : X.N.Nodup) (walk : PI X tg iter wi) (blk : BlkOk X.N X.env.scope scope own)
    (tgt : ∀ (s : Shared) (H : Hp) (C : Addr) (cl : List (PySem.Str × Addr)) (fp : List Addr), PG (X.blk s H scope (compEnvC scope cl C X.env) fp) tg g)
    (tests : ∀ (s : Shared) (H : Hp) (C : Addr) (cl : List (PySem.Str × Addr)) (fp : List Addr), PTs (X.blk s H scope (compEnvC scope cl C X.env) fp) ifs tt)
    (elem : ∀ (s : Shared) (H : Hp) (C : Addr) (cl : List (PySem.Str × Addr)) (fp : List Addr), PE (X.blk s H scope (compEnvC scope cl C X.env) fp) elt te) (fold : ∀ x, foldedSetIterable iter X.env x = pure x := by intro _; rfl) :
    PE X (.SetComp elt [⟨tg, iter, ifs, 0⟩] scope pos) (tKc X.prog X.w wi g tt te (own.map (·.2))) := by
  refine ⟨fun pins s σ H Q I h => ?_⟩
  rw [PpSet.eval_SetComp]
  refine kc_core calm names I walk blk tgt tests elem fold h fun D C s' m H' I' q ns ok => ⟨m, ns, fun h'' sb => ?_⟩
  exact ⟨.ref D, H', I'.turned (t' := s'.toks) (fun b o hb e => (sb.2 b hb).trans e) ok.1 ok.2.1 ok.2.2.2.1 ok.2.2.2.2.1 ok.2.2.2.2.2, rfl, q⟩
/-- len of such a set -/
theorem call_lenK : CallR X (.builtin "len") (fun xs H Q => ∃ D S n, xs = [.ref D] ∧ H D = some (SetK X.prog X.w D S n) ∧ Q (.int n) H) := by
  intro pins s σ H xs us Q I r h
  obtain ⟨D, S, n, rfl, hD, q⟩ := h
  obtain ⟨u, rfl, ru⟩ := vals1 r
  cases ru
  obtain ⟨o, es, ep, t, ho, hx, hd, _, _, hb, hf, hn⟩ := setK_get I hD
  have small : (scanBound : Nat) ≤ 2 ^ 62 := by decide
  refine call_len_set ho hx hd hf (by omega) ⟨.int n, H, I.tok _, ⟨_, by rw [hn]⟩, q⟩
end
end DD
namespace DD
open PySem PySem.Spec PyProof.Rows L2
/-- such a comprehension over any walk -/
theorem kc_it {J : It} {N : Nat} {G : Hp → Prop} {Y : Nat → Hp → V → Hp → Prop} (w : Walk J N G Y) {P : Program} {wo : World} {g : TG} {tt : TT} {te : TE} {vs : List Nat} {σ : L2.St} {H1 : Hp} {D : Addr} {Qd : Hp → Prop} (Pv : Nat → Hp → Prop)
    (h0 : Pv 0 (upd H1 D (SetK P wo D (fun _ => false) 0))) (hG : ∀ i H, i ≤ N → Pv i H → G H)
    (hs : ∀ i x H H', i < N → Pv i H → Y i H x H' → g x (wipe σ vs) H' fun σ2 H2 => wipe σ2 vs = wipe σ vs ∧ tt σ2 H2 fun b H3 =>
      if b = true then te σ2 H3 fun y H4 => ∃ (k : Key) (S : Key → Bool) (n : Nat), y = kV k ∧ H4 D = some (SetK P wo D S n) ∧ n + 1 < scanBound ∧ Pv (i + 1) (upd H4 D (SetK P wo D (fun j => S j || decide (j = k)) (if S k = true then n else n + 1))) else Pv (i + 1) H3)
    (hd : ∀ H, Pv N H → Qd H) :
    ∃ W : Nat → Nat → Hp → Prop, (∃ m, W 0 m (upd H1 D (SetK P wo D (fun _ => false) 0))) ∧ ∀ i m H, W i m H →
      (J.stop i H ∧ Qd H) ∨ (J.go i H ∧ ∃ Nx : Hp → Prop, (∀ H', Nx H' → ∃ m', m' < m ∧ W (i + 1) m' H') ∧ ∀ x H', J.yld i H x H' → g x (wipe σ vs) H' fun σ2 H2 => wipe σ2 vs = wipe σ vs ∧ tt σ2 H2 fun b H3 =>
        if b = true then te σ2 H3 fun y H4 => ∃ (k : Key) (S : Key → Bool) (n : Nat), y = kV k ∧ H4 D = some (SetK P wo D S n) ∧ n + 1 < scanBound ∧ Nx (upd H4 D (SetK P wo D (fun j => S j || decide (j = k)) (if S k = true then n else n + 1))) else Nx H3) := by
  refine ⟨fun i m H => m + i = N ∧ Pv i H, ⟨N, by omega, h0⟩, fun i m H ⟨e, p⟩ => ?_⟩
  by_cases lt : i < N
  · exact .inr ⟨w.goes i H lt (hG i H (Nat.le_of_lt lt) p), Pv (i + 1), fun H' p' => ⟨m - 1, by omega, by omega, p'⟩, fun x H' y => hs i x H H' lt p (w.yields i H x H' lt (hG i H (Nat.le_of_lt lt) p) y)⟩
  · obtain rfl : i = N := by omega
    exact .inl ⟨w.stops H (hG i H (Nat.le_refl _) p), hd H p⟩
/-! ### xs.count(k) of texts -/
theorem strs_of : ∀ {ys : List Str} {us : List Value}, Vals (ys.map V.str) us → StrsAre us ys
  | [], us, r => by
    cases r
    exact .nil
  | y :: ys, us, r => by
    rw [List.map_cons] at r
    cases r with
    | cons r1 r2 =>
      obtain ⟨t, rfl⟩ := r1
      exact .cons y t (strs_of r2)
theorem countIn_strs (k : Str) : ∀ ys : List Str, countIn (.str k) (ys.map PyData.str) = ((ys.count k : Nat) : Int)
  | [] => rfl
  | y :: ys => by
    rw [List.map_cons, countIn, countIn_strs k ys, List.count_cons]
    by_cases h : (y == k) = true
    · have h' : same (PyData.str y) (PyData.str k) = true := h
      rw [if_pos h', if_pos h]
      push_cast
      omega
    · have h' : ¬ same (PyData.str y) (PyData.str k) = true := h
      rw [if_neg h', if_neg h]
      push_cast
      omega
section
variable {X : Cx}
def rCntS (K : PySem.W.Frag) : V → List V → Hp → VK → Prop := fun x xs H Q => ∃ (p : Addr) (ys : List Str) (k : Str), x = .ref p ∧ xs = [.str k] ∧ SqL K H p (ys.map V.str) ∧ Q (.int (ys.count k : Nat)) H
theorem mt_countS : MtR X "list.count" (rCntS X.K) := by
  intro pins s σ H x xs v us Q I rx rxs h
  obtain ⟨p, ys, k, rfl, rfl, hs, q⟩ := h
  cases rx
  obtain ⟨u, rfl, t, rfl⟩ := vals1 rxs
  obtain ⟨its, rv, hl, _⟩ := I.list hs
  refine count_list_strs hl.isList (strs_of rv) ?_
  rw [countIn_strs]
  exact ⟨.int (ys.count k : Nat), H, I.tok _, ⟨_, rfl⟩, q⟩
end
end DD
namespace DD
open PySem PySem.Spec PyProof.Rows L2
/-- if not e: .. -/
theorem if_notN {K : PySem.W.Frag} {σ : L2.St} {H : Hp} {te : TE} {t : TS} {D : Ends} {b : Bool} (m : Nat) (h : Ev K noS none σ H te m (· = .bool b)) (hm : m ≤ most) (qF : b = false → ∀ H1, Same H H1 → t D σ H1) (qT : b = true → ∀ H1, Same H H1 → D.nx σ H1) :
    tIfS (tNot (tB te)) t tNext D σ H := by
  refine ev_no m _ h hm fun H1 v d s1 hd e => ?_
  subst e
  cases hd
  cases b with
  | false => exact ⟨false, rfl, iteT (qF rfl H1 s1)⟩
  | true => exact ⟨true, rfl, iteF (qT rfl H1 s1)⟩
theorem nodup_take {α : Type} {l : List α} {i : Nat} {x : α} (h : l[i]? = some x) : (l.take (i + 1)).Nodup ↔ (l.take i).Nodup ∧ x ∉ l.take i := by
  rw [List.take_add_one, h]
  show (l.take i ++ [x]).Nodup ↔ _
  rw [List.nodup_append]
  constructor
  · rintro ⟨h1, _, h2⟩
    exact ⟨h1, fun hx => h2 x hx x (List.mem_singleton.mpr rfl) rfl⟩
  · rintro ⟨h1, h2⟩
    refine ⟨h1, List.nodup_cons.mpr ⟨List.not_mem_nil, List.nodup_nil⟩, fun y hy z hz e => ?_⟩
    rw [List.mem_singleton.mp hz] at e
    rw [e] at hy
    exact h2 hy
end DD

namespace DD
open PySem PySem.Spec PyProof.Rows L2
/-! ### lists that are made, kept apart, and changed -/
section
variable {K : PySem.W.Frag} {S : Addr → Bool} {a : Option Addr} {σ : L2.St} {H0 : Hp} {te ta tb tn : TE} {tr : TA} {tl th : TO} {m m1 m2 m3 : Nat} {P P1 P2 : PyData → Prop} {R R1 : List PyData → Prop} {p1 p2 : Option Int → Prop}
theorem lc_evF {J : It} {N : Nat} {G : Hp → Prop} {X : Nat → V → Prop} (w : Walk J N G (fun i H x H' => H' = H ∧ X i x)) {g : TG} {vs : List Nat} {slot : Nat} {H1 : Hp} {n : Nat} {P : Nat → PyData → Prop} {Q : VK}
    (hg : g = gName slot) (hw : ∀ x, wipe ((wipe σ vs).set slot (some x)) vs = wipe σ vs) (r : Rn S a n H1) (b : n + N * m ≤ most) (few : N ≤ 100000)
    (hG : ∀ D H', Keeps S H1 H' ∨ Keeps (plusA S D) (upd H1 D (.lst [])) H' → H1 D = none → G H')
    (he : ∀ D, H1 D = none → ∀ i x, i < N → X i x → Ev K (plusA S D) a ((wipe σ vs).set slot (some x)) (upd H1 D (.lst [])) te m (P i))
    (q : ∀ H' D xs ds, H1 D = none → Keeps (one a) H1 H' → Rn (plusA S D) a (n + N * m) H' → H' D = some (.lst xs) → DfAll K (hid (plusA S D) H') xs ds → ds.length = N → (∀ i e, ds[i]? = some e → P i e) → Q (.ref D) H') :
    ∀ D, H1 D = none → ∃ W : Nat → Nat → Hp → Prop, (∃ m, W 0 m (upd H1 D (.lst []))) ∧ ∀ i m H, W i m H →
      (J.stop i H ∧ Q (.ref D) H) ∨ (J.go i H ∧ ∃ Nx : Hp → Prop, (∀ H', Nx H' → ∃ m', m' < m ∧ W (i + 1) m' H') ∧ ∀ x H', J.yld i H x H' → g x (wipe σ vs) H' fun σ2 H2 => wipe σ2 vs = wipe σ vs ∧ tYes σ2 H2 fun b H3 =>
        if b = true then te σ2 H3 fun y H4 => ∃ acc, H4 D = some (.lst acc) ∧ acc.length < sizeLine ∧ Nx (upd H4 D (.lst (acc ++ [y]))) else Nx H3) := by
  intro D hD
  subst hg
  have aD : a ≠ some D := fun z => by
    obtain ⟨_, _, _, e, _⟩ := r.src D z
    rw [hD] at e
    cases e
  have sD : S D = false := r.th.new hD
  have r0 : Rn (plusA S D) a n (upd H1 D (.lst [])) := by
    refine ⟨fun x e => plusA_of (r.sa x e), fun b hb => ?_, fun x e => (r.src x e).at (same_new hD x)⟩
    by_cases e : b = D
    · rw [e, upd_same]
      exact fun z => nomatch z
    · rw [upd_ne e]
      refine r.th b ?_
      unfold plusA at hb
      rw [decide_eq_false e, Bool.or_false] at hb
      exact hb
  refine lc_it w (fun i H => ∃ (xs : List V) (ds : List PyData), H D = some (.lst xs) ∧ DfAll K (hid (plusA S D) H) xs ds ∧ ds.length = i ∧ (∀ j e, ds[j]? = some e → P j e) ∧
      Keeps (fun b => one a b || decide (b = D)) (upd H1 D (.lst [])) H ∧ Rn (plusA S D) a (n + i * m) H) ?_ ?_ ?_ ?_
  · exact ⟨[], [], upd_same, .nil, rfl, fun j e h => by simp at h, Keeps.rfl, by rw [Nat.zero_mul]; exact r0⟩
  · rintro i H hi ⟨xs, ds, e1, e2, e3, e4, kp, rr⟩
    refine hG D H (.inr (Keeps.of fun b o hb e => kp.at ?_ e)) hD
    have z := plusA_back hb
    have na : a ≠ some b := fun y => by rw [r.sa b y] at z; exact nomatch z.1
    show (one a b || decide (b = D)) = false
    rw [one_no na, decide_eq_false z.2]
    rfl
  · rintro i x H H' hi ⟨xs, ds, e1, e2, e3, e4, kp, rr⟩ ⟨rfl, hx⟩
    have kS : Keeps (plusA S D) (upd H1 D (.lst [])) H' := Keeps.of fun b o hb e => kp.at (by
      have z := plusA_back hb
      have na : a ≠ some b := fun y => by rw [r.sa b y] at z; exact nomatch z.1
      show (one a b || decide (b = D)) = false
      rw [one_no na, decide_eq_false z.2]
      rfl) e
    have bound : n + i * m + m ≤ n + N * m := by
      have := Nat.mul_le_mul_right m (show i + 1 ≤ N from hi)
      rw [Nat.succ_mul] at this
      omega
    refine ⟨hw x, ?_⟩
    dsimp only [tYes]
    rw [if_pos rfl]
    refine he D hD i x hi hx H' (n + i * m) _ kS rr (Nat.le_trans bound b) fun H2 v d k2 r2 hd pd => ?_
    have eD : H2 D = some (.lst xs) := k2.at (one_no aD) e1
    have el := DfAll.len e2
    refine ⟨xs, eD, Nat.lt_of_lt_of_le (by omega : xs.length < 1000000) line20, xs ++ [v], ds ++ [d], upd_same, ?_, ?_, ?_, ?_, ?_⟩
    · rw [hid_upd (plusA_self S D)]
      exact DfAll.app (DfAll.keep e2 (keeps_one rr.sa k2)) (.cons hd .nil)
    · rw [List.length_append, e3]
      rfl
    · intro j e hj
      by_cases h : j < ds.length
      · rw [List.getElem?_append_left h] at hj
        exact e4 j e hj
      · rw [List.getElem?_append_right (by omega)] at hj
        have hj0 : j - ds.length = 0 := by
          cases hz : j - ds.length with
          | zero => rfl
          | succ z => rw [hz] at hj; simp at hj
        rw [hj0] at hj
        cases hj
        have : j = i := by omega
        subst this
        exact pd
    · refine Keeps.of fun b o hb e => ?_
      have z := kp.at hb e
      have hb' : one a b = false ∧ decide (b = D) = false := Bool.or_eq_false_iff.mp hb
      rw [upd_ne (of_decide_eq_false hb'.2)]
      exact k2.at hb'.1 z
    · rw [Nat.succ_mul, ← Nat.add_assoc]
      refine ⟨r2.sa, fun b hb => ?_, ?_⟩
      · by_cases e : b = D
        · rw [e, upd_same]
          exact fun z => nomatch z
        · rw [upd_ne e]
          exact r2.th b hb
      · exact fun x hx => (r2.src x hx).at fun o e => by rw [upd_ne (fun y => aD (by rw [hx, y]))]; exact e
  · rintro H ⟨xs, ds, e1, e2, e3, e4, kp, rr⟩
    refine q H D xs ds hD (Keeps.of fun b o hb e => ?_) rr e1 e2 e3 e4
    have nD : b ≠ D := ne_of_none e hD
    refine kp.at ?_ (by rw [upd_ne nD]; exact e)
    show (one a b || decide (b = D)) = false
    rw [hb, decide_eq_false nD]
    rfl
/-- y = [e for x in range(k)]: the new list stands apart -/
theorem ev_setF {u : TS} {E : Ends} {vs : List Nat} {slot N n i : Nat} {H : Hp} {P : Nat → PyData → Prop} (r : Rn S a n H) (b : n + (m1 + N * m) ≤ most) (hn : EvA K S a σ H tr m1 fun l => l = [.int (N : Int)]) (hw : ∀ x, wipe ((wipe σ vs).set slot (some x)) vs = wipe σ vs) (few : N ≤ 100000)
    (he : ∀ D H1, Same (hid S H) (hid (plusA S D) H1) → ∀ i : Nat, i < N → Ev K (plusA S D) a ((wipe σ vs).set slot (some (.int i))) H1 te m (P i))
    (q : ∀ H' D xs ds, H D = none → Keeps (one a) H H' → Rn (plusA S D) a (n + (m1 + N * m)) H' → H' D = some (.lst xs) → DfAll K (hid (plusA S D) H') xs ds → ds.length = N → (∀ i e, ds[i]? = some e → P i e) → u E (σ.set i (some (.ref D))) H') :
    tSeq (tAsg (tLc (iRng1 tr) (gName slot) tYes te vs) (gName i)) u E σ H := by
  show tLc (iRng1 tr) (gName slot) tYes te vs σ H (fun v H' => u E (σ.set i (some v)) H')
  refine hn H n _ Keeps.rfl r (by omega) fun H1 xs ds k1 r1 hd e => ?_
  subst e
  obtain ⟨x, _, rfl, h1, h2⟩ := DfAll.c hd
  obtain rfl := DfAll.n h2
  cases h1
  refine ⟨N, rfl, by omega, by omega, ?_⟩
  rw [Int.toNat_natCast]
  refine lc_evF (K := K) (Q := fun v H' => u E (σ.set i (some v)) H') (S := S) (a := a) (m := m) (n := n + m1) (P := P) (X := fun i x => x = .int (0 + (i : Int))) (walk_range (lo := 0) (n := N)) rfl hw r1 (by omega) few (fun _ _ _ _ => trivial) (fun D hD i x hi hx => ?_) (fun H' D xs ds hD kk rr e1 e2 el hp => q H' D xs ds ?_ (k1.trans kk) (by rw [← Nat.add_assoc]; exact rr) e1 e2 el hp)
  · rw [hx, Int.zero_add]
    exact he D _ (Same.trans (keeps_one r.sa k1) (hid_new hD)) i hi
  · cases hz : H D with
    | none => rfl
    | some o =>
      by_cases ha : one a D = false
      · rw [k1.at ha hz] at hD
        cases hD
      · have : a = some D := by
          by_cases h : a = some D
          · exact h
          · exact absurd (one_no h) ha
        obtain ⟨_, _, _, e, _⟩ := r1.src D this
        rw [hD] at e
        cases e
/-- s[i] of a text -/
theorem ev_ixS (ha : Ev K S a σ H0 ta m1 P1) (hb : Ev K S a σ H0 tb m2 P2) (h : ∀ d e, P1 d → P2 e → ∃ z i c, d = .str z ∧ e = .int i ∧ z.length ≤ 1000000 ∧ atI z.cps.toList i = some c ∧ P (.str ⟨#[c]⟩)) : Ev K S a σ H0 (tOp rIxS ta tb) (m1 + m2) P :=
  ev_op ha hb fun H x y d e Q t hd he q1 q2 q => by
    obtain ⟨z, i, c, rfl, rfl, few, hc, pe⟩ := h d e q1 q2
    cases hd
    cases he
    exact ⟨z, i, c, rfl, rfl, Nat.le_trans few line20, hc, q H _ _ (Same.refl H) (.str _) pe⟩
theorem ev_eqIx {q1 q2 : Int → Prop} (ha : Ev K S a σ H0 ta m1 fun d => ∃ i, d = .int i ∧ q1 i) (hb : Ev K S a σ H0 tb m2 fun d => ∃ i, d = .int i ∧ q2 i) (p : ∀ i j, q1 i → q2 j → P (.bool (decide (i = j)))) : Ev K S a σ H0 (tOp rEq ta tb) (m1 + m2) P :=
  ev_op ha hb fun H x y d e Q t hd he ⟨i, e1, h1⟩ ⟨j, e2, h2⟩ q => by
    subst e1 e2
    cases hd
    cases he
    refine ⟨rfl, ?_⟩
    have e : decide (V.int i = V.int j) = decide (i = j) := by rw [decide_eq_decide]; exact ⟨fun z => V.int.inj z, fun z => by rw [z]⟩
    rw [e]
    exact q H _ _ (Same.refl H) (.bl _) (p i j h1 h2)
theorem dp_strs {H : Hp} : ∀ {bs : List Str} {vs : List V}, DfAll K H vs (bs.map PyData.str) → vs = bs.map V.str
  | [], vs, h => DfAll.n h
  | b :: bs, vs, h => by
    obtain ⟨x, ws, rfl, h1, h2⟩ := DfAll.c h
    cases h1
    rw [dp_strs h2]
    rfl
/-- names.count(name) -/
theorem ev_cntS {ys : List Str} (ha : Ev K S a σ H0 ta m1 (· = .list (ys.map PyData.str))) (hb : EvA K S a σ H0 tr m2 R) (h : ∀ ds, R ds → ∃ k : Str, ds = [.str k] ∧ P (.int (ys.count k : Nat))) : Ev K S a σ H0 (tBM K "list" (rCntS K) ta tr) (m1 + m2) P := by
  intro H n Q k r b q
  refine ha H n _ k r (by omega) fun H1 x d k1 r1 hd q1 => ?_
  subst q1
  obtain ⟨y, vs, rfl, hL, hv⟩ := Df.lst_inv hd
  obtain rfl := dp_strs hv
  refine ⟨.inl ⟨rfl, _, Same.seq hid_same hL⟩, ?_⟩
  refine hb H1 (n + m1) _ (k.trans (keeps_one r.sa k1)) r1 (by omega) fun H2 xs ds k2 r2 hd2 q2 => ?_
  obtain ⟨k, rfl, pk⟩ := h ds q2
  obtain ⟨x, _, rfl, h1, h2⟩ := DfAll.c hd2
  obtain rfl := DfAll.n h2
  cases h1
  refine ⟨y, ys, k, rfl, rfl, Same.seq (Same.trans (keeps_one r.sa k2) hid_same) hL, q H2 _ _ (k1.trans k2) (by rw [← Nat.add_assoc]; exact r2) (.int _) pk⟩
/-- tuple(l) -/
theorem ev_tupL (h : EvA K S a σ H0 tr m R) (p : ∀ ds, R ds → ∃ es, ds = [.list es] ∧ P (.tuple es)) : Ev K S a σ H0 (tCB (rTupQ K) tr) m P :=
  ev_cb h fun H xs ds Q t hd pd q => by
    obtain ⟨es, rfl, pe⟩ := p ds pd
    obtain ⟨x, _, rfl, h1, h2⟩ := DfAll.c hd
    obtain rfl := DfAll.n h2
    obtain ⟨b, vs, rfl, hL, hv⟩ := Df.lst_inv h1
    exact ⟨b, vs, rfl, .inl ⟨Same.seq hid_same hL, fun l o nl ho => q _ _ _ (same_new nl) (Df.newT hv nl (t.new nl) ho) pe⟩⟩
/-- l[i:j] -/
theorem ev_cutL (h : Ev K S a σ H0 te m1 P1) (hl : EvO K S a σ H0 tl m2 p1) (hh : EvO K S a σ H0 th m3 p2) (p : ∀ d lo hi, P1 d → p1 lo → p2 hi → ∃ ds, d = .list ds ∧ P (.list (cutD ds lo hi))) :
    Ev K S a σ H0 (tSl (rSlL K) te tl th) (m1 + m2 + m3) P := by
  intro H n Q k r b q
  refine h H n _ k r (by omega) fun H1 x d k1 r1 hd q1 => ?_
  refine hl H1 (n + m1) _ (k.trans (keeps_one r.sa k1)) r1 (by omega) fun H2 lo k2 r2 q2 => ?_
  refine hh H2 (n + m1 + m2) _ ((k.trans (keeps_one r.sa k1)).trans (keeps_one r.sa k2)) r2 (by omega) fun H3 hi k3 r3 q3 => ?_
  obtain ⟨ds, rfl, pd⟩ := p d lo hi q1 q2 q3
  have hd3 := Df.keep hd ((keeps_one r.sa k2).trans (keeps_one r.sa k3))
  obtain ⟨y, vs, rfl, hT, hv⟩ := Df.lst_inv hd3
  have el := DfAll.len hv
  have r4 : Rn S a (n + (m1 + m2 + m3)) H3 := by
    rw [show n + (m1 + m2 + m3) = n + m1 + m2 + m3 by omega]
    exact r3
  refine ⟨y, vs, rfl, Same.seq hid_same hT, fun z nz => ?_⟩
  have e : DfAll K (hid S H3) (cutV vs lo hi) (cutD ds lo hi) := by
    unfold cutV cutD
    rw [el]
    exact DfAll.take _ (DfAll.drop _ hv)
  exact q _ _ _ ((k1.trans (k2.trans k3)).trans (Keeps.new nz)) (r4.same (same_new nz)) (Df.newL e nz (r4.th.new nz)) pd
theorem nodup_cnt (l : List Str) : l.all (fun x => decide (((l.count x : Nat) : Int) = 1)) = decide l.Nodup := by
  rw [Bool.eq_iff_iff, List.all_eq_true, decide_eq_true_iff, List.nodup_iff_count]
  constructor
  · intro h x
    by_cases hx : x ∈ l
    · have := of_decide_eq_true (h x hx)
      omega
    · rw [List.count_eq_zero.mpr hx]
      exact Nat.zero_le _
  · intro h x hx
    have h1 := List.count_pos_iff.mpr hx
    have h2 := h x
    exact decide_eq_true (by omega)
theorem if_ev {t u : TS} {D : Ends} {n : Nat} {H : Hp} (r : Rn S a n H) (b : n + m ≤ most) (h : Ev K S a σ H te m (fun d => ∃ b, d = .bool b)) (q : ∀ (b : Bool) H1, Keeps (one a) H H1 → Rn S a (n + m) H1 → if b = true then t D σ H1 else u D σ H1) : tIfS (tTest te) t u D σ H := by
  refine ev_go r b h fun H1 v d k1 r1 hd ⟨c, e⟩ => ?_
  subst e
  cases hd
  exact ⟨c, rfl, q c H1 k1 r1⟩
theorem wtAll_cap {c : Nat} : ∀ {ds : List PyData}, (∀ e ∈ ds, wt e ≤ c) → wtAll ds ≤ ds.length * (c + 4)
  | [], _ => by rw [List.length_nil, Nat.zero_mul]; exact Nat.le_refl 0
  | x :: xs, h => by
    have h1 := h x (List.mem_cons_self ..)
    have h2 := wtAll_cap fun e he => h e (List.mem_cons_of_mem _ he)
    show wt x + 4 + wtAll xs ≤ (xs.length + 1) * (c + 4)
    rw [Nat.succ_mul]
    omega
theorem mem_cutD {ds : List PyData} {lo hi : Option Int} {e : PyData} (h : e ∈ cutD ds lo hi) : e ∈ ds := List.mem_of_mem_drop (List.mem_of_mem_take h)
theorem len_cutD (ds : List PyData) (lo hi : Option Int) : (cutD ds lo hi).length ≤ ds.length := by
  unfold cutD
  rw [List.length_take, List.length_drop]
  omega
theorem DfAll.set {H : Hp} {v : V} {d : PyData} (hd : Df K H v d) : ∀ {vs : List V} {ds : List PyData} (j : Nat), DfAll K H vs ds → DfAll K H (vs.set j v) (ds.set j d)
  | [], ds, j, h => by cases h; exact .nil
  | w :: vs, ds, j, h => by
    cases h with
    | cons h1 h2 =>
      cases j with
      | zero => exact .cons hd h2
      | succ j => exact .cons h1 (DfAll.set hd j h2)
end
theorem sl_listK {X : Cx} {K : PySem.W.Frag} (h : X.K = K) : SlR X (rSlL K) := h ▸ sl_list
theorem call_tupK {X : Cx} {K : PySem.W.Frag} (h : X.K = K) : CallR X (.type "tuple") (rTupQ K) := call_tupF h
end DD

namespace DD
open PySem PySem.Spec PyProof.Rows L2
/-! ### a text of letters; two names at once; lists that are filled and emptied -/
theorem join_codes : ∀ cs : List Nat, (PySem.Str.join "" (cs.map fun c => (⟨#[c]⟩ : Str))).cps.toList = cs
  | [] => rfl
  | [c] => rfl
  | c :: d :: r => by
    have ih := join_codes (d :: r)
    show ((⟨#[c]⟩ : Str) ++ "" ++ PySem.Str.join "" ((d :: r).map fun c => (⟨#[c]⟩ : Str))).cps.toList = _
    generalize PySem.Str.join "" ((d :: r).map fun c => (⟨#[c]⟩ : Str)) = z at ih
    show ((#[c] ++ (Str.ofString "").cps) ++ z.cps).toList = _
    rw [Array.toList_append, Array.toList_append, ih]
    rfl
section
variable {K : PySem.W.Frag} {S : Addr → Bool} {a : Option Addr} {σ : L2.St} {H0 : Hp} {te ta tb tn : TE} {tr : TA} {m m1 m2 m3 : Nat} {P P1 P2 : PyData → Prop} {R R1 : List PyData → Prop}
def rJoinQ (K : PySem.W.Frag) : V → List V → Hp → VK → Prop := fun x xs H Q => ∃ a p, ∃ ys : List Str, x = .str a ∧ xs = [.ref p] ∧ (SqL K H p (ys.map V.str) ∨ SqT K H p (ys.map V.str)) ∧ (ys.map (·.length)).sum + ys.length * a.length ≤ 16777216 ∧ Q (.str (Txt.join a ys)) H
theorem sum_ones : ∀ cs : List Nat, ((cs.map fun c => (⟨#[c]⟩ : Str)).map (·.length)).sum = cs.length
  | [] => rfl
  | c :: r => by
    show 1 + ((r.map fun c => (⟨#[c]⟩ : Str)).map (·.length)).sum = _
    rw [sum_ones r, List.length_cons]
    omega
/-- ''.join(letters) -/
theorem ev_join (hb : Ev K S a σ H0 te m P2) (h : ∀ d, P2 d → ∃ cs : List Nat, d = .list ((cs.map fun c => (⟨#[c]⟩ : Str)).map PyData.str) ∧ cs.length ≤ 1000 ∧ ∀ s : Str, s.cps.toList = cs → P (.str s)) : Ev K S a σ H0 (tM1 (rJoinQ K) (tC (.str "")) te) m P := by
  intro H n Q k r b q
  refine ⟨⟨_, rfl⟩, hb H n _ k r b fun H1 x d k1 r1 hd q1 => ?_⟩
  obtain ⟨cs, rfl, few, pe⟩ := h d q1
  obtain ⟨y, vs, rfl, hL, hv⟩ := Df.lst_inv hd
  obtain rfl := dp_strs hv
  refine ⟨_, y, _, rfl, rfl, .inl (Same.seq hid_same hL), ?_, ?_⟩
  · rw [sum_ones, List.length_map]
    show cs.length + cs.length * 0 ≤ 16777216
    omega
  · exact q H1 _ _ k1 r1 (.str _) (pe _ (by
      show (PySem.Builtin.Str.glued _ _).cps.toList = _
      rw [StrLaws.glued_eq_join]
      exact join_codes cs))
/-- x, y = e -/
theorem ev_set2 {u : TS} {D : Ends} {n i j : Nat} {H : Hp} (R : PyData → PyData → Prop) (m : Nat) (r : Rn S a n H) (b : n + m ≤ most) (h : Ev K S a σ H te m fun d => ∃ x y, d = .tuple [x, y] ∧ R x y)
    (q : ∀ H' v w x y, Keeps (one a) H H' → Rn S a (n + m) H' → Df K (hid S H') v x → Df K (hid S H') w y → R x y → u D ((σ.set i (some v)).set j (some w)) H') : tSeq (tAsg te (gTup K 2 (gCons (gName i) (gCons (gName j) gNil)))) u D σ H := by
  refine ev_go (K := K) (Q := fun v H' => gTup K 2 (gCons (gName i) (gCons (gName j) gNil)) v σ H' fun σ' H'' => u D σ' H'') r b h fun H1 v d k1 r1 hd ⟨x, y, e, hr⟩ => ?_
  subst e
  obtain ⟨p, vs, rfl, hT, hv⟩ := Df.tup_inv hd
  obtain ⟨v1, v2, rfl, p1, p2⟩ := DfAll.two hv
  exact ⟨p, _, rfl, seqT_mono hid_same hT, rfl, v1, [v2], rfl, v2, [], rfl, rfl, q H1 v1 v2 x y k1 r1 p1 p2 hr⟩
/-- x, y, z = e -/
theorem ev_set3 {u : TS} {D : Ends} {n i j l : Nat} {H : Hp} (R : PyData → PyData → PyData → Prop) (m : Nat) (r : Rn S a n H) (b : n + m ≤ most) (h : Ev K S a σ H te m fun d => ∃ x y z, d = .tuple [x, y, z] ∧ R x y z)
    (q : ∀ H' v w t x y z, Keeps (one a) H H' → Rn S a (n + m) H' → Df K (hid S H') v x → Df K (hid S H') w y → Df K (hid S H') t z → R x y z → u D (((σ.set i (some v)).set j (some w)).set l (some t)) H') : tSeq (tAsg te (gTup K 3 (gCons (gName i) (gCons (gName j) (gCons (gName l) gNil))))) u D σ H := by
  refine ev_go (K := K) (Q := fun v H' => gTup K 3 (gCons (gName i) (gCons (gName j) (gCons (gName l) gNil))) v σ H' fun σ' H'' => u D σ' H'') r b h fun H1 v d k1 r1 hd ⟨x, y, z, e, hr⟩ => ?_
  subst e
  obtain ⟨p, vs, rfl, hT, hv⟩ := Df.tup_inv hd
  obtain ⟨v1, v2, v3, rfl, p1, p2, p3⟩ := DfAll.three hv
  exact ⟨p, _, rfl, seqT_mono hid_same hT, rfl, v1, [v2, v3], rfl, v2, [v3], rfl, v3, [], rfl, rfl, q H1 v1 v2 v3 x y z k1 r1 p1 p2 p3 hr⟩
theorem no_a {n : Nat} {H : Hp} {D : Addr} (r : Rn S a n H) (hD : H D = none) : a ≠ some D := fun z => by
  obtain ⟨_, _, _, e, _⟩ := r.src D z
  rw [hD] at e
  cases e
theorem rn_upd {n : Nat} {H : Hp} {D : Addr} {o : HO} (r : Rn S a n H) (aD : a ≠ some D) : Rn S a n (upd H D o) := by
  refine ⟨r.sa, fun b hb => ?_, fun x hx => (r.src x hx).at fun o e => by rw [upd_ne (fun y => aD (by rw [hx, y]))]; exact e⟩
  by_cases e : b = D
  · rw [e, upd_same]
    exact fun z => nomatch z
  · rw [upd_ne e]
    exact r.th b hb
theorem rn_in {n : Nat} {H : Hp} {D : Addr} {o : HO} (r : Rn S a n H) (hD : H D = none) : Rn (plusA S D) a n (upd H D o) := by
  have r1 := rn_upd (o := o) r (no_a r hD)
  refine ⟨fun x e => plusA_of (r.sa x e), fun b hb => ?_, r1.src⟩
  by_cases e : b = D
  · rw [e, upd_same]
    exact fun z => nomatch z
  · refine r1.th b ?_
    unfold plusA at hb
    rw [decide_eq_false e, Bool.or_false] at hb
    exact hb
theorem rn_out {n n0 : Nat} {H Hz : Hp} {D : Addr} (r0 : Rn S a n0 Hz) (r : Rn (plusA S D) a n H) : Rn S a n H := ⟨r0.sa, fun b hb => r.th b (plusA_of hb), r.src⟩
theorem keeps_upd {H H' : Hp} {D : Addr} {o : HO} {U : Addr → Bool} (k : Keeps U H H') (hD : H D = none) : Keeps U H (upd H' D o) := Keeps.of fun b x hb e => by
  have z := k.at hb e
  rw [upd_ne (ne_of_none e hD)]
  exact z
theorem same_plus {H H' : Hp} {D : Addr} (k : Keeps S H H') (hD : H D = none) : Same (hid S H) (hid (plusA S D) H') := fun b o e => by
  obtain ⟨hS, e'⟩ := hid_some e
  have hb : b ≠ D := ne_of_none e' hD
  rw [hid_at (plusA_no hS hb)]
  exact k.at hS e'
theorem pop_perm {α : Type} : ∀ (l : List α) (i : Nat) (x : α), l[i]? = some x → (x :: l.eraseIdx i).Perm l
  | [], i, x, h => by simp at h
  | y :: ys, 0, x, h => by
    cases h
    exact List.Perm.refl _
  | y :: ys, i + 1, x, h => (List.Perm.swap y x _).trans ((pop_perm ys i x h).cons y)
theorem dp_ofStrs {H : Hp} : ∀ {bs : List Str}, DfAll K H (bs.map V.str) (bs.map PyData.str)
  | [] => .nil
  | b :: bs => .cons (.str b) dp_ofStrs
theorem ev_goA {Q : List V → Hp → Prop} {n : Nat} {H : Hp} (r : Rn S a n H) (b : n + m ≤ most) (h : EvA K S a σ H tr m R) (q : ∀ H' vs ds, Keeps (one a) H H' → Rn S a (n + m) H' → DfAll K (hid S H') vs ds → R ds → Q vs H') : tr σ H Q := h H n Q Keeps.rfl r b q
/-- for x in range(e): .. -/
theorem ev_forR {tb : TS} {D : Ends} {n i : Nat} {H : Hp} (Pc : Int → Prop) (m : Nat) (r : Rn S a n H) (b : n + m ≤ most) (h : Ev K S a σ H te m fun d => ∃ c : Int, d = .int c ∧ Pc c ∧ 0 ≤ c ∧ c ≤ 100000)
    (q : ∀ (c : Nat) H1, Pc c → Keeps (one a) H H1 → Rn S a (n + m) H1 → ∃ Pv : Nat → L2.St → Hp → Prop, Pv 0 σ H1 ∧ (∀ j σ' H', j < c → Pv j σ' H' → tb { D with nx := Pv (j + 1), ct := Pv (j + 1), bk := D.nx } (σ'.set i (some (.int (0 + (j : Int))))) H') ∧ ∀ σ' H', Pv c σ' H' → D.nx σ' H') :
    tFor (iRng1 (tCons te tNil)) (gName i) tb D σ H := by
  show te σ H _
  refine ev_go r b h fun H1 v d k1 r1 hd ⟨c, e, pc, c0, c1⟩ => ?_
  subst e
  cases hd
  obtain ⟨N, rfl⟩ : ∃ N : Nat, c = N := ⟨c.toNat, by omega⟩
  obtain ⟨Pv, h0, hs, he⟩ := q N H1 pc k1 r1
  refine ⟨N, rfl, by omega, by omega, ?_⟩
  rw [Int.toNat_natCast]
  exact for_range Pv h0 hs he
/-- l.append(e): l a list that stands apart -/
theorem ev_append {D : Ends} {n i : Nat} {H : Hp} {L : Addr} {xs : List V} (hs : σ[i]? = some (some (.ref L))) (eL : H L = some (.lst xs)) (aL : a ≠ some L) (few : xs.length ≤ 100000) (m : Nat) (r : Rn S a n H) (b : n + m ≤ most) (h : Ev K S a σ H te m P)
    (q : ∀ H' v d, Keeps (one a) H H' → Rn S a (n + m) (upd H' L (.lst (xs ++ [v]))) → H' L = some (.lst xs) → Df K (hid S H') v d → P d → D.nx σ (upd H' L (.lst (xs ++ [v])))) :
    tDrop (tBM K "list" rAppend (tVar i) (tCons te tNil)) D σ H := by
  refine ⟨.ref L, hs, .inl ⟨rfl, _, SqL.of eL⟩, ?_⟩
  show te σ H _
  refine ev_go r b h fun H1 v d k1 r1 hd p => ?_
  have e1 : H1 L = some (.lst xs) := k1.at (one_no aL) eL
  exact ⟨L, xs, v, rfl, rfl, e1, Nat.lt_of_lt_of_le (by omega : xs.length < 1000000) line20, q H1 v d k1 (rn_upd r1 aL) e1 hd p⟩
end
end DD

namespace DD
open PySem PySem.Spec PyProof.Rows L2
/-! ### for x, y in pairs -/
section
variable {K : PySem.W.Frag} {S : Addr → Bool} {a : Option Addr} {σ : L2.St} {H0 : Hp} {te ta tb tn : TE} {tr : TA} {m m1 m2 : Nat} {P1 P2 : PyData → Prop} {R R1 : List PyData → Prop}
theorem lc_evP {J : It} {N : Nat} {G : Hp → Prop} {X : Nat → V → Prop} (w : Walk J N G (fun i H x H' => H' = H ∧ X i x)) {g : TG} {vs : List Nat} {si sj : Nat} {H1 : Hp} {n : Nat} {P : Nat → PyData → Prop} {Q : VK}
    (hg : g = gTup K 2 (gCons (gName si) (gCons (gName sj) gNil))) (hw : ∀ x y, wipe (((wipe σ vs).set si (some x)).set sj (some y)) vs = wipe σ vs) (r : Rn S a n H1) (b : n + N * m ≤ most) (few : N ≤ 100000)
    (hG : ∀ D H', Keeps S H1 H' ∨ Keeps (plusA S D) (upd H1 D (.lst [])) H' → H1 D = none → G H')
    (he : ∀ D, H1 D = none → ∀ i x, i < N → X i x → ∃ p v1 v2, x = .ref p ∧ SqT K (hid (plusA S D) (upd H1 D (.lst []))) p [v1, v2] ∧ Ev K (plusA S D) a (((wipe σ vs).set si (some v1)).set sj (some v2)) (upd H1 D (.lst [])) te m (P i))
    (q : ∀ H' D ds, Keeps (one a) H1 H' → Rn S a (n + N * m) H' → Df K (hid S H') (.ref D) (.list ds) → ds.length = N → (∀ i e, ds[i]? = some e → P i e) → Q (.ref D) H') :
    ∀ D, H1 D = none → ∃ W : Nat → Nat → Hp → Prop, (∃ m, W 0 m (upd H1 D (.lst []))) ∧ ∀ i m H, W i m H →
      (J.stop i H ∧ Q (.ref D) H) ∨ (J.go i H ∧ ∃ Nx : Hp → Prop, (∀ H', Nx H' → ∃ m', m' < m ∧ W (i + 1) m' H') ∧ ∀ x H', J.yld i H x H' → g x (wipe σ vs) H' fun σ2 H2 => wipe σ2 vs = wipe σ vs ∧ tYes σ2 H2 fun b H3 =>
        if b = true then te σ2 H3 fun y H4 => ∃ acc, H4 D = some (.lst acc) ∧ acc.length < sizeLine ∧ Nx (upd H4 D (.lst (acc ++ [y]))) else Nx H3) := by
  intro D hD
  subst hg
  have aD : a ≠ some D := fun z => by
    obtain ⟨_, _, _, e, _⟩ := r.src D z
    rw [hD] at e
    cases e
  have sD : S D = false := r.th.new hD
  have r0 : Rn (plusA S D) a n (upd H1 D (.lst [])) := by
    refine ⟨fun x e => plusA_of (r.sa x e), fun b hb => ?_, fun x e => (r.src x e).at (same_new hD x)⟩
    by_cases e : b = D
    · rw [e, upd_same]
      exact fun z => nomatch z
    · rw [upd_ne e]
      refine r.th b ?_
      unfold plusA at hb
      rw [decide_eq_false e, Bool.or_false] at hb
      exact hb
  refine lc_it w (fun i H => ∃ (xs : List V) (ds : List PyData), H D = some (.lst xs) ∧ DfAll K (hid (plusA S D) H) xs ds ∧ ds.length = i ∧ (∀ j e, ds[j]? = some e → P j e) ∧
      Keeps (fun b => one a b || decide (b = D)) (upd H1 D (.lst [])) H ∧ Rn (plusA S D) a (n + i * m) H) ?_ ?_ ?_ ?_
  · exact ⟨[], [], upd_same, .nil, rfl, fun j e h => by simp at h, Keeps.rfl, by rw [Nat.zero_mul]; exact r0⟩
  · rintro i H hi ⟨xs, ds, e1, e2, e3, e4, kp, rr⟩
    refine hG D H (.inr (Keeps.of fun b o hb e => kp.at ?_ e)) hD
    have z := plusA_back hb
    have na : a ≠ some b := fun y => by rw [r.sa b y] at z; exact nomatch z.1
    show (one a b || decide (b = D)) = false
    rw [one_no na, decide_eq_false z.2]
    rfl
  · rintro i x H H' hi ⟨xs, ds, e1, e2, e3, e4, kp, rr⟩ ⟨rfl, hx⟩
    have kS : Keeps (plusA S D) (upd H1 D (.lst [])) H' := Keeps.of fun b o hb e => kp.at (by
      have z := plusA_back hb
      have na : a ≠ some b := fun y => by rw [r.sa b y] at z; exact nomatch z.1
      show (one a b || decide (b = D)) = false
      rw [one_no na, decide_eq_false z.2]
      rfl) e
    have bound : n + i * m + m ≤ n + N * m := by
      have := Nat.mul_le_mul_right m (show i + 1 ≤ N from hi)
      rw [Nat.succ_mul] at this
      omega
    obtain ⟨p, v1, v2, rfl, hT, he'⟩ := he D hD i x hi hx
    refine ⟨p, _, rfl, seqT_mono (Same.trans kS hid_same) hT, rfl, v1, [v2], rfl, v2, [], rfl, rfl, hw v1 v2, ?_⟩
    dsimp only [tYes]
    rw [if_pos rfl]
    refine he' H' (n + i * m) _ kS rr (Nat.le_trans bound b) fun H2 v d k2 r2 hd pd => ?_
    have eD : H2 D = some (.lst xs) := k2.at (one_no aD) e1
    have el := DfAll.len e2
    refine ⟨xs, eD, Nat.lt_of_lt_of_le (by omega : xs.length < 1000000) line20, xs ++ [v], ds ++ [d], upd_same, ?_, ?_, ?_, ?_, ?_⟩
    · rw [hid_upd (plusA_self S D)]
      exact DfAll.app (DfAll.keep e2 (keeps_one rr.sa k2)) (.cons hd .nil)
    · rw [List.length_append, e3]
      rfl
    · intro j e hj
      by_cases h : j < ds.length
      · rw [List.getElem?_append_left h] at hj
        exact e4 j e hj
      · rw [List.getElem?_append_right (by omega)] at hj
        have hj0 : j - ds.length = 0 := by
          cases hz : j - ds.length with
          | zero => rfl
          | succ z => rw [hz] at hj; simp at hj
        rw [hj0] at hj
        cases hj
        have : j = i := by omega
        subst this
        exact pd
    · refine Keeps.of fun b o hb e => ?_
      have z := kp.at hb e
      have hb' : one a b = false ∧ decide (b = D) = false := Bool.or_eq_false_iff.mp hb
      rw [upd_ne (of_decide_eq_false hb'.2)]
      exact k2.at hb'.1 z
    · rw [Nat.succ_mul, ← Nat.add_assoc]
      refine ⟨r2.sa, fun b hb => ?_, ?_⟩
      · by_cases e : b = D
        · rw [e, upd_same]
          exact fun z => nomatch z
        · rw [upd_ne e]
          exact r2.th b hb
      · exact fun x hx => (r2.src x hx).at fun o e => by rw [upd_ne (fun y => aD (by rw [hx, y]))]; exact e
  · rintro H ⟨xs, ds, e1, e2, e3, e4, kp, rr⟩
    refine q H D ds (Keeps.of fun b o hb e => ?_) ⟨r.sa, fun b hb => rr.th b (plusA_of hb), rr.src⟩ ?_ e3 e4
    · have nD : b ≠ D := ne_of_none e hD
      refine kp.at ?_ (by rw [upd_ne nD]; exact e)
      show (one a b || decide (b = D)) = false
      rw [hb, decide_eq_false nD]
      rfl
    · exact .lst (.inl (.inl (by rw [hid_at sD]; exact e1))) (DfAll.to e2 hid_plus)
theorem ev_lcTP {vs : List Nat} {si sj : Nat} {es : List PyData} {P : Nat → PyData → Prop} {Z : PyData → Prop} (hn : Ev K S a σ H0 tn m1 (· = .tuple es)) (hw : ∀ x y, wipe (((wipe σ vs).set si (some x)).set sj (some y)) vs = wipe σ vs) (few : es.length ≤ 100000) (hes : ∀ e ∈ es, ∃ p q, e = .tuple [p, q])
    (he : ∀ D H1, Same (hid S H0) (hid (plusA S D) H1) → ∀ (i : Nat) (x y : V) (p q : PyData), es[i]? = some (.tuple [p, q]) → Df K (hid (plusA S D) H1) x p → Df K (hid (plusA S D) H1) y q → Ev K (plusA S D) a (((wipe σ vs).set si (some x)).set sj (some y)) H1 te m (P i)) (hz : ∀ ds, ds.length = es.length → (∀ i e, ds[i]? = some e → P i e) → Z (.list ds)) :
    Ev K S a σ H0 (tLc (iTup K tn) (gTup K 2 (gCons (gName si) (gCons (gName sj) gNil))) tYes te vs) (m1 + es.length * m) Z := by
  intro H n Q k r b q
  refine hn H n _ k r (by omega) fun H1 x d k1 r1 hd e => ?_
  subst e
  obtain ⟨L, xs, rfl, hL, hxs⟩ := Df.tup_inv hd
  have el := DfAll.len hxs
  refine ⟨L, rfl, ⟨xs, seqT_mono hid_same hL⟩, ?_⟩
  rw [← el] at b few hz q
  refine lc_evP (K := K) (S := S) (a := a) (m := m) (n := n + m1) (P := P) (X := fun i x => xs[i]? = some x) (walk_tup (K := K) (a := L) (xs := xs)) rfl hw r1 (by omega) few (fun D H' kk hD => sqT_keep hL hD kk) (fun D hD i x hi hx => ?_) (fun H' D ds kk rr hd el hp => q H' _ _ (k1.trans kk) (by rw [← Nat.add_assoc]; exact rr) hd (hz ds el hp))
  obtain ⟨e, he1, he2⟩ := DfAll.get hxs hx
  obtain ⟨p, q, rfl⟩ := hes e (List.mem_of_getElem? he1)
  obtain ⟨b, ws, rfl, hT, hws⟩ := Df.tup_inv (Df.to he2 (hid_new (o := .lst []) hD))
  obtain ⟨v1, v2, rfl, p1, p2⟩ := DfAll.two hws
  exact ⟨b, v1, v2, rfl, hT, he D _ (Same.trans (k.trans (keeps_one r.sa k1)) (hid_new hD)) i v1 v2 p q he1 p1 p2⟩
/-- x and y, of truth values -/
theorem ev_and {x y : Bool} {P : PyData → Prop} (h1 : Ev K S a σ H0 ta m1 (· = .bool x)) (h2 : Ev K S a σ H0 tb m2 (· = .bool y)) (p : P (.bool (x && y))) : Ev K S a σ H0 (tAndV ta tb) (m1 + m2) P := by
  intro H n Q k r b q
  refine h1 H n _ k r (by omega) fun H1 v d k1 r1 hd e => ?_
  subst e
  cases hd
  cases x with
  | true =>
    refine ⟨true, rfl, iteT ?_⟩
    refine h2 H1 (n + m1) _ (k.trans (keeps_one r.sa k1)) r1 (by omega) fun H2 v d k2 r2 hd e => ?_
    subst e
    exact q H2 v _ (k1.trans k2) (by rw [← Nat.add_assoc]; exact r2) hd p
  | false => exact ⟨false, rfl, iteF (q H1 _ _ k1 (r1.up (by omega)) (.bl false) p)⟩
theorem ev_eqS {P : PyData → Prop} {x y : Str} (ha : Ev K S a σ H0 ta m1 (· = .str x)) (hb : Ev K S a σ H0 tb m2 (· = .str y)) (p : P (.bool (decide (x = y)))) : Ev K S a σ H0 (tOp rEq ta tb) (m1 + m2) P :=
  ev_op ha hb fun H v w d e Q t hd he e1 e2 q => by
    subst e1 e2
    cases hd
    cases he
    refine ⟨rfl, ?_⟩
    have e : decide (V.str x = V.str y) = decide (x = y) := by rw [decide_eq_decide]; exact ⟨fun z => V.str.inj z, fun z => by rw [z]⟩
    rw [e]
    exact q H _ _ (Same.refl H) (.bl _) p
theorem ev_leI {P : PyData → Prop} {x y : Int} (ha : Ev K S a σ H0 ta m1 (· = .int x)) (hb : Ev K S a σ H0 tb m2 (· = .int y)) (p : P (.bool (decide (x ≤ y)))) : Ev K S a σ H0 (tOp (rI0 fun i j => .bl (decide (i ≤ j))) ta tb) (m1 + m2) P :=
  ev_op ha hb fun H v w d e Q t hd he e1 e2 q => by
    subst e1 e2
    cases hd
    cases he
    exact ⟨x, y, rfl, rfl, q H _ _ (Same.refl H) (.bl _) p⟩
end
end DD

namespace DD
open PySem PySem.Spec PyProof.Rows L2
/-! ### a, b, c, *rest = a tuple -/
section
variable {prog : Program} {w : World} {A : Around} {E : Value → Shared → Prop} {s : Shared}
theorem star_items {l : Addr} {items : Array Value} {i : Nat} {Q : List Value → Shared → Prop} (hl : IsTup s.heap l items) (hh : A.handled = none) (hi : i ≤ items.size) (hz : items.size ≤ sizeLine)
    (h : ∀ h' tk, Heap.ExtBut s.heap.objs.size s.heap h' → Q (items.toList.take i ++ [.ref h'.objs.size]) { s with heap := h'.push { cls := .type "list", data := .seq (items.toList.drop i).toArray }, toks := tk }) : wpAny (model prog w) A (unpackItems (.ref l) (i + 1) (some i)) Q E s := by
  have hlt : l ≠ s.heap.objs.size := by obtain ⟨o, ho, _⟩ := hl; exact Nat.ne_of_lt (Heap.lt_size ho)
  unfold unpackItems
  refine wpAny_bind ?_
  unfold notIterableAtAll
  refine wpAny_bind (wpAny_specialOf hl.typeIs slot_tuple_iter.lookup ?_)
  refine wpAny_pure ?_
  simp only [Bool.false_eq_true, if_false]
  refine wpAny_bind (wpAny_holding (iter_tuple hl ?_))
  refine wpAny_bind (wpAny_holding (draw_tuple hlt i 0 _ _ ⟨_, Heap.get?_push_size _ rfl, rfl, rfl⟩ (hl.push _) (by omega) fun h₁ hit₁ hs₁ => ?_))
  have hl₁ : IsTup h₁ l items := (hl.push _).extBut hs₁.extBut hlt
  rw [Nat.zero_add] at hit₁
  have hit₁' := hit₁
  obtain ⟨oi, hoi, _⟩ := hit₁'
  have hl₁' := hl₁
  obtain ⟨ol, hol, _⟩ := hl₁'
  rw [List.drop_zero]
  have hfl : (items.toList.take i).length = i := by rw [List.length_take, Array.length_toList]; omega
  rw [if_neg (show ¬ ((items.toList.take i).length < i) by rw [hfl]; omega)]
  refine wpAny_bind (wpAny_holding (PySem.W.kun_collect (s := { s with heap := h₁ }) (T := "tuple_iterator") (.inr (.inr (.inr rfl))) (Walks.tuple (A := A.in1) hh s.heap.objs.size l hlt items) (fun j u st => st.1.typeIs) (k := i) (by omega) ⟨hit₁, hl₁⟩ (Heap.lt_size hoi) (Heap.lt_size hol) (fun h₂ tk hk => ?_) hz))
  have hrl : (items.toList.drop i).length = items.size - i := by rw [List.length_drop, Array.length_toList]
  have hmid : (items.toList.drop i).length - (i + 1 - 1 - i) = (items.toList.drop i).length := by omega
  show wpAny _ _ (if (items.toList.drop i).length < i + 1 - 1 - i then _ else _) _ _ _
  rw [if_neg (by omega)]
  show wpAny _ _ (newList ((items.toList.drop i).take ((items.toList.drop i).length - (i + 1 - 1 - i))) >>= fun d => pure (items.toList.take i ++ [d] ++ (items.toList.drop i).drop ((items.toList.drop i).length - (i + 1 - 1 - i)))) _ _ _
  rw [hmid, List.take_length, List.drop_length]
  have he : Heap.ExtBut s.heap.objs.size s.heap h₂ := fun b o hb e => hk b o hb (hs₁.extBut b o hb (Heap.get?_push_of_some _ e))
  refine wpAny_bind (wpAny_newList ?_ ?_)
  · refine wpAny_pure ?_
    rw [List.append_nil]
    exact h h₂ tk he
  all_goals first | (rw [hrl]; omega) | skip
end
section
variable {X : Cx}
/-- (a, .., *rest) = a tuple of i or more -/
def gStar (K : PySem.W.Frag) (i : Nat) (t : TGs) : TG := fun v σ H Q => ∃ a xs, v = .ref a ∧ SqT K H a xs ∧ i ≤ xs.length ∧ ∀ D, H D = none → t (xs.take i ++ [.ref D]) σ (upd H D (.lst (xs.drop i))) Q
theorem pgs_star {e : Expr} {es : List Expr} {p : Pos} {t : TG} {u : TGs} (h1 : PG X e t) (h2 : PGs X es u)
    (hs : (assignEach (.Starred e p :: es) X.env).map (·.2) = assign e X.env :: (assignEach es X.env).map (·.2) := by rfl) : PGs X (.Starred e p :: es) (gCons t u) := by
  refine ⟨fun pins s σ H vs us Q I r h => ?_⟩
  obtain ⟨v, vr, e1, h⟩ := h
  subst e1
  cases r with
  | cons r rr =>
    rw [hs]
    refine assignInOrder_cons (thn (h1.run pins s σ H _ _ _ I r h) fun _ s1 ⟨σ1, H1, I1, q1⟩ => ?_)
    exact h2.run pins s1 σ1 H1 _ _ Q I1 rr q1
theorem pg_star {es : List Expr} {k : Nat} {t : TGs} {i : Nat} {pos : Pos} (hc : X.calm = true) (h : PGs X es t)
    (hn : (assignEach es X.env).length = i + 1 := by rfl) (hst : (assignEach es X.env).findIdx? (·.1) = some i := by rfl) : PG X (.Tuple es k pos) (gStar X.K i t) := by
  refine ⟨fun pins s σ H v u Q I r hw => ?_⟩
  obtain ⟨a, xs, e1, hq, hl, hw⟩ := hw
  subst e1
  cases r
  obtain ⟨its, rv, ht, hz⟩ := I.tuple hq
  have hlen := rv.length
  rw [assign_Tuple]
  refine wpAny_bind (wpAny_standAt ?_)
  unfold unpack
  rw [hn, hst]
  refine wpAny_bind (wpAny_holding (star_items ht (I.ok.hd hc) (by rw [List.size_toArray]; omega) (by rw [List.size_toArray]; omega) fun h' tk hx => ?_))
  have I1 : Inv X pins σ H { s with heap := h', toks := tk } := I.kept (t' := tk) fun b o e => hx b o (Nat.ne_of_lt (Heap.lt_size e)) e
  have I2 := I1.lnew (t' := tk) (rv.drop i) (by rw [List.length_drop]; omega)
  rw [List.toList_toArray]
  exact h.run pins _ σ _ (xs.take i ++ [.ref h'.objs.size]) _ Q I2 ((rv.take i).append (.cons (show L2.RelV (V.ref h'.objs.size) (Value.ref h'.objs.size) from rfl) .nil)) (hw _ (I1.hok.fresh (Nat.le_refl _)))
end
end DD

namespace DD
open PySem PySem.Spec PyProof.Rows L2
/-! ### tests of pure defs -/
def EvB (σ : L2.St) (H0 : Hp) (tt : TT) (b : Bool) : Prop := ∀ H, Same H0 H → ∀ Q : Bool → Hp → Prop, (∀ H', Same H H' → Q b H') → tt σ H Q
section
variable {K : PySem.W.Frag} {σ : L2.St} {H0 : Hp} {te ta tb : TE} {tt t1 t2 : TT} {m m1 m2 : Nat} {b b1 b2 : Bool}
theorem ev_at {P : PyData → Prop} {H : Hp} {Q : VK} (h : Ev K noS none σ H0 te m P) (s : Same H0 H) (hm : m ≤ most) (q : ∀ H' v d, Same H H' → Df K H' v d → P d → Q v H') : te σ H Q :=
  h H 0 Q (Keeps.same s) rn_no (by rw [Nat.zero_add]; exact hm) fun H' v d k r hd p => q H' v d (keeps_no k) (no_dp hd) p
theorem evb_val (h : Ev K noS none σ H0 te m (· = .bool b)) (hm : m ≤ most := by decide) : EvB σ H0 (tB te) b := fun H s Q q => ev_at h s hm fun H' v d s' hd e => by
  subst e
  cases hd
  exact ⟨_, rfl, q H' s'⟩
theorem evb_test (h : Ev K noS none σ H0 te m (· = .bool b)) (hm : m ≤ most := by decide) : EvB σ H0 (tTest te) b := fun H s Q q => ev_at h s hm fun H' v d s' hd e => by
  subst e
  cases hd
  exact ⟨_, rfl, q H' s'⟩
theorem EvB.late {H : Hp} (h : EvB σ H0 tt b) (s : Same H0 H) : EvB σ H tt b := fun H1 s1 Q q => h H1 (s.trans s1) Q q
theorem evb_not (h : EvB σ H0 tt b) : EvB σ H0 (tNot tt) (!b) := fun H s Q q => h H s _ fun H' s' => by
  cases b with
  | true => exact q H' s'
  | false => exact q H' s'
theorem evb_or (h1 : EvB σ H0 t1 b1) (h2 : b1 = false → EvB σ H0 t2 b2) : EvB σ H0 (tOr t1 t2) (b1 || b2) := fun H s Q q => h1 H s _ fun H1 s1 => by
  cases b1 with
  | true => exact iteT (q H1 s1)
  | false => exact iteF (h2 rfl H1 (s.trans s1) _ fun H2 s2 => q H2 (s1.trans s2))
theorem if_b {t u : TS} {D : Ends} (h : EvB σ H0 tt b) (qT : b = true → ∀ H', Same H0 H' → t D σ H') (qF : b = false → ∀ H', Same H0 H' → u D σ H') : tIfS tt t u D σ H0 := h H0 (Same.refl _) _ fun H' s => by
  cases b with
  | true => exact iteT (qT rfl H' s)
  | false => exact iteF (qF rfl H' s)
section
variable {S : Addr → Bool} {a : Option Addr}
/-- x and y: the second only where the first is true -/
theorem ev_andC {x y : Bool} (h1 : Ev K S a σ H0 ta m1 (· = .bool x)) (h2 : x = true → Ev K S a σ H0 tb m2 (· = .bool y)) : Ev K S a σ H0 (tAndV ta tb) (m1 + m2) (· = .bool (x && y)) := by
  intro H n Q k r b q
  refine h1 H n _ k r (by omega) fun H1 v d k1 r1 hd e => ?_
  subst e
  cases hd
  cases x with
  | true =>
    refine ⟨true, rfl, iteT ?_⟩
    refine h2 rfl H1 (n + m1) _ (k.trans (keeps_one r.sa k1)) r1 (by omega) fun H2 v d k2 r2 hd e => ?_
    subst e
    exact q H2 v _ (k1.trans k2) (by rw [← Nat.add_assoc]; exact r2) hd rfl
  | false => exact ⟨false, rfl, iteF (q H1 _ _ k1 (r1.up (by omega)) (.bl false) rfl)⟩
theorem ev_eqD {d e : PyData} (ha : Ev K S a σ H0 ta m1 (· = d)) (hb : Ev K S a σ H0 tb m2 (· = e)) (sd : SeqAt.shaped d = true) (se : SeqAt.shaped e = true) : Ev K S a σ H0 (tOp (rEqD K) ta tb) (m1 + m2) (· = .bool (PyData.eqv d e)) :=
  ev_op ha hb fun H x y d' e' Q t hd he q1 q2 q => by
    subst q1 q2
    exact ⟨d', e', (Df.bare hd).dp, (Df.bare he).dp, sd, se, q H _ _ (Same.refl H) (.bl _) rfl⟩
theorem ev_neD {d e : PyData} (ha : Ev K S a σ H0 ta m1 (· = d)) (hb : Ev K S a σ H0 tb m2 (· = e)) (sd : SeqAt.shaped d = true) (se : SeqAt.shaped e = true) : Ev K S a σ H0 (tOp (rNeD K) ta tb) (m1 + m2) (· = .bool (!PyData.eqv d e)) :=
  ev_op ha hb fun H x y d' e' Q t hd he q1 q2 q => by
    subst q1 q2
    exact ⟨d', e', (Df.bare hd).dp, (Df.bare he).dp, sd, se, q H _ _ (Same.refl H) (.bl _) rfl⟩
end
end
end DD

namespace DD
open PySem PySem.Spec PyProof.Rows L2
/-! ### pure defs of any kind; sums, quotients, places -/
/-- a def that draws nothing and changes nothing -/
def spP (K : PySem.W.Frag) (pre : List PyData → Prop) (post : List PyData → PyData → Prop) : Sp := fun vs H Q _ => ∃ ds, DfAll K H vs ds ∧ pre ds ∧ ∀ H' v d, Same H H' → Df K H' v d → post ds d → Q v H'
theorem spP_len {K : PySem.W.Frag} {pre : List PyData → Prop} {post : List PyData → PyData → Prop} {j : Nat} (h : ∀ ds, pre ds → ds.length = j) : ∀ vs H Q E, spP K pre post vs H Q E → vs.length = j := fun vs H Q E ⟨ds, hd, hp, _⟩ => by rw [DfAll.len hd, h ds hp]
section
variable {K : PySem.W.Frag} {S : Addr → Bool} {a : Option Addr} {σ : L2.St} {H0 : Hp} {te ta tb tn : TE} {tr : TA} {m m1 m2 m3 : Nat} {P P1 P2 : PyData → Prop} {R R1 : List PyData → Prop}
/-- what stands at v outside of S stands there behind a call that keeps all -/
theorem ev_callP {pre : List PyData → Prop} {post : List PyData → PyData → Prop} {E : XK} (h : EvA K noS none σ H0 tr m R) (h1 : ∀ ds, R ds → pre ds) (h2 : ∀ ds d, R ds → post ds d → P d) : Ev K noS none σ H0 (tCall (spP K pre post) [] E tr) m P := by
  intro H n Q k r b q
  refine h H n _ k r b fun H1 vs ds k1 r1 hd pd => ?_
  rw [List.append_nil]
  exact ⟨ds, DfAll.bare hd, h1 ds pd, fun H2 v d s hv pp => q H2 v d (k1.trans (Keeps.same s)) (r1.same s) (by rw [hid_no]; exact hv) (h2 ds d pd pp)⟩
theorem dp_ints {H : Hp} : ∀ {bs : List Int} {vs : List V}, DfAll K H vs (bs.map PyData.int) → vs = bs.map V.int
  | [], vs, h => DfAll.n h
  | b :: bs, vs, h => by
    obtain ⟨x, ws, rfl, h1, h2⟩ := DfAll.c h
    cases h1
    rw [dp_ints h2]
    rfl
/-- sum(l) -/
theorem ev_sum (h : EvA K S a σ H0 tr m R) (p : ∀ ds, R ds → ∃ ns : List Int, ds = [.list (ns.map PyData.int)] ∧ P (.int ns.sum)) : Ev K S a σ H0 (tCB (rSum K) tr) m P :=
  ev_cb h fun H xs ds Q t hd pd q => by
    obtain ⟨ns, rfl, pe⟩ := p ds pd
    obtain ⟨x, _, rfl, h1, h2⟩ := DfAll.c hd
    obtain rfl := DfAll.n h2
    obtain ⟨b, vs, rfl, hL, hv⟩ := Df.lst_inv h1
    rw [dp_ints hv] at hL
    exact ⟨b, ns, rfl, Same.seq hid_same hL, q H _ _ (Same.refl H) (.int _) pe⟩
/-- divmod(i, j) -/
theorem ev_divmod (h : EvA K S a σ H0 tr m R) (p : ∀ ds, R ds → ∃ i j : Int, ds = [.int i, .int j] ∧ CDiv i j ∧ P (.tuple [.int (i / j), .int (i % j)])) : Ev K S a σ H0 (tCB rDivQ tr) m P :=
  ev_cb h fun H xs ds Q t hd pd q => by
    obtain ⟨i, j, rfl, c, pe⟩ := p ds pd
    obtain ⟨x, y, rfl, h1, h2⟩ := DfAll.two hd
    cases h1
    cases h2
    exact ⟨i, j, rfl, c, fun l o nl ho => q _ _ _ (same_new nl) (Df.newT (.cons (.int _) (.cons (.int _) .nil)) nl (t.new nl) ho) pe⟩
theorem ev_ltI {P : PyData → Prop} {x y : Int} (ha : Ev K S a σ H0 ta m1 (· = .int x)) (hb : Ev K S a σ H0 tb m2 (· = .int y)) (p : P (.bool (decide (x < y)))) : Ev K S a σ H0 (tOp (rI0 fun i j => .bl (decide (i < j))) ta tb) (m1 + m2) P :=
  ev_op ha hb fun H v w d e Q t hd he e1 e2 q => by
    subst e1 e2
    cases hd
    cases he
    exact ⟨x, y, rfl, rfl, q H _ _ (Same.refl H) (.bl _) p⟩
end
end DD

namespace DD
open PySem PySem.Spec PyProof.Rows L2
/-! ### calls of pure defs while a source is there -/
section
variable {K : PySem.W.Frag} {σ : L2.St} {H0 : Hp} {te ta tb tn : TE} {tr : TA} {m m1 m2 m3 : Nat} {P P1 P2 : PyData → Prop} {R R1 : List PyData → Prop}
theorem seqF_hid {H : Hp} {p b : Addr} {n : Nat} {vs : List V} (hs : Src H p n) (hT : SqF K H b vs) : SqF K (hid (one (some p)) H) b vs := by
  obtain ⟨g, c, t, e, _⟩ := hs
  obtain ⟨o, hd, hT | hT⟩ := hT
  · refine ⟨o, hd, .inl ?_⟩
    rw [hid_at (one_no fun z => by rw [← Option.some.inj z, e] at hT; cases hT)]
    exact hT
  · exact ⟨o, hd, .inr hT⟩
theorem date_hid {H : Hp} {p : Addr} {n : Nat} {v : V} {y i : Int} {s : Str} (hs : Src H p n) (h : Df K H v (.tuple [.int y, .str s, .int i])) : Df K (hid (one (some p)) H) v (.tuple [.int y, .str s, .int i]) := by
  obtain ⟨b, vs, rfl, hT, hv⟩ := Df.tupF_inv h
  obtain ⟨v1, v2, v3, rfl, p1, p2, p3⟩ := DfAll.three hv
  cases p1
  cases p2
  cases p3
  exact .tup (seqF_hid hs hT) (.cons (.int _) (.cons (.str _) (.cons (.int _) .nil)))
section
variable {p : Addr} {pre : List PyData → Prop} {post : List PyData → PyData → Prop} {E : XK}
theorem ev_callD (h : EvA K (one (some p)) (some p) σ H0 tr m R) (h1 : ∀ ds, R ds → pre ds) (h2 : ∀ ds d, R ds → post ds d → ∃ y s i, d = .tuple [.int y, .str s, .int i] ∧ P d) : Ev K (one (some p)) (some p) σ H0 (tCall (spP K pre post) [] E tr) m P := by
  intro H n Q k r b q
  refine h H n _ k r b fun H1 vs ds k1 r1 hd pd => ?_
  rw [List.append_nil]
  refine ⟨ds, DfAll.bare hd, h1 ds pd, fun H2 v d s hv pp => ?_⟩
  obtain ⟨y, t, i, rfl, pe⟩ := h2 ds d pd pp
  have r2 := r1.same s
  exact q H2 v _ (k1.trans (Keeps.same s)) r2 (date_hid (r2.src p rfl) hv) pe
theorem ev_callKwI {S : Addr → Bool} {a : Option Addr} {d1 d2 : PyData} (h : EvA K S a σ H0 tr m (· = [d1, d2])) (h1 : pre [d2, d1]) (h2 : ∀ d, post [d2, d1] d → ∃ i : Int, d = .int i ∧ P (.int i)) : Ev K S a σ H0 (tCallKw 2 (spP K pre post) gSwap E tr) m P := by
  intro H n Q k r b q
  refine h H n _ k r b fun H1 vs ds k1 r1 hd pd => ?_
  subst pd
  obtain ⟨x, y, rfl, hx, hy⟩ := DfAll.two hd
  refine ⟨rfl, [d2, d1], .cons (Df.bare hy) (.cons (Df.bare hx) .nil), h1, fun H2 v d s hv pp => ?_⟩
  obtain ⟨i, rfl, pi⟩ := h2 d pp
  cases hv
  exact q H2 _ _ (k1.trans (Keeps.same s)) (r1.same s) (.int i) pi
theorem ev_callKwD {d1 d2 : PyData} (h : EvA K (one (some p)) (some p) σ H0 tr m (· = [d1, d2])) (h1 : pre [d2, d1]) (h2 : ∀ d, post [d2, d1] d → ∃ y s i, d = .tuple [.int y, .str s, .int i] ∧ P d) : Ev K (one (some p)) (some p) σ H0 (tCallKw 2 (spP K pre post) gSwap E tr) m P := by
  intro H n Q k r b q
  refine h H n _ k r b fun H1 vs ds k1 r1 hd pd => ?_
  subst pd
  obtain ⟨x, y, rfl, hx, hy⟩ := DfAll.two hd
  refine ⟨rfl, [d2, d1], .cons (Df.bare hy) (.cons (Df.bare hx) .nil), h1, fun H2 v d s hv pp => ?_⟩
  obtain ⟨y, t, i, rfl, pe⟩ := h2 d pp
  have r2 := r1.same s
  exact q H2 v _ (k1.trans (Keeps.same s)) r2 (date_hid (r2.src p rfl) hv) pe
end
variable {S : Addr → Bool} {a : Option Addr}
theorem ev_neI {x y : Int} (ha : Ev K S a σ H0 ta m1 (· = .int x)) (hb : Ev K S a σ H0 tb m2 (· = .int y)) (p : P (.bool (!decide (x = y)))) : Ev K S a σ H0 (tOp rNe ta tb) (m1 + m2) P :=
  ev_op ha hb fun H v w d e Q t hd he e1 e2 q => by
    subst e1 e2
    cases hd
    cases he
    refine ⟨rfl, ?_⟩
    have e : decide (V.int x = V.int y) = decide (x = y) := by rw [decide_eq_decide]; exact ⟨fun z => V.int.inj z, fun z => by rw [z]⟩
    rw [e]
    exact q H _ _ (Same.refl H) (.bl _) p
theorem eqv_date (y i : Int) (s : Str) : PyData.eqv (.tuple [.int y, .str s, .int i]) (.tuple [.int y, .str s, .int i]) = true := by
  show ((y == y) && ((s == s) && ((i == i) && true))) = true
  rw [beq_self_eq_true, beq_self_eq_true, beq_self_eq_true]
  rfl
/-- [e for x in range(i, j)] -/
theorem ev_lcR2 {vs : List Nat} {slot : Nat} {lo : Int} {N : Nat} {Pi : Nat → PyData → Prop} {Z : PyData → Prop} (hn : EvA K S a σ H0 tr m1 fun l => l = [.int lo, .int (lo + N)]) (hlo : -1000 ≤ lo) (hlo' : lo ≤ 1000) (hw : ∀ x, wipe ((wipe σ vs).set slot (some x)) vs = wipe σ vs) (few : N ≤ 1000)
    (he : ∀ D H1, Same (hid S H0) (hid (plusA S D) H1) → ∀ i : Nat, i < N → Ev K (plusA S D) a ((wipe σ vs).set slot (some (.int (lo + i)))) H1 te m (Pi i)) (hz : ∀ ds, ds.length = N → (∀ i e, ds[i]? = some e → Pi i e) → Z (.list ds)) :
    Ev K S a σ H0 (tLc (iRng2 tr) (gName slot) tYes te vs) (m1 + N * m) Z := by
  intro H n Q k r b q
  refine hn H n _ k r (by omega) fun H1 xs ds k1 r1 hd e => ?_
  subst e
  obtain ⟨x, y, rfl, h1, h2⟩ := DfAll.two hd
  cases h1
  cases h2
  refine ⟨lo, lo + N, rfl, ⟨by omega, by omega, by omega, by omega⟩, ?_⟩
  rw [show (lo + (N : Int) - lo).toNat = N by omega]
  refine lc_ev (K := K) (S := S) (a := a) (m := m) (n := n + m1) (P := Pi) (X := fun i x => x = .int (lo + (i : Int))) (walk_range (lo := lo) (n := N)) rfl hw r1 (by omega) (by omega) (fun _ _ _ _ => trivial) (fun D hD i x hi hx => ?_) (fun H' D ds kk rr hd el hp => q H' _ _ (k1.trans kk) (by rw [← Nat.add_assoc]; exact rr) hd (hz ds el hp))
  rw [hx]
  exact he D _ (Same.trans (k.trans (keeps_one r.sa k1)) (hid_new hD)) i hi
end
end DD

namespace DD
open PySem PySem.Spec PyProof.Rows L2
/-! ### a test that fails; two data that are one -/
section
variable {K : PySem.W.Frag} {S : Addr → Bool} {a : Option Addr} {σ : L2.St} {H0 : Hp} {te ta tb tn : TE} {tr : TA} {m m1 m2 : Nat} {P P1 P2 : PyData → Prop} {R R1 : List PyData → Prop}
theorem ev_ifF {body : TS} {D : Ends} {n : Nat} {H : Hp} (r : Rn S a n H) (b : n + m ≤ most) (h : Ev K S a σ H te m (· = .bool false)) (q : ∀ H', Keeps (one a) H H' → Rn S a (n + m) H' → D.nx σ H') : tIfS (tTest te) body tNext D σ H := by
  refine h H n _ Keeps.rfl r b fun H1 v d k1 r1 hd e => ?_
  subst e
  cases hd
  exact ⟨false, rfl, iteF (q H1 k1 r1)⟩
theorem ev_neSame (ha : Ev K S a σ H0 ta m1 P1) (hb : Ev K S a σ H0 tb m2 P2) (h : ∀ d e, P1 d → P2 e → d = e ∧ SeqAt.shaped d = true ∧ PyData.eqv d d = true) : Ev K S a σ H0 (tOp (rNeD K) ta tb) (m1 + m2) (· = .bool false) :=
  ev_op ha hb fun H x y d e Q t hd he q1 q2 q => by
    obtain ⟨e1, s1, s2⟩ := h d e q1 q2
    subst e1
    exact ⟨d, d, (Df.bare hd).dp, (Df.bare he).dp, s1, s1, q H _ _ (Same.refl H) (.bl _) (by rw [s2]; rfl)⟩
end
end DD

namespace DD
open PySem PySem.Spec PyProof.Rows L2
/-! ### tuple * k, k = 1 among them -/
theorem tuple_mul1 (l : Addr) (items : Array Value) (n : Nat) (dd : Option Addr) (sl : Array (Option Value)) (u : Tok) :
    Meets (Builtin.«tuple.__mul__» ⟨[.ref l, .int 1 u], []⟩) (fun _ R s => s.heap.get? l = some { cls := .type "tuple", dict := dd, data := .seq items n, slots := sl } ∧
      R (.ok (.ret (Value.ref l))) s) :=
  .of_wp fun prog w A R s h => by
    obtain ⟨hp, g, d, tk, os⟩ := s
    obtain ⟨hl, h⟩ := h
    have f1 := AutoSeq1.idx_int
    wp_walk using wpAny_loadPart' hl
    repeat (first
      | (refine wpAny_ite_false (by decide) ?_; wp_walk using wpAny_loadPart' hl)
      | (refine wpAny_ite_true (by rw [Bool.or_eq_true]; exact Or.inr rfl) ?_; wp_walk using wpAny_loadPart' hl))
    exact ⟨_, rfl, h⟩

/-- t * k: t a tuple that may be read -/
def rRepU (K : PySem.W.Frag) : R2 := fun x y H Q => ∃ l k xs, x = .ref l ∧ y = .int k ∧ SqT K H l xs ∧ xs ≠ [] ∧ 1 ≤ k ∧ k ≤ 1000 ∧ xs.length ≤ 1000 ∧ (k = 1 → Q (.ref l) H) ∧ (2 ≤ k → ∀ p o, H p = none → o.dict = none → Q (.ref p) (upd H p (.frz o (.tup (List.replicate k.toNat xs).flatten))))
theorem op_repU {X : Cx} : OpR X (binaryOp .Mult) (rRepU X.K) := by
  intro pins s σ H x y v u Q I rx ry h
  obtain ⟨l, k, xs, rfl, rfl, hT, hne, h1, h2, hz, q1, q2⟩ := h
  by_cases hk : k = 1
  · subst hk
    cases rx
    obtain ⟨t, rfl⟩ := ry
    obtain ⟨its, r, ⟨⟨cls, dd, data, sl⟩, ho, hc, n, hd⟩, hs⟩ := I.tuple hT
    simp only at hc hd
    subst hc hd
    refine wpAny_binaryOp_repeat_ref (T := "tuple") (U := "int") (by decide) ⟨_, ho, rfl⟩ (fun s' => typeIs_int s' 1 t) noFill_tuple_mul F.fills_int_mul F.slot_int_rmul repeat_tuple F.slot_int_index.lookup
      (call_meets F.slot_int_rmul (typeIs_int s 1 t) F.entry_int_rmul (F.args_int_rmul_2 _ _) (int_rmul_tuple 1 t l its.toArray n dd sl)
        ⟨ho, rfl, ⟨_, ho, rfl⟩, call_meets F.slot_tuple_mul ⟨_, ho, rfl⟩ F.entry_tuple_mul (F.args_tuple_mul_2 _ _) (tuple_mul1 l its.toArray n dd sl t) ⟨ho, ?_⟩⟩)
    exact ⟨.ref l, H, I, rfl, q1 rfl⟩
  · cases rx
    obtain ⟨t, rfl⟩ := ry
    obtain ⟨its, r, ⟨⟨cls, dd, data, sl⟩, ho, hc, n, hd⟩, hs⟩ := I.tuple hT
    simp only at hc hd
    subst hc hd
    have hle : its.length = xs.length := r.length.symm
    have hn : its ≠ [] := fun e => hne (by
      rw [e] at hle
      exact List.eq_nil_of_length_eq_zero hle.symm)
    have hi : its.toArray.isEmpty = false := by
      cases its with
      | nil => exact absurd rfl hn
      | cons a b => rfl
    have hsz0 : its.toArray.size = xs.length := by rw [List.size_toArray, hle]
    have hm : ((its.toArray.size : Nat) : Int) * k ≤ 1000000 := by
      rw [hsz0]
      have a1 : ((xs.length : Nat) : Int) * k ≤ 1000 * k := Int.mul_le_mul_of_nonneg_right (by omega) (by omega)
      omega
    have flen : (List.replicate k.toNat its).flatten.length ≤ sizeLine := by
      rw [PyProof.Rows.lm_len_rep_flat, hle, sizeLine_eq]
      have a1 : k.toNat * xs.length ≤ 1000 * 1000 := Nat.mul_le_mul (by omega) hz
      omega
    have c0 : (decide (k < -(2 ^ 63)) || decide (k ≥ 2 ^ 63)) = false := by
      rw [decide_eq_false (by omega), decide_eq_false (by omega)] <;> rfl
    have c1 : (its.toArray.isEmpty || k == 1) = false := by
      rw [hi, Bool.false_or]
      exact beq_eq_false_iff_ne.mpr (by omega)
    have c2 : (decide (k ≤ 0) || its.toArray.isEmpty) = false := by
      rw [hi, Bool.or_false]
      exact decide_eq_false (by omega)
    have c4 : Builtin.Tuple.tupleTooMany (((its.toArray.size : Nat) : Int) * k) = false := by
      unfold Builtin.Tuple.tupleTooMany
      rw [sizeLine_eq]
      exact decide_eq_false (by omega)
    refine wpAny_binaryOp_repeat_ref (T := "tuple") (U := "int") (by decide) ⟨_, ho, rfl⟩ (fun s' => typeIs_int s' k t) noFill_tuple_mul F.fills_int_mul F.slot_int_rmul repeat_tuple F.slot_int_index.lookup
      (call_meets F.slot_int_rmul (typeIs_int s k t) F.entry_int_rmul (F.args_int_rmul_2 _ _) (int_rmul_tuple k t l its.toArray n dd sl)
        ⟨ho, rfl, ⟨_, ho, rfl⟩, call_meets F.slot_tuple_mul ⟨_, ho, rfl⟩ F.entry_tuple_mul (F.args_tuple_mul_2 _ _) (tuple_mulW l its.toArray n dd sl k t c0 c1 c2 (by omega) c4 (by rw [size_rep, List.size_toArray]; exact flen)) ⟨ho, ?_⟩⟩)
    rw [size_rep]
    exact ⟨.ref s.heap.objs.size, _, I.laid (t' := s.toks) (o := .frz _ (.tup (List.replicate k.toNat xs).flatten)) (fun b ob q => Heap.get?_push_of_some _ q) (Nat.le_refl _) ⟨Heap.get?_push_size _ rfl, by rw [PyProof.Rows.lm_len_rep_flat, sizeLine_eq]; have a1 : k.toNat * xs.length ≤ 1000 * 1000 := Nat.mul_le_mul (by omega) hz; omega, _, r.rep k.toNat, IsTup.new _ _⟩, rfl, q2 (by omega) _ _ (I.hok.fresh (Nat.le_refl _)) rfl⟩
theorem DfAll.rep {K : PySem.W.Frag} {H : Hp} {vs : List V} {ds : List PyData} (h : DfAll K H vs ds) : ∀ k : Nat, DfAll K H (List.replicate k vs).flatten (List.replicate k ds).flatten
  | 0 => .nil
  | k + 1 => by
    rw [List.replicate_succ, List.replicate_succ, List.flatten_cons, List.flatten_cons]
    exact DfAll.app h (DfAll.rep h k)
section
variable {K : PySem.W.Frag} {S : Addr → Bool} {a : Option Addr} {σ : L2.St} {H0 : Hp} {te ta tb tn : TE} {tr : TA} {m m1 m2 : Nat} {P P1 P2 : PyData → Prop} {R R1 : List PyData → Prop}
theorem ev_rep (ha : Ev K S a σ H0 ta m1 P1) (hb : Ev K S a σ H0 tb m2 P2) (h : ∀ d e, P1 d → P2 e → ∃ (ds : List PyData) (k : Nat), d = .tuple ds ∧ e = .int (k : Int) ∧ ds ≠ [] ∧ 1 ≤ k ∧ k ≤ 1000 ∧ ds.length ≤ 1000 ∧ P (.tuple (List.replicate k ds).flatten)) :
    Ev K S a σ H0 (tOp (rRepU K) ta tb) (m1 + m2) P :=
  ev_op ha hb fun H x y d e Q t hd he p1 p2 q => by
    obtain ⟨ds, k, rfl, rfl, ne, k1, k2, few, pf⟩ := h d e p1 p2
    obtain ⟨l, vs, rfl, hT, hv⟩ := Df.tup_inv hd
    cases he
    have el := DfAll.len hv
    refine ⟨l, (k : Int), vs, rfl, rfl, seqT_mono hid_same hT, fun z => ne (by rw [z] at el; exact List.length_eq_zero_iff.mp el.symm), by omega, by omega, by omega, fun z => ?_, fun z p o np ho => ?_⟩
    · obtain rfl : k = 1 := by omega
      have e1 : (List.replicate 1 ds).flatten = ds := by simp
      rw [e1] at pf
      exact q H _ _ (Same.refl H) hd pf
    · exact q _ _ _ (same_new np) (by rw [Int.toNat_natCast]; exact Df.newT (DfAll.rep hv k) np (t.new np) ho) pf
/-- min of a list of ints -/
theorem ev_min (h : EvA K S a σ H0 tr m R) (p : ∀ ds, R ds → ∃ ns : List Int, ds = [.list (ns.map PyData.int)] ∧ 0 < ns.length ∧ ∀ x, x ∈ ns → (∀ y, y ∈ ns → x ≤ y) → P (.int x)) : Ev K S a σ H0 (tCB (rMin K) tr) m P :=
  ev_cb h fun H xs ds Q t hd pd q => by
    obtain ⟨ns, rfl, ne, pe⟩ := p ds pd
    obtain ⟨x, _, rfl, h1, h2⟩ := DfAll.c hd
    obtain rfl := DfAll.n h2
    obtain ⟨b, vs, rfl, hL, hv⟩ := Df.lst_inv h1
    rw [dp_ints hv] at hL
    exact ⟨b, ns, rfl, Same.seq hid_same hL, ne, fun x hx hy => q H _ _ (Same.refl H) (.int _) (pe x hx hy)⟩
end
/-! ### exceptions of the program: a field, an __init__ over ValueError's -/
structure ExcTop (K : PySem.W.Frag) (mg : Str → Option Value) (x q f : Str) (st : Stmt) (C fI : Addr) (fd : FuncData) : Prop where
  g : mg x = some (.ref C)
  o : OexC K C
  iC : PySem.W.findIn K (.ref C) "__init__" = some (some (.ref fI))
  tI : PySem.W.typeIn K (.ref fI) = some (.type "function")
  xf : XfC K C
  ec : ExcC K C
  no : PySem.W.findIn K (.ref C) f = some none
  cl : PySem.W.isClsIn K C = true
  te : PySem.W.exmOne K (.ref C) (.ref C) = some true
  F : Fun K "__init__" q st fI fd
  b : Binds K fd ["self", f] []
/-- what __init__ leaves: the exception with a dict of its own, the field in it -/
def spExc (C : Addr) (f : Str) : Sp := fun vs H Q _ => ∃ a v, vs = [.ref a, v] ∧ H a = some (exo a C none) ∧ ∀ dx, H dx = none → dx ≠ a → Q .non (upd (upd H dx (exd dx [(f, v)])) a (exo a C (some dx)))
theorem spExc_len {C : Addr} {f : Str} : ∀ vs H Q E, spExc C f vs H Q E → vs.length = 2 := fun vs H Q E ⟨a, v, e, _⟩ => by rw [e]; rfl
theorem exc_heap {H : Hp} {a dx : Addr} {x y z o : HO} (ha : H a = none) (hd : dx ≠ a) : upd (del (upd (upd (upd H a x) dx y) a z) a) dx o = upd H dx o := by
  funext b
  by_cases hb : b = dx
  · rw [hb, upd_same, upd_same]
  · rw [upd_ne hb, upd_ne hb]
    by_cases hba : b = a
    · rw [hba, del_same, ha]
    · rw [del_ne hba, upd_ne hba, upd_ne hb, upd_ne hba]
theorem mkO_go {C : Addr} {f : Str} {i : Nat} {v : V} {σ : L2.St} {H : Hp} {Q : XK} (e : σ[i]? = some (some v)) (h : ∀ d, H d = none → Q (.ref C) (some d) (upd H d (.xd [(f, v)]))) : tMkO C (spExc C f) [] (tCons (tVar i) tNil) σ H Q := by
  refine ⟨v, e, (by show 1 ≤ 1000; decide), fun a ha => ⟨a, v, rfl, upd_same, fun dx hdx ne => ?_⟩⟩
  have hd : H dx = none := by rw [upd_ne ne] at hdx; exact hdx
  refine ⟨rfl, dx, [(f, v)], upd_same, ?_, hd, ?_⟩
  · rw [upd_ne ne]
    exact upd_same
  · rw [exc_heap ha ne]
    exact h dx hd
theorem passF {P : Program} {w : World} {X : Cx} (hp : X.prog = P) (hw : X.w = w) : Passes (L2.CX P w) X (fun _ _ _ => False) := fun _ _ _ _ _ _ _ h => by
  obtain ⟨_, _, _, _, _, _, _, _, _, _, _, _, z⟩ := h
  exact z.elim
/-- isinstance(e, c), e the exception that the suite holds, with a dict -/
def rIsEd (K : PySem.W.Frag) (D a : Addr) (d : Option Addr) : List V → Hp → VK → Prop := fun xs H Q => ∃ (c : V) (cv : Value) (b : Bool) (dd : Addr) (fs : List (Str × V)), xs = [.ref a, c] ∧ (∀ u, RelV c u → u = cv) ∧ d = some dd ∧ H dd = some (.xd fs) ∧ PySem.W.kitOne K (.ref D) cv = some b ∧ Q (.bl b) H
theorem call_isEd {X : Cx} {a D : Addr} {d : Option Addr} {oe : Obj} {pn : List (Addr × Obj)} {cls : Value} (C : ExcC X.K D) (hcl : (PySem.W.clsIn X.K D).isSome = true) (hz : Zc cls d oe) (hf : ∃ vs, oe.data = .fields vs) : CallR (X.suite a ((a, oe) :: pn)) (.builtin "isinstance") (fun xs H Q => cls = .ref D ∧ rIsEd X.K D a d xs H Q) := by
  intro pins s σ H xs us Q I r h
  obtain ⟨rfl, c, cv, b, dd, fs, rfl, hcv, rfl, hdd, e, q⟩ := h
  cases r with
  | cons rx rr =>
    cases rr with
    | cons rt rr =>
      cases rr
      cases rx
      have ec := hcv _ rt
      subst ec
      obtain ⟨hget, _⟩ := I.pin (a, oe) (List.mem_append.mpr (.inl List.mem_cons_self))
      obtain ⟨vs, hv⟩ := hf
      have hx : ObjOk X.prog X.w H s.heap dd (.xd fs) := I.hok dd _ hdd
      obtain ⟨mA, hns, hr⟩ := hx
      obtain ⟨od, ho, hl⟩ := lookIn_ns hns
      have J : PySem.W.InstAt s.heap a oe D (some od) := ⟨hget, hz.1, by unfold PySem.W.notCls; rw [hv] <;> rfl, by rw [hz.2]; exact ho⟩
      exact PySem.W.kia_one (PySem.W.kitx_exc hcl C.hg C.hk C.hs C.ha C.hn C.ht C.hm) I.kIn J e (fun z => nomatch z) fun tk => ⟨.bl b, H, I.kept (t' := tk) fun _ _ z => z, rfl, q⟩
theorem kit_own {K : PySem.W.Frag} {C D : Addr} {b : Bool} (hD : PySem.W.isClsIn K D = true) (tD : PySem.W.typeIn K (.ref D) = some (.type "type")) (hs : PySem.W.subIn K (.ref C) (.ref D) = some b) (ne : (Value.ref C == Value.ref D) = false) : PySem.W.kitOne K (.ref C) (.ref D) = some b := by
  have hD' : (PySem.W.clsIn K D).isSome = true := hD
  show (if (Value.ref C == Value.ref D) = true then some true else if ((PySem.W.clsIn K D).isSome && PySem.W.typeIn K (.ref D) == some (.type "type")) = true then PySem.W.subIn K (.ref C) (.ref D) else none) = some b
  rw [ne, if_neg Bool.false_ne_true, hD', tD, if_pos (show (true && some (Value.type "type") == some (Value.type "type")) = true by decide +kernel)]
  exact hs
theorem kit_base {K : PySem.W.Frag} {C : Addr} {T : String} {b : Bool} (hT : PySem.W.kitMeta T = true) (hs : PySem.W.subIn K (.ref C) (.type T) = some b) : PySem.W.kitOne K (.ref C) (.type T) = some b := by
  show (if (Value.ref C == Value.type T) = true then some true else if PySem.W.kitMeta T = true then PySem.W.subIn K (.ref C) (.type T) else none) = some b
  rw [if_neg (by intro z; cases beq_iff_eq.mp z), if_pos hT]
  exact hs
end DD

namespace DD
open PySem PySem.Spec PyProof.Rows L2
/-! ### comprehensions with a test, without draws: the list is told exactly -/
def EvT (K : PySem.W.Frag) (S : Addr → Bool) (a : Option Addr) (σ : L2.St) (H0 : Hp) (tt : TT) (c : Bool) : Prop :=
  ∀ (H : Hp) (n : Nat) (Q : Bool → Hp → Prop), Keeps S H0 H → Rn S a n H → n ≤ most → (∀ H', Keeps (one a) H H' → Rn S a n H' → Q c H') → tt σ H Q
section
variable {K : PySem.W.Frag} {S : Addr → Bool} {a : Option Addr} {σ : L2.St} {H0 : Hp} {te ta tb tn : TE} {tr : TA} {tt : TT} {m m1 m2 : Nat} {P P1 P2 : PyData → Prop} {R R1 : List PyData → Prop} {b : Bool}
theorem evt_val (h : Ev K S a σ H0 te 0 (· = .bool b)) : EvT K S a σ H0 (tB te) b := fun H n Q k r bd q => h H n _ k r bd fun H1 v d k1 r1 hd e => by
  subst e
  cases hd
  exact ⟨_, rfl, q H1 k1 r1⟩
theorem evt_test (h : Ev K S a σ H0 te 0 (· = .bool b)) : EvT K S a σ H0 (tTest te) b := fun H n Q k r bd q => h H n _ k r bd fun H1 v d k1 r1 hd e => by
  subst e
  cases hd
  exact ⟨_, rfl, q H1 k1 r1⟩
theorem evt_not (h : EvT K S a σ H0 tt b) : EvT K S a σ H0 (tNot tt) (!b) := fun H n Q k r bd q => h H n _ k r bd fun H1 k1 r1 => by
  cases b with
  | true => exact q H1 k1 r1
  | false => exact q H1 k1 r1
theorem range_filter_succ (c : Nat → Bool) (i : Nat) : (List.range (i + 1)).filter c = (List.range i).filter c ++ (if c i = true then [i] else []) := by
  rw [List.range_succ, List.filter_append]
  congr 1
  cases h : c i <;> simp [List.filter, h]
theorem lc_evC {J : It} {N : Nat} {G : Hp → Prop} {X : Nat → V → Prop} (w : Walk J N G (fun i H x H' => H' = H ∧ X i x)) {g : TG} {vs : List Nat} {slot : Nat} {H1 : Hp} {n : Nat} {c : Nat → Bool} {f : Nat → PyData} {Q : VK}
    (hg : g = gName slot) (hw : ∀ x, wipe ((wipe σ vs).set slot (some x)) vs = wipe σ vs) (r : Rn S a n H1) (bd : n ≤ most) (few : N ≤ 100000)
    (hG : ∀ D H', Keeps S H1 H' ∨ Keeps (plusA S D) (upd H1 D (.lst [])) H' → H1 D = none → G H')
    (ht : ∀ D, H1 D = none → ∀ i x, i < N → X i x → EvT K (plusA S D) a ((wipe σ vs).set slot (some x)) (upd H1 D (.lst [])) tt (c i))
    (he : ∀ D, H1 D = none → ∀ i x, i < N → X i x → c i = true → Ev K (plusA S D) a ((wipe σ vs).set slot (some x)) (upd H1 D (.lst [])) te 0 (· = f i))
    (q : ∀ H' D, Keeps (one a) H1 H' → Rn S a n H' → Df K (hid S H') (.ref D) (.list (((List.range N).filter c).map f)) → Q (.ref D) H') :
    ∀ D, H1 D = none → ∃ W : Nat → Nat → Hp → Prop, (∃ m, W 0 m (upd H1 D (.lst []))) ∧ ∀ i m H, W i m H →
      (J.stop i H ∧ Q (.ref D) H) ∨ (J.go i H ∧ ∃ Nx : Hp → Prop, (∀ H', Nx H' → ∃ m', m' < m ∧ W (i + 1) m' H') ∧ ∀ x H', J.yld i H x H' → g x (wipe σ vs) H' fun σ2 H2 => wipe σ2 vs = wipe σ vs ∧ tt σ2 H2 fun b H3 =>
        if b = true then te σ2 H3 fun y H4 => ∃ acc, H4 D = some (.lst acc) ∧ acc.length < sizeLine ∧ Nx (upd H4 D (.lst (acc ++ [y]))) else Nx H3) := by
  intro D hD
  subst hg
  have aD : a ≠ some D := no_a r hD
  have sD : S D = false := r.th.new hD
  have r0 : Rn (plusA S D) a n (upd H1 D (.lst [])) := rn_in r hD
  have back : ∀ {H : Hp}, Keeps (fun b => one a b || decide (b = D)) (upd H1 D (.lst [])) H → Keeps (plusA S D) (upd H1 D (.lst [])) H := fun {H} kp => Keeps.of fun b o hb e => kp.at (by
    have z := plusA_back hb
    have na : a ≠ some b := fun y => by rw [r.sa b y] at z; exact nomatch z.1
    show (one a b || decide (b = D)) = false
    rw [one_no na, decide_eq_false z.2]
    rfl) e
  refine lc_it w (fun i H => ∃ (xs : List V), H D = some (.lst xs) ∧ DfAll K (hid (plusA S D) H) xs (((List.range i).filter c).map f) ∧
      Keeps (fun b => one a b || decide (b = D)) (upd H1 D (.lst [])) H ∧ Rn (plusA S D) a n H) ?_ ?_ ?_ ?_
  · exact ⟨[], upd_same, .nil, Keeps.rfl, r0⟩
  · rintro i H hi ⟨xs, e1, e2, kp, rr⟩
    exact hG D H (.inr (back kp)) hD
  · rintro i x H H' hi ⟨xs, e1, e2, kp, rr⟩ ⟨rfl, hx⟩
    refine ⟨hw x, ?_⟩
    refine ht D hD i x hi hx H' n _ (back kp) rr bd fun H2 k2 r2 => ?_
    have eD2 : H2 D = some (.lst xs) := k2.at (one_no aD) e1
    have kp2 : Keeps (fun b => one a b || decide (b = D)) (upd H1 D (.lst [])) H2 := Keeps.of fun b o hb e => k2.at (Bool.or_eq_false_iff.mp hb).1 (kp.at hb e)
    have e22 := DfAll.keep e2 (keeps_one rr.sa k2)
    cases hc : c i with
    | false =>
      show (if false = true then _ else _)
      rw [if_neg Bool.false_ne_true]
      refine ⟨xs, eD2, ?_, kp2, r2⟩
      rw [range_filter_succ, hc, if_neg Bool.false_ne_true, List.append_nil]
      exact e22
    | true =>
      show (if true = true then _ else _)
      rw [if_pos rfl]
      refine he D hD i x hi hx hc H2 n _ (back kp2) r2 (by omega) fun H3 v d k3 r3 hd ed => ?_
      subst ed
      have eD3 : H3 D = some (.lst xs) := k3.at (one_no aD) eD2
      have el := DfAll.len e2
      rw [List.length_map] at el
      have el2 : ((List.range i).filter c).length ≤ i := Nat.le_trans (List.length_filter_le _ _) (by rw [List.length_range]; exact Nat.le_refl _)
      refine ⟨xs, eD3, Nat.lt_of_lt_of_le (by omega : xs.length < 1000000) line20, xs ++ [v], upd_same, ?_, ?_, ?_⟩
      · rw [hid_upd (plusA_self S D), range_filter_succ, hc, if_pos rfl, List.map_append]
        exact DfAll.app (DfAll.keep e22 (keeps_one r2.sa k3)) (.cons hd .nil)
      · refine Keeps.of fun b o hb e => ?_
        have hb' : one a b = false ∧ decide (b = D) = false := Bool.or_eq_false_iff.mp hb
        rw [upd_ne (of_decide_eq_false hb'.2)]
        exact k3.at hb'.1 (kp2.at hb e)
      · exact rn_upd r3 aD
  · rintro H ⟨xs, e1, e2, kp, rr⟩
    refine q H D (Keeps.of fun b o hb e => ?_) (rn_out r rr) ?_
    · have nD : b ≠ D := ne_of_none e hD
      refine kp.at ?_ (by rw [upd_ne nD]; exact e)
      show (one a b || decide (b = D)) = false
      rw [hb, decide_eq_false nD]
      rfl
    · exact .lst (.inl (.inl (by rw [hid_at sD]; exact e1))) (DfAll.to e2 hid_plus)
/-- [e for x in range(i, j) if t] -/
theorem ev_lcRC {vs : List Nat} {slot : Nat} {lo : Int} {N : Nat} {c : Nat → Bool} {f : Nat → PyData} (hn : EvA K S a σ H0 tr 0 fun l => l = [.int lo, .int (lo + N)]) (hlo : -1000 ≤ lo) (hlo' : lo ≤ 1000) (hw : ∀ x, wipe ((wipe σ vs).set slot (some x)) vs = wipe σ vs) (few : N ≤ 1000)
    (ht : ∀ D H1, Same (hid S H0) (hid (plusA S D) H1) → ∀ i : Nat, i < N → EvT K (plusA S D) a ((wipe σ vs).set slot (some (.int (lo + i)))) H1 tt (c i))
    (he : ∀ D H1, Same (hid S H0) (hid (plusA S D) H1) → ∀ i : Nat, i < N → c i = true → Ev K (plusA S D) a ((wipe σ vs).set slot (some (.int (lo + i)))) H1 te 0 (· = f i)) :
    Ev K S a σ H0 (tLc (iRng2 tr) (gName slot) tt te vs) 0 (· = .list (((List.range N).filter c).map f)) := by
  intro H n Q k r b q
  refine hn H n _ k r (by omega) fun H1 xs ds k1 r1 hd e => ?_
  subst e
  obtain ⟨x, y, rfl, h1, h2⟩ := DfAll.two hd
  cases h1
  cases h2
  refine ⟨lo, lo + N, rfl, ⟨by omega, by omega, by omega, by omega⟩, ?_⟩
  rw [show (lo + (N : Int) - lo).toNat = N by omega]
  refine lc_evC (K := K) (S := S) (a := a) (n := n) (c := c) (f := f) (X := fun i x => x = .int (lo + (i : Int))) (walk_range (lo := lo) (n := N)) rfl hw r1 (by omega) (by omega) (fun _ _ _ _ => trivial) (fun D hD i x hi hx => ?_) (fun D hD i x hi hx => ?_) (fun H' D kk rr hd => q H' _ _ (k1.trans kk) rr hd rfl)
  · rw [hx]
    exact ht D _ (Same.trans (k.trans (keeps_one r.sa k1)) (hid_new hD)) i hi
  · rw [hx]
    exact he D _ (Same.trans (k.trans (keeps_one r.sa k1)) (hid_new hD)) i hi
/-- [e for x in xs if t], xs a list of data -/
theorem ev_lcLC {vs : List Nat} {slot : Nat} {es : List PyData} {c : Nat → Bool} {f : Nat → PyData} (hn : Ev K S a σ H0 tn 0 (· = .list es)) (hw : ∀ x, wipe ((wipe σ vs).set slot (some x)) vs = wipe σ vs) (few : es.length ≤ 100000)
    (ht : ∀ D H1, Same (hid S H0) (hid (plusA S D) H1) → ∀ (i : Nat) (x : V) (e : PyData), es[i]? = some e → Df K (hid (plusA S D) H1) x e → EvT K (plusA S D) a ((wipe σ vs).set slot (some x)) H1 tt (c i))
    (he : ∀ D H1, Same (hid S H0) (hid (plusA S D) H1) → ∀ (i : Nat) (x : V) (e : PyData), es[i]? = some e → Df K (hid (plusA S D) H1) x e → c i = true → Ev K (plusA S D) a ((wipe σ vs).set slot (some x)) H1 te 0 (· = f i)) :
    Ev K S a σ H0 (tLc (iList K tn) (gName slot) tt te vs) 0 (· = .list (((List.range es.length).filter c).map f)) := by
  intro H n Q k r b q
  refine hn H n _ k r (by omega) fun H1 x d k1 r1 hd e => ?_
  subst e
  obtain ⟨L, xs, rfl, hL, hxs⟩ := Df.lst_inv hd
  have el := DfAll.len hxs
  refine ⟨L, rfl, ⟨xs, Same.seq hid_same hL⟩, ?_⟩
  rw [← el] at few q
  refine lc_evC (K := K) (S := S) (a := a) (n := n) (c := c) (f := f) (X := fun i x => xs[i]? = some x) (walk_list (K := K) (a := L) (xs := xs)) rfl hw r1 (by omega) few (fun D H' kk hD => sq_keep hL hD kk) (fun D hD i x hi hx => ?_) (fun D hD i x hi hx => ?_) (fun H' D kk rr hd => q H' _ _ (k1.trans kk) rr hd rfl)
  · obtain ⟨e, he1, he2⟩ := DfAll.get hxs hx
    exact ht D _ (Same.trans (k.trans (keeps_one r.sa k1)) (hid_new hD)) i x e he1 (Df.to he2 (hid_new hD))
  · obtain ⟨e, he1, he2⟩ := DfAll.get hxs hx
    exact he D _ (Same.trans (k.trans (keeps_one r.sa k1)) (hid_new hD)) i x e he1 (Df.to he2 (hid_new hD))
end
theorem op_repUK {X : Cx} {K : PySem.W.Frag} (h : X.K = K) : OpR X (binaryOp .Mult) (rRepU K) := h ▸ op_repU
theorem op_eqDK {X : Cx} {K : PySem.W.Frag} (h : X.K = K) (hu : X.A.units + 64 < cLine) : OpR X (compareOp .Eq) (rEqD K) := h ▸ op_eqD hu
theorem op_neDK {X : Cx} {K : PySem.W.Frag} (h : X.K = K) (hu : X.A.units + 64 < cLine) : OpR X (compareOp .NotEq) (rNeD K) := h ▸ op_neD hu
theorem op_catQK {X : Cx} {K : PySem.W.Frag} (h : X.K = K) : OpR X (binaryOp .Add) (rCatQ K) := h ▸ op_catQ
section
variable {K : PySem.W.Frag} {S : Addr → Bool} {a : Option Addr} {σ : L2.St} {H0 : Hp} {te ta tb tn : TE} {tr : TA} {tt : TT} {m m1 m2 : Nat} {P P1 P2 : PyData → Prop} {R R1 : List PyData → Prop} {b : Bool}
theorem evt_yes : EvT K S a σ H0 tYes true := fun H n Q k r bd q => q H Keeps.rfl r
/-- [e for x in range(k)], told exactly -/
theorem ev_lcR1 {vs : List Nat} {slot : Nat} {N : Nat} {f : Nat → PyData} (hn : EvA K S a σ H0 tr 0 fun l => l = [.int (N : Int)]) (hw : ∀ x, wipe ((wipe σ vs).set slot (some x)) vs = wipe σ vs) (few : N ≤ 100000)
    (he : ∀ D H1, Same (hid S H0) (hid (plusA S D) H1) → ∀ i : Nat, i < N → Ev K (plusA S D) a ((wipe σ vs).set slot (some (.int (i : Int)))) H1 te 0 (· = f i)) :
    Ev K S a σ H0 (tLc (iRng1 tr) (gName slot) tYes te vs) 0 (· = .list ((List.range N).map f)) := by
  intro H n Q k r b q
  refine hn H n _ k r (by omega) fun H1 xs ds k1 r1 hd e => ?_
  subst e
  obtain ⟨x, _, rfl, h1, h2⟩ := DfAll.c hd
  obtain rfl := DfAll.n h2
  cases h1
  refine ⟨N, rfl, by omega, by omega, ?_⟩
  rw [Int.toNat_natCast]
  refine lc_evC (K := K) (S := S) (a := a) (n := n) (c := fun _ => true) (f := f) (X := fun i x => x = .int (0 + (i : Int))) (walk_range (lo := 0) (n := N)) rfl hw r1 (by omega) few (fun _ _ _ _ => trivial) (fun D hD i x hi hx => evt_yes) (fun D hD i x hi hx _ => ?_) (fun H' D kk rr hd => q H' _ _ (k1.trans kk) rr hd ?_)
  · rw [hx, Int.zero_add]
    exact he D _ (Same.trans (k.trans (keeps_one r.sa k1)) (hid_new hD)) i hi
  · rw [List.filter_eq_self.mpr fun _ _ => rfl]
/-- for x in range(i, j): .. -/
theorem ev_forR2 {tb : TS} {D : Ends} {n i : Nat} {H : Hp} (lo : Int) (N : Nat) (r : Rn S a n H) (b : n + m ≤ most) (h : EvA K S a σ H tr m fun l => l = [.int lo, .int (lo + N)]) (hlo : -1000 ≤ lo) (hlo' : lo ≤ 1000) (few : N ≤ 1000)
    (q : ∀ H1, Keeps (one a) H H1 → Rn S a (n + m) H1 → ∃ Pv : Nat → L2.St → Hp → Prop, Pv 0 σ H1 ∧ (∀ j σ' H', j < N → Pv j σ' H' → tb { D with nx := Pv (j + 1), ct := Pv (j + 1), bk := D.nx } (σ'.set i (some (.int (lo + (j : Int))))) H') ∧ ∀ σ' H', Pv N σ' H' → D.nx σ' H') :
    tFor (iRng2 tr) (gName i) tb D σ H := by
  refine ev_goA r b h fun H1 vs ds k1 r1 hd e => ?_
  subst e
  obtain ⟨x, y, rfl, h1, h2⟩ := DfAll.two hd
  cases h1
  cases h2
  obtain ⟨Pv, h0, hs, he⟩ := q H1 k1 r1
  refine ⟨lo, lo + N, rfl, ⟨by omega, by omega, by omega, by omega⟩, ?_⟩
  rw [show (lo + (N : Int) - lo).toNat = N by omega]
  exact for_range Pv h0 hs he
end
theorem lookup_one (f : Str) (v : V) : List.lookup f [(f, v)] = some v := by simp [List.lookup]
theorem ix_tupK {X : Cx} {K : PySem.W.Frag} (h : X.K = K) : IxR X (rIxT K) := h ▸ ix_tup
theorem ix_listK {X : Cx} {K : PySem.W.Frag} (h : X.K = K) : IxR X (rIxL K) := h ▸ ix_list
theorem call_lenKK {X : Cx} {K : PySem.W.Frag} (h : X.K = K) : CallR X (.builtin "len") (rLenQ K) := h ▸ call_len_seq
/-! ### data without lists stand apart from the source -/
mutual
def noL : PyData → Bool
  | .list _ | .dict _ => false
  | .tuple xs => noLs xs
  | _ => true
def noLs : List PyData → Bool
  | [] => true
  | x :: xs => noL x && noLs xs
end
theorem noLs_iff : ∀ {ds : List PyData}, noLs ds = true ↔ ∀ d ∈ ds, noL d = true
  | [] => ⟨fun _ d h => absurd h List.not_mem_nil, fun _ => rfl⟩
  | x :: xs => by
    rw [noLs, Bool.and_eq_true, noLs_iff (ds := xs)]
    constructor
    · rintro ⟨h1, h2⟩ d hd
      rcases List.mem_cons.mp hd with rfl | hd
      · exact h1
      · exact h2 d hd
    · intro h
      exact ⟨h x (List.mem_cons_self ..), fun d hd => h d (List.mem_cons_of_mem _ hd)⟩
mutual
theorem Df.hid1 {K : PySem.W.Frag} {H : Hp} {p : Addr} {n : Nat} (hs : Src H p n) : ∀ (d : PyData) (v : V), noL d = true → Df K H v d → Df K (hid (one (some p)) H) v d
  | .none, _, _, .non => .non
  | .bool _, _, _, .bl b => .bl b
  | .int _, _, _, .int i => .int i
  | .str _, _, _, .str x => .str x
  | .list _, _, h, _ => nomatch h
  | .tuple ds, _, h, .tup hT t => .tup (seqF_hid hs hT) (DfAll.hid1 hs ds _ h t)
theorem DfAll.hid1 {K : PySem.W.Frag} {H : Hp} {p : Addr} {n : Nat} (hs : Src H p n) : ∀ (ds : List PyData) (vs : List V), noLs ds = true → DfAll K H vs ds → DfAll K (hid (one (some p)) H) vs ds
  | [], _, _, .nil => .nil
  | d :: ds, _, h, .cons h1 h2 => by
    obtain ⟨a, b⟩ := Bool.and_eq_true_iff.mp (show (noL d && noLs ds) = true from h)
    exact .cons (Df.hid1 hs d _ a h1) (DfAll.hid1 hs ds _ b h2)
end
section
variable {K : PySem.W.Frag} {σ : L2.St} {H0 : Hp} {te ta tb tn : TE} {tr : TA} {tt t1 t2 : TT} {m m1 m2 m3 : Nat} {P P1 P2 : PyData → Prop} {R R1 : List PyData → Prop}
theorem ev_callT {p : Addr} {pre : List PyData → Prop} {post : List PyData → PyData → Prop} {E : XK} (h : EvA K (one (some p)) (some p) σ H0 tr m R) (h1 : ∀ ds, R ds → pre ds) (h2 : ∀ ds d, R ds → post ds d → noL d = true ∧ P d) : Ev K (one (some p)) (some p) σ H0 (tCall (spP K pre post) [] E tr) m P := by
  intro H n Q k r b q
  refine h H n _ k r b fun H1 vs ds k1 r1 hd pd => ?_
  rw [List.append_nil]
  refine ⟨ds, DfAll.bare hd, h1 ds pd, fun H2 v d s hv pp => ?_⟩
  obtain ⟨nl, pe⟩ := h2 ds d pd pp
  have r2 := r1.same s
  exact q H2 v _ (k1.trans (Keeps.same s)) r2 (Df.hid1 (r2.src p rfl) d v nl hv) pe
variable {S : Addr → Bool} {a : Option Addr} {b1 b2 : Bool}
theorem evt_or (h1 : EvT K S a σ H0 t1 b1) (h2 : b1 = false → EvT K S a σ H0 t2 b2) : EvT K S a σ H0 (tOr t1 t2) (b1 || b2) := fun H n Q k r bd q => h1 H n _ k r bd fun H1 k1 r1 => by
  cases b1 with
  | true => exact iteT (q H1 k1 r1)
  | false => exact iteF (h2 rfl H1 n _ (k.trans (keeps_one r.sa k1)) r1 bd fun H2 k2 r2 => q H2 (k1.trans k2) r2)
theorem evt_and (h1 : EvT K S a σ H0 t1 b1) (h2 : b1 = true → EvT K S a σ H0 t2 b2) : EvT K S a σ H0 (tAnd t1 t2) (b1 && b2) := fun H n Q k r bd q => h1 H n _ k r bd fun H1 k1 r1 => by
  cases b1 with
  | true => exact iteT (h2 rfl H1 n _ (k.trans (keeps_one r.sa k1)) r1 bd fun H2 k2 r2 => q H2 (k1.trans k2) r2)
  | false => exact iteF (q H1 k1 r1)
/-- if t: .., t told -/
theorem if_evt {t u : TS} {D : Ends} {n : Nat} {H : Hp} {b : Bool} (r : Rn S a n H) (bd : n ≤ most) (h : EvT K S a σ H tt b) (qT : b = true → ∀ H1, Keeps (one a) H H1 → Rn S a n H1 → t D σ H1) (qF : b = false → ∀ H1, Keeps (one a) H H1 → Rn S a n H1 → u D σ H1) : tIfS tt t u D σ H :=
  h H n _ Keeps.rfl r bd fun H1 k1 r1 => by
    cases b with
    | true => exact iteT (qT rfl H1 k1 r1)
    | false => exact iteF (qF rfl H1 k1 r1)
end
end DD

namespace DD
open PySem PySem.Spec PyProof.Rows L2
section
variable {K : PySem.W.Frag} {S : Addr → Bool} {a : Option Addr} {σ : L2.St} {H0 : Hp} {te ta tb tn : TE} {tr : TA} {m m1 m2 : Nat} {P P1 P2 : PyData → Prop} {R R1 : List PyData → Prop}
theorem dp_mapInt {K : PySem.W.Frag} {H : Hp} {f : Nat → Int} : ∀ l : List Nat, DfAll K H (l.map fun i => V.int (f i)) (l.map fun i => PyData.int (f i))
  | [] => .nil
  | i :: l => .cons (.int _) (dp_mapInt l)
/-- list(range(i, j)) -/
theorem ev_listRg {lo hi : Int} (ha : Ev K S a σ H0 ta 0 (· = .int lo)) (hb : Ev K S a σ H0 tb 0 (· = .int hi)) (ok : RgOk lo hi) (p : P (.list ((List.range (hi - lo).toNat).map fun i => PyData.int (lo + (i : Nat))))) : Ev K S a σ H0 (tLstRg (tRg2 ta tb)) 0 P := by
  intro H n Q k r b q
  refine ha H n _ k r (by omega) fun H1 x d k1 r1 hd e1 => ?_
  subst e1
  cases hd
  refine hb H1 n _ (k.trans (keeps_one r.sa k1)) r1 (by omega) fun H2 y e k2 r2 he e2 => ?_
  subst e2
  cases he
  exact ⟨lo, hi, rfl, rfl, ok, fun l nl => q _ _ _ (k1.trans (k2.trans (Keeps.new nl))) (r2.same (same_new nl)) (Df.newL (dp_mapInt _) nl (r2.th.new nl)) p⟩
end
end DD

namespace DD
open PySem PySem.Spec PyProof.Rows L2
/-! ### dict(t) of a tuple of pairs -/
section
variable {X : Cx}
theorem pairs_ofF {pins : List (Addr × Obj)} {σ : L2.St} {H : Hp} {s : Shared} (I : Inv X pins σ H s) : ∀ {ps : List Addr} {kvs : List (Key × V)}, Paired (fun p kv => SqT X.K H p [kV kv.1, kv.2]) ps kvs →
    ∃ (us : List (Value × Value)) (prs : List (Key × Value)), KV kvs prs ∧ us.length = ps.length ∧ prs.length = ps.length ∧ ∀ (j : Nat) (u v : Value), us[j]? = some (u, v) → ∃ (b : Addr) (k : Key), ps[j]? = some b ∧ prs[j]? = some (k, v) ∧ IsTup s.heap b #[u, v] ∧ (mixKind X.prog X.w).is k u = true
  | _, _, .nil => ⟨[], [], .nil, rfl, rfl, fun j u v e => by simp at e⟩
  | _, _, .cons (a := p) (b := kv) h t => by
    obtain ⟨us, prs, r, hl, hl2, hp⟩ := pairs_ofF I t
    obtain ⟨its, rv, ht, _⟩ := I.tuple h
    obtain ⟨u, y, ei, ru, ry⟩ := vals2 rv
    subst ei
    refine ⟨(u, y) :: us, (kv.1, y) :: prs, .cons ⟨rfl, ry⟩ r, by rw [List.length_cons, List.length_cons, hl], by rw [List.length_cons, List.length_cons, hl2], fun j u' v' e => ?_⟩
    cases j with
    | zero =>
      cases (Option.some.inj e)
      exact ⟨p, kv.1, rfl, rfl, ht, kV_is ru⟩
    | succ j =>
      obtain ⟨b, k, e1, e2, e3, e4⟩ := hp j u' v' (by simpa using e)
      exact ⟨b, k, by simpa using e1, by simpa using e2, e3, e4⟩
def rDictPT (K : PySem.W.Frag) : List V → Hp → VK → Prop := fun xs H Q => ∃ (a : Addr) (ps : List Addr) (kvs : List (Key × V)), xs = [.ref a] ∧ SqF K H a (ps.map V.ref) ∧ Paired (fun p kv => SqT K H p [kV kv.1, kv.2]) ps kvs ∧ ∀ p, H p = none → Q (.ref p) (upd H p (.dK (mergeK [] kvs)))
theorem call_dictPT {K : PySem.W.Frag} (hK : X.K = K) (hcalm : X.calm = true) : CallR X (.type "dict") (rDictPT K) := by
  subst hK
  intro pins s σ H xs us Q I r q
  obtain ⟨a, ps, kvs, ex, hq, hp, q⟩ := q
  subst ex
  obtain ⟨u, eu, rx⟩ := vals1 r
  subst eu
  cases rx
  obtain ⟨its, rv, pl, hz⟩ : ∃ its : List Value, Vals (ps.map V.ref) its ∧ PlainSeq "tuple" s.heap a its.toArray ∧ (ps.map V.ref).length ≤ sizeLine := by
    obtain ⟨o, hd, h | ⟨hk, hc, its, n, hdat, hz, rv⟩⟩ := hq
    · obtain ⟨ho, z, its, rv, ⟨o', ho', hc', n', hd'⟩⟩ := I.hok a _ h
      rw [ho] at ho'
      cases ho'
      exact ⟨its, rv, ⟨o, n', ho, hc', hd, hd'⟩, z⟩
    · have e := rv.length
      refine ⟨its.toList, rv, ⟨o, n, I.kIn a o hk, hc, hd, by simpa using hdat⟩, ?_⟩
      rw [e, Array.length_toList]
      exact hz
  have ei := refs_at rv
  subst ei
  rw [List.length_map] at hz
  obtain ⟨us, prs, rel, hl, hl2, hpr⟩ := pairs_ofF I hp
  refine PySem.call_dict_pairs (knd := mixKind X.prog X.w) (kvs := prs) (PairArg.tuple a (ps.map Value.ref).toArray (fun j => ps.getD j 0) us) (I.ok.hd hcalm) ⟨pl, ?_, fun j u v e => ?_⟩ ⟨by rw [hl2, hl], fun i key v e => ?_⟩ (by rw [hl]; exact hz) fun h' tk hd' k => ?_
  · rw [List.size_toArray, List.length_map, hl]
  · obtain ⟨b, k, e1, e2, e3, e4⟩ := hpr j u v e
    have eg : ps.getD j 0 = b := by
      rw [List.getD_eq_getElem?_getD, e1]
      rfl
    refine ⟨?_, .inl ?_⟩
    · show (ps.map Value.ref).toArray[j]? = some (.ref (ps.getD j 0))
      rw [List.getElem?_toArray, List.getElem?_map, e1, eg]
      rfl
    · show s.heap.IsTuple (ps.getD j 0) #[u, v]
      rw [eg]
      exact e3
  · obtain ⟨b, k, e1, e2, e3, e4⟩ := hpr i key v e
    exact ⟨k, e2, e4⟩
  · have hm : (s.heap.objs.size == sysModules) = false := beq_eq_false_iff_ne.mpr (Nat.ne_of_gt I.big)
    have hlen : (mergeK [] kvs).length ≤ sizeLine := by
      refine Nat.le_trans (length_mergeK kvs []) ?_
      rw [List.length_nil, Nat.zero_add, rel.length, hl2]
      exact hz
    exact ⟨.ref s.heap.objs.size, upd H s.heap.objs.size (.dK (mergeK [] kvs)), I.laid (t' := tk) (fun b o e => k b o (by simp) e) (Nat.le_refl _) (show ObjOk X.prog X.w _ _ _ (.dK (mergeK [] kvs)) from ⟨hlen, hm, merged [] prs, KV.merge rel .nil, hd'⟩), rfl, q _ (I.hok.fresh (Nat.le_refl _))⟩
end
theorem valV_merge {j : Key} : ∀ {more acc : List (Key × V)}, (more.map (·.1)).Nodup → valV (mergeK acc more) j = (valV more j).or (valV acc j)
  | [], acc, _ => by rw [valV_nil]; rfl
  | (k, y) :: r, acc, h => by
    obtain ⟨h1, h2⟩ := List.nodup_cons.mp h
    have ih := valV_merge (j := j) (more := r) (acc := putK acc k y) h2
    have e : mergeK acc ((k, y) :: r) = mergeK (putK acc k y) r := rfl
    rw [e, ih, valV_put]
    by_cases hj : k = j
    · rw [valV_pos (p := (k, y)) hj, if_pos hj.symm]
      have : valV r j = none := by
        cases hv : valV r j with
        | none => rfl
        | some v =>
          exfalso
          apply h1
          rw [hj]
          have : (valV r j).isSome = true := by rw [hv]; rfl
          rw [← valV_any, List.any_eq_true] at this
          obtain ⟨x, hx, hx2⟩ := this
          exact List.mem_map.mpr ⟨x, hx, of_decide_eq_true hx2⟩
      rw [this]
      rfl
    · rw [valV_neg (p := (k, y)) hj, if_neg (fun z => hj z.symm)]
end DD

namespace DD
open PySem PySem.Spec PyProof.Rows L2
/-! ### several clauses, each with the same name behind 'as' -/
def wOr (K : PySem.W.Frag) (i : Nat) (Wo : WX) (D : Ends) : List (Value × (Addr → Value → Option Addr → TS)) → WX
  | [] => Wo
  | p :: l => wAs K p.1 i p.2 (wOr K i Wo D l) D
inductive Clauses (X : Cx) (n : Str) : List ExceptHandler → List (Value × (Addr → Value → Option Addr → TS)) → Prop
  | nil : Clauses X n [] []
  | cons {x : Str} {c : Value} {ts : Addr → Value → Option Addr → TS} {b0 : Stmt} {ss : List Stmt} {p1 p2 : Pos} {hl : List ExceptHandler} {l : List (Value × (Addr → Value → Option Addr → TS))} (nm : Names X x c)
      (run : ∀ (ea : Addr) (eo : Obj) (cl : Value) (dd : Option Addr) (pn : List (Addr × Obj)), Zc cl dd eo → (∃ fs, eo.data = .fields fs) → PSs (X.suite ea ((ea, eo) :: pn)) (b0 :: ss) (ts ea cl dd)) (more : Clauses X n hl l) :
      Clauses X n (.ExceptHandler (some (.Name x p1)) (some n) (b0 :: ss) p2 :: hl) ((c, ts) :: l)
section
variable {X : Cx} {n : Str} {i : Nat} {ss : List Stmt} {h1 : ExceptHandler} {hl : List ExceptHandler} {l : List (Value × (Addr → Value → Option Addr → TS))} {pos : Pos} {tb : WX → TS} {Wo : WX}
theorem ps_try_or (est : X.stack = X.env :: X.outer) (efr : X.env.frame = some X.env.locals) (nd : X.N.Nodup) (ni : X.N[i]? = some n) (nl : X.env.kindOf n = some .local) (tk : Takes X Wo)
    (hb : ∀ (W : WX) (pn : List (Addr × Obj)) (xe : Value → Shared → Prop), Takes (X.tr pn xe) W → PassesOwn (model X.prog X.w) X.A X.env xe → PSs (X.tr pn xe) ss (tb W))
    (cl : Clauses X n (h1 :: hl) l) : PS X (.Try ss (h1 :: hl) [] [] pos) (fun D σ H => tb (wOr X.K i Wo D l) D σ H) := by
  refine ⟨fun ip st σ H D J0 go => ?_⟩
  have okX := J0.ok
  have efs : X.A.frames = some (X.env :: X.outer) := okX.frames.trans (congrArg some est)
  have own : Loc X.env.scope n := Or.inl nl
  refine wpAny_Try_except (wpAny_mono ((hb (wOr X.K i Wo D l) (X.pn ++ ip) (fun e t1 => wpAny (model X.prog X.w) X.A (noteFrame e X.env) (fun _ t2 => wpAny (model X.prog X.w) X.A (setFlight e none) (fun _ t3 =>
    wpAny (model X.prog X.w) X.A (handleBy e X.env (h1 :: hl)) (SP X ip D) X.xe t3) X.xe t2) X.xe t1) (fun u sx thrown => ?_) PassesOwn.looking).run [] st σ H D (J0.toTry _) go) (fun f sx hf => ?_) (fun e sx z => z))
  · obtain ⟨ea, B, sI, ip', σ1, G, cv, dv, rfl, Jx, nb, up, sk, nea, eos, eag, wish⟩ := thrown
    have J1 : Inv X ip σ1 G sI := Jx.ofTry okX
    have sk1 : Sky B (X.env :: X.outer) ea (Zc cv dv) X.env.locals sx.heap := est ▸ sk
    show wpAny (model X.prog X.w) X.A (noteFrame (Value.ref ea) X.env) _ _ _
    refine Sky.land Zc.steady efs efr sk1 fun hp3 fly3 up3 => ?_
    have J3 : Inv X ip σ1 G { sx with heap := hp3 } := J1.landed nb fly3.1 (up.trans up3) eos eag
    obtain ⟨eo3, fs3, at3, z3, dt3⟩ := fly3.there
    have out : ea ∉ frs (X.env :: X.outer) := fun z => by
      obtain ⟨_, o2, q2, bad⟩ := fly3.2.2.1.mem z
      obtain rfl := Option.some.inj (at3.symm.trans q2)
      exact bad _ dt3
    have neL : ea ≠ X.env.locals := fun z => out (List.mem_filterMap.mpr ⟨X.env, List.mem_cons_self, efr.trans (congrArg some z.symm)⟩)
    have neF : ea ∉ X.fs := fun z => by
      obtain ⟨e2, q1, q2⟩ := List.mem_filterMap.mp z
      exact out (List.mem_filterMap.mpr ⟨e2, List.mem_cons_of_mem _ q1, q2⟩)
    have JS := J3.suite at3 dt3 nea neL neF
    have each : ∀ {ha : List ExceptHandler} {la : List (Value × (Addr → Value → Option Addr → TS))}, Clauses X n ha la → wOr X.K i Wo D la cv dv σ1 G →
        wpAny (model X.prog X.w) X.A (handleBy (.ref ea) X.env ha) (SP X ip D) X.xe { sx with heap := hp3 } := by
      intro ha la hc
      induction hc with
      | nil =>
        intro w
        obtain ⟨_, _, _, eo, fs, TB, _, _, q1, _, q3, q4, _⟩ := id fly3
        refine wpAny_handleBy_nil ?_
        unfold PySem.passOn
        refine wpAny_bind (wpAny_field q1 q3 q4 ?_)
        rw [if_neg (by simp : ¬ ((Value.ref TB == Value.none) = true))]
        have thr : wpAny (model X.prog X.w) X.A (setFlight (.ref ea) X.env.frame) (fun _ t4 => wpAny (model X.prog X.w) X.A (throw (.ref ea) : Sem Flow) (SP X ip D) X.xe t4) X.xe { sx with heap := hp3 } := by
          rw [efr]
          exact HandSPX.setFlight_upZ fly3 fun hp4 f4 up4 => wpAny_throw (tk _ _ ⟨ea, B, sI, ip, σ1, G, cv, dv, rfl, J1, nb, (up.trans up3).trans up4, Or.inr (Or.inr (est.symm ▸ f4)), nea, eos, eag, w⟩)
        first | exact wpAny_bind thr | exact wpAny_bind (wpAny_pure (wpAny_bind thr))
      | @cons x c ts b0 sb p1 p2 h2 l2 nm run more ih =>
        intro ⟨b, hb1, yes, no⟩
        refine wpAny_handleBy_cons (codeAny_handlers_test ?_) (fun z => nomatch z)
        have see : PySem.W.Looks (model X.prog X.w) hp3 (typeOf (.ref ea)) cv := fun A Q E t k q => wpAny_typeOf_ref (k _ _ at3) (by rw [z3.1]; exact q)
        have meets := PySem.W.exm_one (M := model X.prog X.w) J3.kIn see hb1
        have asked : ∀ {Q : Value → Shared → Prop} {E : Value → Shared → Prop}, Q c { sx with heap := hp3 } → wpAny (model X.prog X.w) (X.A.mark (some (.ref ea))) (eval (.Name x p1) X.env) Q E { sx with heap := hp3 } := fun {Q E} q =>
          match nm with
          | ⟨gl, nd', .inl gm⟩ => ld_glob (X := X.suite ea ((ea, eo3) :: (X.pn ++ ip))) JS gl gm q nd'
          | ⟨gl, nd', .inr ⟨gm, gv, gn⟩⟩ => ld_blt (X := X.suite ea ((ea, eo3) :: (X.pn ++ ip))) JS gl gm gv q gn nd'
        refine asked (meets.here ?_)
        cases b with
        | false => exact ih (no rfl)
        | true =>
          refine codeAny_handlers_suite_as (HandSPX.lands_againZ fly3 fun hp4 fly4 up4 => ?_)
          have J4 : Inv X ip σ1 G { sx with heap := hp4 } := J1.landed nb fly4.1 ((up.trans up3).trans up4) eos eag
          obtain ⟨eo4, fs4, at4, z4, dt4⟩ := fly4.there
          have S4 := J4.suite at4 dt4 nea neL neF
          refine store_ok (X := X.suite ea ((ea, eo4) :: (X.pn ++ ip))) (v := .ref ea) S4 nd ni own rfl (fun t5 S5 => ?_) (Or.inr nl)
          refine wpAny_mono ((run ea eo4 cv dv (X.pn ++ ip) z4 ⟨_, dt4⟩).run [] t5 _ G _ S5 (yes rfl ea nea)) (fun f t6 res => ?_) (fun _ _ z => z.elim)
          have shut : ∀ {σ6 : L2.St} {G6 : Hp} {Q : Shared → Prop}, Inv (X.suite ea ((ea, eo4) :: (X.pn ++ ip))) [] σ6 G6 t6 → (∀ t7, Inv X ip (σ6.set i none) G6 t7 → Q t7) →
              wpAny (model X.prog X.w) X.A (do bindName X.env n .none; unbindBehindTheSuite X.env n p2) (fun _ t7 => Q t7) X.xe t6 := fun {_ _ _} S6 k => gone_ok (S6.unsuite okX) nd ni nl k
          match f, res with
          | .next, ⟨_, _, S6, k⟩ => exact shut S6 fun _ J7 => ⟨_, _, J7, k⟩
          | .brk, ⟨_, _, S6, k⟩ => exact shut S6 fun _ J7 => ⟨_, _, J7, k⟩
          | .cont, ⟨_, _, S6, k⟩ => exact shut S6 fun _ J7 => ⟨_, _, J7, k⟩
          | .ret _, ⟨_, _, _, S6, r6, k⟩ => exact shut S6 fun _ J7 => ⟨_, _, _, J7, r6, k⟩
    exact each cl wish
  · match f, hf with
    | .next, ⟨_, _, Ja, k⟩ => exact wpAny_execs_nil ⟨_, _, Ja.ofTry okX, k⟩
    | .brk, ⟨_, _, Ja, k⟩ => exact ⟨_, _, Ja.ofTry okX, k⟩
    | .cont, ⟨_, _, Ja, k⟩ => exact ⟨_, _, Ja.ofTry okX, k⟩
    | .ret _, ⟨_, _, _, Ja, r, k⟩ => exact ⟨_, _, _, Ja.ofTry okX, r, k⟩
end
/-- isinstance(e, (c1, c2, ..)), e the exception under the suite's name -/
def rIsEdT (K : PySem.W.Frag) (D a : Addr) (d : Option Addr) : List V → Hp → VK → Prop := fun xs H Q => ∃ (tp : Addr) (cs : List V) (us : List Value) (b : Bool) (dd : Addr) (fs : List (Str × V)), xs = [.ref a, .ref tp] ∧ H tp = some (.tup cs) ∧ Paired ClsV cs us ∧ d = some dd ∧ H dd = some (.xd fs) ∧ PySem.W.kitAny K (.ref D) us = some b ∧ Q (.bl b) H
theorem call_isEdT {X : Cx} {a D : Addr} {d : Option Addr} {oe : Obj} {pn : List (Addr × Obj)} {cls : Value} (C : ExcC X.K D) (hcl : (PySem.W.clsIn X.K D).isSome = true) (hz : Zc cls d oe) (hf : ∃ vs, oe.data = .fields vs) : CallR (X.suite a ((a, oe) :: pn)) (.builtin "isinstance") (fun xs H Q => cls = .ref D ∧ rIsEdT X.K D a d xs H Q) := by
  intro pins s σ H xs us Q I r h
  obtain ⟨rfl, tp, cs, ws, b, dd, fs, rfl, hT, k, rfl, hdd, e, q⟩ := h
  cases r with
  | cons rx rr =>
    cases rr with
    | cons rt rr =>
      cases rr
      cases rx
      cases rt
      obtain ⟨hget, _⟩ := I.pin (a, oe) (List.mem_append.mpr (.inl List.mem_cons_self))
      obtain ⟨vs, hv⟩ := hf
      have hx : ObjOk X.prog X.w H s.heap dd (.xd fs) := I.hok dd _ hdd
      obtain ⟨mA, hns, hr⟩ := hx
      obtain ⟨od, ho, hl⟩ := lookIn_ns hns
      have J : PySem.W.InstAt s.heap a oe D (some od) := ⟨hget, hz.1, by unfold PySem.W.notCls; rw [hv] <;> rfl, by rw [hz.2]; exact ho⟩
      have hto : ObjOk X.prog X.w H s.heap tp (.tup cs) := I.hok tp _ hT
      obtain ⟨_, its, rv, o, g1, g2, n, g3⟩ := hto
      have e3 := ClsV.all k rv
      subst e3
      obtain ⟨oc, od2, dt, sl⟩ := o
      cases (show oc = _ from g2)
      cases (show dt = _ from g3)
      exact PySem.W.kia_tup (PySem.W.kitx_exc hcl C.hg C.hk C.hs C.ha C.hn C.ht C.hm) I.kIn J g1 e (fun z => nomatch z) fun tk => ⟨.bl b, H, I.kept (t' := tk) fun _ _ z => z, rfl, q⟩
end DD

namespace DD
open PySem PySem.Spec PyProof.Rows L2 LamX
/-! ### the head where tables of code objects are written -/
abbrev noTab : Obj := { cls := .none, data := .fields #[] }
def MainB (mg : Str → Option Value) (h : Heap) : Prop := ∃ (m : Addr) (o : Obj), mg "__builtins__" = some (.ref m) ∧ m ≠ builtinsNs ∧ h.get? m = some o ∧ o.cls = .type "module" ∧ o.dict = some builtinsNs ∧ o.data = .plain
theorem law_runT {P : Program} {w : World} {K : PySem.W.Frag} {mg mb : Str → Option Value} {CX : CXT} {k : Nat} {fa a : Addr} {cs : List (Addr × Addr)} {fd : FuncData} {x : Str} {sp : Sp} {s1 : Shared} {its : List Value} {ns : List Int}
    (inK : K.In s1.heap) (gl : s1.heap.Ns mainGlobals mg) (bl : s1.heap.Ns builtinsNs mb) (bb : ∀ y : Str, y ≠ "__name__" → mb y = bootBuiltins y) (lim : s1.heap.NoLimit) (gens : s1.gens = #[])
    (tabs : ∀ p ∈ cs, s1.heap.get? p.2 = some noTab) (loose : ∀ p ∈ cs, K.lookup p.2 = none) (heads : ∀ p ∈ cs, PySem.W.CodeHd s1.heap p.1 p.2) (bm : MainB mg s1.heap)
    (ha : s1.heap.get? a = some { cls := .type "list", data := .seq its.toArray }) (hiv : IntsAre its ns) (few : ns.length ≤ sizeLine) (hr : Room k callerA)
    (F : ∀ base : Heap, K.In base → base.Ns mainGlobals mg → (∀ p ∈ cs, TabB base mg p.1 p.2) → FnR P w K mg base CX k fa fd [x] sp) (bind : ∀ (s : Shared) (u : Value), BindsTo s fd ⟨[u], []⟩ [(x, u)])
    (hsp : ∀ H : Hp, (∀ p ∈ cs, H p.2 = some (.tbl #[])) → SqL K H a (ns.map V.int) → sp [.ref a] H (fun v _ => v = .bl true) fun _ _ _ => False)
    (none_leaves : ∀ H e s', CX [] H s1 (fun _ _ _ => False) e s' → False) :
    codeAny (model P w) callerA (.call (.ref fa) ⟨[.ref a], []⟩) (fun r s' => r = .ok (.ret (.bool true)) ∧ OldK s1.heap s'.heap ∧ s'.os = s1.os ∧ AllBare s'.gens) s1 := by
  have rv : Vals (ns.map V.int) its := vals_ints hiv
  have tab : ∀ {b : Addr}, (∃ p ∈ cs, p.2 = b) → s1.heap.get? b = some noTab := fun ⟨p, hp, e⟩ => e ▸ tabs p hp
  have key : ∀ H : Hp, (∀ p ∈ cs, H p.2 = some (.tbl #[])) → (∀ b, H b = none ∨ (∃ p ∈ cs, p.2 = b) ∨ ∃ o xs, H b = some (.frz o (.lst xs))) → SqL K H a (ns.map V.int) → HOk P w H s1.heap → (∀ c, H c ≠ none → c = a ∨ ∃ p ∈ cs, p.2 = c) → (H a ≠ none → K.lookup a = none) →
      codeAny (model P w) callerA (.call (.ref fa) ⟨[.ref a], []⟩) (fun r s' => r = .ok (.ret (.bool true)) ∧ OldK s1.heap s'.heap ∧ s'.os = s1.os ∧ AllBare s'.gens) s1 := by
    intro H isT only seq hok hA hK
    -- an object that is neither a list nor a table is not tracked
    have free : ∀ {b : Addr} {o : Obj}, s1.heap.get? b = some o → (∀ y n, o.data ≠ .seq y n) → o.data ≠ .fields #[] → H b = none := fun {b o} e n1 n2 => by
      by_cases q : H b = none
      · exact q
      rcases hA b q with z | z
      · rw [z, ha] at e
        exact absurd (congrArg Obj.data (Option.some.inj e)).symm (n1 _ _)
      · rw [tab z] at e
        exact absurd (congrArg Obj.data (Option.some.inj e)).symm n2
    have keep : ∀ {b : Addr} {o : Obj}, s1.heap.get? b = some o → (∀ y n, o.data ≠ .seq y n) → o.data ≠ .fields #[] → (hidT s1.heap H).get? b = some o := fun e n1 n2 => hidT_get e (free e n1 n2)
    have ns : ∀ {b : Addr} {m : Str → Option Value}, s1.heap.Ns b m → (hidT s1.heap H).Ns b m := fun ⟨o, es, ep, e, d, r⟩ => ⟨o, es, ep, keep e (fun _ _ z => by rw [d] at z; cases z) (fun z => by rw [d] at z; cases z), d, r⟩
    have hKb : K.In (hidT s1.heap H) := fun b o e => hidT_get (inK b o e) (by
      by_cases q : H b = none
      · exact q
      rcases hA b q with z | ⟨p, hp, z⟩
      · rw [z] at e q
        rw [hK q] at e
        cases e
      · rw [← z, loose p hp] at e
        cases e)
    have hM : Mod K mg (hidT s1.heap H) := ⟨hKb, ns gl, ⟨mb, ns bl, bb⟩, lim.elim fun mc z => ⟨mc, ns z.1, z.2⟩⟩
    have tb : ∀ p ∈ cs, TabB (hidT s1.heap H) mg p.1 p.2 := fun p hp => by
      obtain ⟨go, ges, gep, ge, gd, _⟩ := gl
      refine ⟨?_, ?_, fun z => ?_⟩
      · obtain ⟨o, us, f1, f2, f3, f4, f5, f6, f7, e1, r1, r2, r3, r4⟩ := heads p hp
        refine ⟨o, us, f1, f2, f3, f4, f5, f6, f7, keep e1 (fun _ _ z => ?_) (fun z => ?_), r1, r2, r3, r4⟩
        · rw [r2] at z
          cases z
        · rw [r2] at z
          cases z
          simp at r3
      · obtain ⟨m, o, b1, b2, b3, b4, b5, b6⟩ := bm
        refine ⟨m, o, b1, b2, fun q => ?_, fun q => ?_, keep b3 (fun _ _ z => ?_) (fun z => ?_), b4, b5, b6⟩
        · rw [q, ge] at b3
          cases b3
          rw [gd] at b6
          cases b6
        · rw [q, tabs p hp] at b3
          cases b3
          cases b6
        · rw [b6] at z
          cases z
        · rw [b6] at z
          cases z
      · rw [z, tabs p hp] at ge
        cases ge
        cases gd
    have e0 : Env0 P w K mg (hidT s1.heap H) callerA [] s1 H :=
      ⟨rfl, hM, fun b o e => of_hidT e, Nat.le_of_eq (hidT_size _ _), trivial, fun b z => absurd z List.not_mem_nil, hok, .of_eq gens⟩
    refine codeAny_mono ((F _ hKb (ns gl) tb).go callerA rfl [] s1 H ⟨[.ref a], []⟩ [.ref a] [.ref a] _ _ hr e0 (bind s1 (.ref a)) (.cons rfl .nil) (hsp H isT seq)) fun r s' h => ?_
    match r, h with
    | .error e, h => exact (none_leaves H e s' h).elim
    | .ok (.ret u), ⟨v, H', os, bare, un, hok', r', q⟩ =>
      cases (show v = .bl true from q)
      cases (show u = Value.bool true from r')
      have later : ∀ b o, s1.heap.get? b = some o → (∃ p ∈ cs, p.2 = b) ∨ s'.heap.get? b = some o := fun b o e => by
        rcases only b with z | z | ⟨ob, xs, z⟩
        · exact .inr (un.keep b o e z (fun y => absurd y List.not_mem_nil) List.not_mem_nil)
        · exact .inl z
        · refine .inr ?_
          have before := (hok b _ z).1
          rw [e] at before
          cases before
          exact (hok' b _ (un.frzs b _ _ z)).1
      have longer : ∀ p ∈ cs, ∃ more : Array Value, s'.heap.get? p.2 = some { cls := .none, data := .fields more } := fun p hp => by
        obtain ⟨more, z⟩ := un.tbls p.2 #[] (isT p hp)
        exact ⟨_, hok' p.2 _ z⟩
      refine ⟨rfl, ⟨fun b o e => ?_, fun b o e => ?_⟩, os, bare⟩
      · rcases later b o e with ⟨p, hp, z⟩ | z
        · obtain ⟨more, hm⟩ := longer p hp
          subst z
          rw [tabs p hp] at e
          cases e
          exact .inr (.inl ⟨((heads p hp).tab (tabs p hp)).isCodeTable, rfl, #[], more, rfl, by rw [Array.empty_append]; exact hm⟩)
        · exact .inl z
      · rcases later b o e with ⟨p, hp, z⟩ | z
        · exact z ▸ (longer p hp).elim fun _ hm => ⟨_, hm⟩
        · exact ⟨o, z⟩
  have no_tab : ¬ ∃ p ∈ cs, p.2 = a := fun z => by
    rw [tab z] at ha
    cases ha
  let T : Hp := fun b => open Classical in if ∃ p ∈ cs, p.2 = b then some (.tbl #[]) else none
  have T1 : ∀ {b : Addr}, (∃ p ∈ cs, p.2 = b) → T b = some (.tbl #[]) := fun h => if_pos h
  have T0 : ∀ {b : Addr}, (¬ ∃ p ∈ cs, p.2 = b) → T b = none := fun h => if_neg h
  cases hk : K.lookup a with
  | some o =>
    have same := inK a o hk
    rw [ha] at same
    cases same
    refine key T (fun p hp => T1 ⟨p, hp, rfl⟩) (fun b => ?_) (.inr ⟨_, its.toArray, _, hk, rfl, rfl, rfl, ?_, ?_⟩) (fun b u z => ?_) (fun b z => ?_) fun z => absurd (T0 no_tab) z
    · by_cases h : ∃ p ∈ cs, p.2 = b
      · exact .inr (.inl h)
      · exact .inl (T0 h)
    · rw [List.size_toArray, hiv.length]
      exact few
    · simpa using rv
    · by_cases h : ∃ p ∈ cs, p.2 = b
      · cases (T1 h).symm.trans z
        exact tab h
      · cases (T0 h).symm.trans z
    · by_cases h : ∃ p ∈ cs, p.2 = b
      · exact .inr h
      · exact absurd (T0 h) z
  | none =>
    let G : Hp := upd T a (.frz { cls := .type "list", data := .seq its.toArray } (.lst (ns.map V.int)))
    have Ga : G a = some (.frz { cls := .type "list", data := .seq its.toArray } (.lst (ns.map V.int))) := upd_same
    have Gn : ∀ {b : Addr}, b ≠ a → G b = T b := fun h => upd_ne h
    refine key G (fun p hp => (Gn fun z => no_tab ⟨p, hp, z⟩).trans (T1 ⟨p, hp, rfl⟩)) (fun b => ?_) (.inl (.inr ⟨_, Ga⟩)) (fun b u z => ?_) (fun b z => ?_) fun _ => hk
    · by_cases h : b = a
      · exact .inr (.inr ⟨_, _, h ▸ Ga⟩)
      · by_cases h2 : ∃ p ∈ cs, p.2 = b
        · exact .inr (.inl h2)
        · exact .inl ((Gn h).trans (T0 h2))
    · by_cases h : b = a
      · subst h
        cases Ga.symm.trans z
        exact ⟨ha, by rw [List.length_map]; exact few, its, _, rv, ha⟩
      · rw [Gn h] at z
        by_cases h2 : ∃ p ∈ cs, p.2 = b
        · cases (T1 h2).symm.trans z
          exact tab h2
        · cases (T0 h2).symm.trans z
    · by_cases h : b = a
      · exact .inl h
      · by_cases h2 : ∃ p ∈ cs, p.2 = b
        · exact .inr h2
        · exact absurd ((Gn h).trans (T0 h2)) z
/-- the tables of the text's defs, as the head leaves them -/
def TabsOf (q : Program) (K : PySem.W.Frag) (h : Heap) : Prop := ∀ (x : Str) (c P : Addr), ((recsOf q).any fun e => e.name == x) = true → PySem.W.tabIn K x = some (c, P) → PySem.W.CodeHd h c P ∧ h.get? P = some noTab
def LawT (l : PySem.W.OpenLaw) (w : World) (K : PySem.W.Frag) (CX : CXT) (k n : Nat) (x : Str) (mg : Str → Option Value) (fa : Addr) (h : Heap) : Prop :=
  ∃ (fd : FuncData) (cs : List (Addr × Addr)) (sp : Sp), (∀ p ∈ cs, PySem.W.CodeHd h p.1 p.2 ∧ h.get? p.2 = some noTab ∧ K.lookup p.2 = none) ∧ (∀ (s : Shared) (u : Value), BindsTo s fd ⟨[u], []⟩ [(x, u)]) ∧
    (∀ (H : Hp) (a : Addr) (ns : List Int), ns.length ≤ n → (∀ p ∈ cs, H p.2 = some (.tbl #[])) → SqL K H a (ns.map V.int) → sp [.ref a] H (fun v _ => v = .bl true) fun _ _ _ => False) ∧
    ∀ base : Heap, K.In base → base.Ns mainGlobals mg → (∀ p ∈ cs, TabB base mg p.1 p.2) → FnR l.prog w K mg base CX k fa fd [x] sp
theorem walkRT {l : PySem.W.OpenLaw} {n k : Nat} {q : Program} {loose : List Str} {XP : (Str → Option Value) → Heap → Prop} {YP : World → Heap → Prop} {d : DefRec} {K : Params → PySem.W.Frag} {CX : CXT} {x : Str}
    (hn : l.most = some n) (hn2 : n ≤ sizeLine) (hdf : d.params.defaults = []) (hr : Room k callerA) (hY : ∀ (w : World) (h : Heap), YP w h → (K w.params).In h)
    (F : ∀ (w : World) (mg : Str → Option Value) (fa : Addr) (h : Heap), (K w.params).In h → h.Ns mainGlobals mg → mg d.name = some (.ref fa) → TabsOf q (K w.params) h → LawT l w (K w.params) CX k n x mg fa h)
    (none_leaves : ∀ (H : Hp) (s : Shared) (e : Value) (s' : Shared), CX [] H s (fun _ _ _ => False) e s' → False) :
    PySem.W.WalkO q loose XP YP l.row.toRowW d [] (fun f vs => PySem.call f vs) := by
  refine Att.attach_call hn hdf fun w s0 s1 mg mb fa o pm cd doc a its ns G Y ho hd hcd hmg hobj hints hlen hg => ?_
  have inK := hY w _ Y
  obtain ⟨fd, cs, sp, hc, hb, hsp, hF⟩ := F w mg fa _ inK G.T.g hmg fun y c P any e => by
    obtain ⟨r, hr⟩ := Option.isSome_iff_exists.mp (List.find?_isSome.mpr (List.any_eq_true.mp any))
    exact PySem.W.tab_of G.T inK hr e
  exact law_runT inK G.T.g G.T.b G.T.builtins G.T.nolimit hg (fun p hp => (hc p hp).2.1) (fun p hp => (hc p hp).2.2) (fun p hp => (hc p hp).1) G.T.bmain hobj hints (Nat.le_trans hlen hn2) hr hF hb (fun H o1 o2 => hsp H a ns hlen o1 o2) fun H e s' => none_leaves H s1 e s'
/-- the table, by what is written -/
theorem tabIn_by {K : PySem.W.Frag} {x : Str} {f c P : Addr} {oc : Value} {od : Option Addr} {fd : FuncData} {osl : Array (Option Value)} {e : Value} {dd : Option Addr} {vs : Array Value} {sl : Array (Option Value)} (h1 : PySem.W.nsIn K mainGlobals x = some (some (.ref f))) (h2 : K.lookup f = some ⟨oc, od, .func fd, osl⟩) (h3 : fd.code = .ref c)
    (h4 : K.lookup c = some ⟨e, dd, .fields vs, sl⟩) (h5 : vs[11]? = some (.ref P)) : PySem.W.tabIn K x = some (c, P) := by
  unfold PySem.W.tabIn
  rw [h1]
  simp only [h2, h3, h4, h5]
/-- okR0, the code object told -/
theorem okR0C {P : Program} {w : World} {K : PySem.W.Frag} {mg : Str → Option Value} {base : Heap} {k : Nat} {f : Addr} {fd : FuncData} {ps : List Str} {sp : Sp} {x qual : Str} {st : Stmt} {N : List Str} (F : Fun K x qual st f fd) (S : FnScope N ps (defScope st))
    (cnt : ∀ xs H Q E, sp xs H Q E → xs.length = ps.length)
    (hb : ∀ (A : Around) (fr : List Env) (s : Shared) (H : Hp) (xs : List V) (Q : VK) (E : XK), A.guards = some [] → Room k (A.deeper (envOfC qual (defScope st) s.heap.objs.size f fd.code)) → sp xs H Q E →
      ∃ t, PSs (cxOf CX0 P w K mg base N qual (defScope st) f fd.code A fr s H E).nox (defBody st) t ∧ t { nx := fun _ H' => Q .non H', rt := Q } (start N xs) H) :
    FnR P w K mg base CX0 (k + 1) f fd ps sp := by
  obtain ⟨oc, od, kV, doc, pm, an, cdv, ct, osl, rfl, lk, hcd⟩ := F.ex
  refine ⟨cnt, fun A gd fr s H args us xs Q E room en bt rv hsp => ?_⟩
  have inK : K.In s.heap := en.mod.kin.keeps fun b o e => (en.bs b o e).1
  have nolim : s.heap.NoLimit := en.mod.nolimit.keeps fun b o e => (en.bs b o e).1
  refine codeAny_call_function room.depth (inK _ _ lk) rfl S.co S.gen rfl (PySem.W.codeRec_of inK hcd) (bt _ _ _ _ ?_)
  refine wpAny_newFunctionEnv_cells S.kind (fun y hy => (S.par y.1 (List.of_mem_zip (show (y.1, y.2) ∈ _ from hy)).1).elim .inl fun q => .inr ⟨q, PySem.W.cellsFrom_some _ _ _ (.inl q)⟩) fun env he s1 made => ?_
  subst he
  refine ⟨nolim.keeps made.toInCall.keep, codeAny_func ?_⟩
  obtain ⟨t, ht, hq⟩ := hb A fr s H xs Q E gd (room.deeper _) hsp
  have I := inv_start (CX := CX0) (E := E) S room.hd en (cnt _ _ _ _ hsp) rv made
  refine wpAny_mono (ht.nox.run [] s1 (start N xs) H _ I hq) (fun fl s' hs => ?_) fun e s' hs => hs
  cases fl with
  | ret u => exact let ⟨v, _, H', J, rv', q⟩ := hs; ⟨v, H', J.os, J.bare, J.base, J.hok, rv', q⟩
  | next => exact let ⟨_, H', J, q⟩ := hs; ⟨.non, H', J.os, J.bare, J.base, J.hok, rfl, q⟩
  | brk => exact False.elim hs.choose_spec.choose_spec.2
  | cont => exact False.elim hs.choose_spec.choose_spec.2
end DD

namespace DD
open PySem PySem.Spec PyProof.Rows L2 LamX
/-- what leaves, told with as many slots as there are names -/
theorem takes_len {X : Cx} {W : WX} {n : Nat} (t : Takes X W) (hn : X.N.length = n) : Takes X (fun cls d σ H => σ.length = n → W cls d σ H) := fun u s' ⟨a, B, sI, pins, σ, H, cls, d, e, I, nb, up, sky, na, os, ag, w⟩ =>
  t u s' ⟨a, B, sI, pins, σ, H, cls, d, e, I, nb, up, sky, na, os, ag, w (I.len.trans hn)⟩
/-- told: return ("none", a()), or what is told of an exception of CR, of CD, by its field -/
def kNone (Q : VK) : VK := fun v H => ([V.str "none", v] : List V).length ≤ sizeLine ∧ ∀ p o, H p = none → o.dict = none → Q (.ref p) (upd H p (.frz o (.tup [.str "none", v])))
def toldE (K : PySem.W.Frag) (n1 f1 : Str) (C1 : Addr) (cls : Value) (d : Option Addr) (Q : VK) (H : Hp) : Prop := ∃ (dd : Addr) (v : V) (x : PyData), d = some dd ∧ Df K H v x ∧ Good 900000 50 x ∧ cls = .ref C1 ∧ H dd = some (.xd [(f1, v)]) ∧ ∀ H2 u, Same H H2 → Df K H2 u (.tuple [.str n1, .str x.shown, .bool true]) → Q u H2
end DD

namespace DD
open PySem PySem.Spec PyProof.Rows L2 LamX
/-! ### all is kept but the tables -/
section
variable {K : PySem.W.Frag} {H H' : Hp}
theorem seqL_ext (e : ExtN H H') {a : Addr} {xs : List V} (h : SqL K H a xs) : SqL K H' a xs := by
  rcases h with (h | ⟨o, h⟩) | h
  · exact .inl (.inl (e _ _ h fun _ z => nomatch z))
  · exact .inl (.inr ⟨o, e _ _ h fun _ z => nomatch z⟩)
  · exact .inr h
theorem seqF_ext (e : ExtN H H') {a : Addr} {vs : List V} (h : SqF K H a vs) : SqF K H' a vs := by
  obtain ⟨o, hd, h | h⟩ := h
  · exact ⟨o, hd, .inl (e _ _ h fun _ z => nomatch z)⟩
  · exact ⟨o, hd, .inr h⟩
mutual
theorem Df.ext' (e : ExtN H H') : ∀ (d : PyData) (v : V), Df K H v d → Df K H' v d
  | .none, _, .non => .non
  | .bool _, _, .bl b => .bl b
  | .int _, _, .int i => .int i
  | .str _, _, .str x => .str x
  | .list ds, _, .lst h t => .lst (seqL_ext e h) (DfAll.ext' e ds _ t)
  | .tuple ds, _, .tup h t => .tup (seqF_ext e h) (DfAll.ext' e ds _ t)
theorem DfAll.ext' (e : ExtN H H') : ∀ (ds : List PyData) (vs : List V), DfAll K H vs ds → DfAll K H' vs ds
  | [], _, .nil => .nil
  | d :: ds, _, .cons h t => .cons (Df.ext' e d _ h) (DfAll.ext' e ds _ t)
end
theorem Df.ext {v : V} {d : PyData} (h : Df K H v d) (e : ExtN H H') : Df K H' v d := Df.ext' e d v h
theorem ext_same (e : Same H H') : ExtN H H' := ExtN.of e
theorem tabs_same {T : List (Addr × Str)} (t : Tabs T H) (e : Same H H') : Tabs T H' := t.ext e
/-- the tables stay where only the source was written -/
theorem tabs_keep {T : List (Addr × Str)} {p : Addr} {n : Nat} (t : Tabs T H) (s : Src H p n) (k : Keeps (one (some p)) H H') : Tabs T H' := fun q hq => by
  obtain ⟨ps, h1, h2, h3⟩ := t q hq
  obtain ⟨g, b, u, e, _⟩ := s
  have other : ∀ {c : Addr} {o : HO}, H c = some o → (∀ xs, o ≠ .lst xs) → H' c = some o := fun {c o} h ne => k.at (one_no fun z => by
    rw [← Option.some.inj z, e] at h
    exact ne _ (Option.some.inj h).symm) h
  refine ⟨ps, other h1 (fun _ z => nomatch z), h2, fun pos cv hc => ?_⟩
  obtain ⟨c, ec, hcc⟩ := h3 pos cv hc
  exact ⟨c, ec, other hcc (fun _ z => nomatch z)⟩
theorem tabs_one {P : Addr} {q : Str} (h : H P = some (.tbl #[])) : Tabs [(P, q)] H := fun p hp => by
  rw [List.mem_singleton.mp hp]
  exact TabS.nil h
end
/-- if told(lambda: ..) != due: .. -/
theorem if_told {K : PySem.W.Frag} {T : List (Addr × Str)} {TT : (XK → Hp → VK → Prop) → Hp → VK → Prop} {t : XK → TE} {te : TE} {σ : L2.St} {H : Hp} {D : Ends} {body : TS} (due : PyData) (hT : Tabs T H) (sh : SeqAt.shaped due = true) (eq : PyData.eqv due due = true)
    (run : ∀ H1, ExtN H H1 → Tabs T H1 → ∀ Q : VK, (∀ H2 u, ExtN H1 H2 → Tabs T H2 → Df K H2 u due → Q u H2) → TT (fun E H' Q' => t E σ H' Q') H1 Q)
    (dueE : ∀ H2, ExtN H H2 → Tabs T H2 → ∀ Q : VK, (∀ H3 w, Same H2 H3 → Df K H3 w due → Q w H3) → te σ H2 Q)
    (go : ∀ H3, ExtN H H3 → Tabs T H3 → D.nx σ H3) : tIfS (tTest (tOp (rNeD K) (tLam T TT t) te)) body tNext D σ H := by
  refine ⟨hT, fun H1 e1 t1 => run H1 e1 t1 _ fun H2 u e2 t2 hu => dueE H2 (e1.trans e2) t2 _ fun H3 w s3 hw => ⟨due, due, (Df.to hu s3).dp, hw.dp, sh, sh, ?_⟩⟩
  rw [eq]
  exact ⟨false, rfl, iteF (go H3 ((e1.trans e2).trans (ext_same s3)) (tabs_same t2 s3))⟩
end DD

namespace DD
open PySem PySem.Spec PyProof.Rows L2 LamX Builtin Builtin.Str
/-! ### the signs of repr's text -/
theorem reprChar_low {q c : Nat} (hq : q = 34 ∨ q = 39) (hc : c < 128) : ∀ x ∈ reprChar q c, x < 128 := by
  have all : ∀ c < 128, (reprChar 34 c).all (· < 128) = true ∧ (reprChar 39 c).all (· < 128) = true := by decide +kernel
  intro x hx
  rcases hq with rfl | rfl
  · exact of_decide_eq_true (List.all_eq_true.mp (all c hc).1 x hx)
  · exact of_decide_eq_true (List.all_eq_true.mp (all c hc).2 x hx)
theorem fold_low {q : Nat} (hq : q = 34 ∨ q = 39) : ∀ (l : List Nat) (acc : Array Nat), (∀ c ∈ acc.toList, c < 128) → (∀ c ∈ l, c < 128) → ∀ c ∈ (l.foldl (fun out c => out ++ (reprChar q c).toArray) acc).toList, c < 128
  | [], acc, ha, _ => ha
  | y :: r, acc, ha, hl => fold_low hq r (acc ++ (reprChar q y).toArray) (fun c hc => by
      rw [Array.toList_append] at hc
      rcases List.mem_append.mp hc with z | z
      · exact ha c z
      · exact reprChar_low hq (hl y List.mem_cons_self) c (by simpa using z)) fun c hc => hl c (List.mem_cons_of_mem _ hc)
theorem tidy_repr {x : Str} (h : tidy x = true) : tidy (reprText x) = true := by
  have hq : reprQuote x = 34 ∨ reprQuote x = 39 := by
    unfold reprQuote
    split
    · exact .inl rfl
    · exact .inr rfl
  have hx := tidy_iff.mp h
  refine tidy_iff.mpr fun c hc => ?_
  have e : (reprText x).cps.toList = (x.cps.toList.foldl (fun out c => out ++ (reprChar (reprQuote x) c).toArray) #[reprQuote x]).toList ++ [reprQuote x] := by
    unfold reprText
    rw [Array.foldl_toList]
    exact Array.toList_push
  rw [e] at hc
  rcases List.mem_append.mp hc with z | z
  · exact fold_low hq _ _ (fun c hc => by
      have e : c = reprQuote x := by simpa using hc
      omega) hx c z
  · rw [List.mem_singleton.mp z]
    omega
theorem tidy_from : ∀ (ts : List Str) (k : Nat) (acc : Str), tidy acc = true → (∀ t ∈ ts, tidy t = true) → tidy (textFrom k acc ts) = true
  | [], _, _, ha, _ => ha
  | t :: ts, k, acc, ha, h => tidy_from ts (k + 1) _ (tidy_app (tidy_app ha (by split <;> decide +kernel)) (h t List.mem_cons_self)) fun u hu => h u (List.mem_cons_of_mem _ hu)
theorem tidy_join : ∀ (ts : List Str), (∀ t ∈ ts, tidy t = true) → tidy (Str.join ", " ts) = true
  | [], _ => by decide +kernel
  | [x], h => h x List.mem_cons_self
  | x :: y :: r, h => tidy_app (tidy_app (h x List.mem_cons_self) (by decide +kernel)) (tidy_join (y :: r) fun t ht => h t (List.mem_cons_of_mem _ ht))
mutual
theorem tidy_shown : ∀ d : PyData, fine d = true → tidy d.shown = true
  | .none, _ => by decide +kernel
  | .bool b, _ => by cases b <;> decide +kernel
  | .int i, _ => tidy_int i
  | .str x, h => tidy_repr h
  | .list xs, h => tidy_app (tidy_from _ 0 "[" (by decide +kernel) (tidy_shownAll xs h)) (by decide +kernel)
  | .tuple xs, h => tidy_app (tidy_app (by decide +kernel) (tidy_join _ (tidy_shownAll xs h))) (by split <;> decide +kernel)
  | .dict _, h => nomatch h
theorem tidy_shownAll : ∀ ds : List PyData, fineAll ds = true → ∀ t ∈ PyData.shownAll ds, tidy t = true
  | [], _, t, ht => absurd ht List.not_mem_nil
  | x :: xs, h, t, ht => by
    obtain ⟨h1, h2⟩ := Bool.and_eq_true_iff.mp (show (fine x && fineAll xs) = true from h)
    rcases List.mem_cons.mp ht with z | z
    · rw [z]
      exact tidy_shown x h1
    · exact tidy_shownAll xs h2 t z
end
theorem due_eqv (n x : Str) : PyData.eqv (.tuple [.str n, .str x, .bool true]) (.tuple [.str n, .str x, .bool true]) = true := by
  show ((n == n) && ((x == x) && ((true == true) && true))) = true
  rw [beq_self_eq_true, beq_self_eq_true]
  rfl
end DD

namespace DD
open PySem PySem.Spec PyProof.Rows L2
/-! ### texts: repeated, joined, written in a text; walks in a comprehension -/
theorem op_mulS {X : Cx} : OpR X (binaryOp .Mult) (fun x y H Q => ∃ a k, x = .str a ∧ y = .int k ∧ MulOk a k ∧ Q (.str (Txt.mul a k)) H) := by
  intro pins s σ H x y v u Q I rx ry h
  obtain ⟨a, k, rfl, rfl, ok, q⟩ := h
  obtain ⟨t, rfl⟩ := rx
  obtain ⟨t2, rfl⟩ := ry
  exact SB.mul ok fun t' k' => ⟨.str _, H, I.tok k', ⟨t', rfl⟩, q⟩
theorem mt_joinK {X : Cx} {K : PySem.W.Frag} (h : X.K = K) : MtR X "str.join" (rJoinQ K) := h ▸ mt_join
theorem pi_listK {X : Cx} {tg l : Expr} {tl : TE} {K : PySem.W.Frag} (h : X.K = K) (hl : PE X l tl) : PI X tg l (iList K tl) := h ▸ pi_list hl
theorem pi_tupK {X : Cx} {tg l : Expr} {tl : TE} {K : PySem.W.Frag} (h : X.K = K) (hl : PE X l tl) : PI X tg l (iTup K tl) := h ▸ pi_tup hl
theorem pe_gc {X : Cx} {v : V} {x : Str} {p : Pos} (hg : Gl X x) (h : ∃ u, X.mg x = some u ∧ L2.RelV v u) (hdb : (x == ("__debug__" : Str)) = false := by decide) : PE X (.Name x p) (tC v) := by
  obtain ⟨u, h1, h2⟩ := h
  exact pe_glob hg h1 h2 hdb
section
variable {K : PySem.W.Frag} {S : Addr → Bool} {a : Option Addr} {σ : L2.St} {H0 : Hp} {te ta tb tn : TE} {tr : TA} {m m1 m2 m3 : Nat} {P P1 P2 : PyData → Prop} {R R1 : List PyData → Prop}
/-- sep.join(texts) -/
theorem ev_joinS {sep : Str} (hb : Ev K S a σ H0 te m P2) (h : ∀ d, P2 d → ∃ ys : List Str, d = .list (ys.map PyData.str) ∧ (ys.map (·.length)).sum + ys.length * sep.length ≤ 16777216 ∧ P (.str (Txt.join sep ys))) : Ev K S a σ H0 (tM1 (rJoinQ K) (tC (.str sep)) te) m P := by
  intro H n Q k r b q
  refine ⟨⟨_, rfl⟩, hb H n _ k r b fun H1 x d k1 r1 hd q1 => ?_⟩
  obtain ⟨ys, rfl, few, pe⟩ := h d q1
  obtain ⟨y, vs, rfl, hL, hv⟩ := Df.lst_inv hd
  obtain rfl := dp_strs hv
  exact ⟨_, y, _, rfl, rfl, .inl (Same.seq hid_same hL), few, q H1 _ _ k1 r1 (.str _) pe⟩
theorem ev_fmtS {x : Str} (h : Ev K S a σ H0 te m (· = .str x)) (few : x.length ≤ 100000) : Ev K S a σ H0 (tFmt te) m (· = .str x) := by
  intro H n Q k r b q
  refine h H n _ k r b fun H1 v d k1 r1 hd e => ?_
  subst e
  cases hd
  exact .inl ⟨x, rfl, Nat.le_trans (Nat.le_trans few (by decide : 100000 ≤ 1000000)) line20, q H1 _ _ k1 r1 (.str _) rfl⟩
theorem ev_fmtI {i : Int} (h : Ev K S a σ H0 te m (· = .int i)) (few : i.natAbs < 10 ^ 80) : Ev K S a σ H0 (tFmt te) m (· = .str (toString i)) := by
  intro H n Q k r b q
  refine h H n _ k r b fun H1 v d k1 r1 hd e => ?_
  subst e
  cases hd
  have := PySem.Flt.log2_lt_of (n := i.natAbs) (k := 300) (by decide) (Nat.lt_trans few e80)
  exact .inr ⟨i, rfl, by omega, q H1 _ _ k1 r1 (.str _) rfl⟩
/-- the parts of an f-string, told -/
def EvJ (K : PySem.W.Frag) (S : Addr → Bool) (a : Option Addr) (σ : L2.St) (H0 : Hp) : List TE → List Str → Prop
  | [], [] => True
  | t :: ts, y :: ys => Ev K S a σ H0 t 0 (· = .str y) ∧ EvJ K S a σ H0 ts ys
  | _, _ => False
theorem evj_run : ∀ {ts : List TE} {ys : List Str} {acc : Str} {H : Hp} {n : Nat} {Q : Str → Hp → Prop}, EvJ K S a σ H0 ts ys → acc.length + (ys.map (·.length)).sum ≤ 100000 → Keeps S H0 H → Rn S a n H → n ≤ most →
    (∀ H', Keeps (one a) H H' → Rn S a n H' → Q (ys.foldl (· ++ ·) acc) H') → tJs ts acc σ H Q
  | [], [], acc, H, n, Q, _, _, _, r, _, q => q H Keeps.rfl r
  | t :: ts, y :: ys, acc, H, n, Q, ⟨h1, h2⟩, few, k, r, b, q => by
    refine h1 H n _ k r b fun H1 v d k1 r1 hd e => ?_
    subst e
    cases hd
    have fl : (acc ++ y).length = acc.length + y.length := Str.length_append _ _
    have few' : acc.length + (y.length + (ys.map (·.length)).sum) ≤ 100000 := few
    refine ⟨y, rfl, Nat.le_trans (by rw [fl]; omega : (acc ++ y).length ≤ 1000000) line20, evj_run h2 (by rw [fl]; omega) (k.trans (keeps_one r.sa k1)) r1 b fun H' k2 r2 => q H' (k1.trans k2) r2⟩
  | [], _ :: _, _, _, _, _, h, _, _, _, _, _ => h.elim
  | _ :: _, [], _, _, _, _, h, _, _, _, _, _ => h.elim
theorem ev_joined {ts : List TE} {ys : List Str} (h : EvJ K S a σ H0 ts ys) (few : (ys.map (·.length)).sum ≤ 100000) : Ev K S a σ H0 (fun σ H Q => tJs ts Str.empty σ H fun out H1 => Q (.str out) H1) 0 (· = .str (ys.foldl (· ++ ·) Str.empty)) := by
  intro H n Q k r b q
  refine evj_run h (by show 0 + _ ≤ _; omega) k r b fun H' k' r' => q H' _ _ k' r' (.str _) rfl
/-- methods of texts -/
theorem ev_m0S {x : Str} {f : Str → Bool} (h : Ev K S a σ H0 te m (· = .str x)) : Ev K S a σ H0 (tM0 (fun x xs H Q => ∃ a, x = .str a ∧ xs = [] ∧ True ∧ Q (.bl (f a)) H) te) m (· = .bool (f x)) := by
  intro H n Q k r b q
  refine h H n _ k r b fun H1 v d k1 r1 hd e => ?_
  subst e
  cases hd
  exact ⟨⟨_, rfl⟩, x, rfl, rfl, trivial, q H1 _ _ k1 r1 (.bl _) rfl⟩
theorem ev_m1S {x y : Str} {r : V → List V → Hp → VK → Prop} {z : PyData} (ha : Ev K S a σ H0 ta m1 (· = .str x)) (hb : Ev K S a σ H0 tb m2 (· = .str y)) (h : ∀ (H : Hp) (Q : VK), (∀ v, Df K (hid S H) v z → Q v H) → r (.str x) [.str y] H Q) : Ev K S a σ H0 (tM1 r ta tb) (m1 + m2) (· = z) := by
  intro H n Q k r' b q
  refine ha H n _ k r' (by omega) fun H1 v d k1 r1 hd e => ?_
  subst e
  cases hd
  refine ⟨⟨_, rfl⟩, hb H1 (n + m1) _ (k.trans (keeps_one r'.sa k1)) r1 (by omega) fun H2 v d k2 r2 hd e => ?_⟩
  subst e
  cases hd
  exact h H2 _ fun v hv => q H2 v _ (k1.trans k2) (by rw [← Nat.add_assoc]; exact r2) hv rfl
theorem ev_starts {x y : Str} (ha : Ev K S a σ H0 ta m1 (· = .str x)) (hb : Ev K S a σ H0 tb m2 (· = .str y)) : Ev K S a σ H0 (tM1 (fun x xs H Q => ∃ a b, x = .str a ∧ xs = [.str b] ∧ Q (.bl (Txt.startswith a b)) H) ta tb) (m1 + m2) (· = .bool (Txt.startswith x y)) :=
  ev_m1S ha hb fun H Q q => ⟨x, y, rfl, rfl, q _ (.bl _)⟩
theorem ev_remove {x y : Str} (ha : Ev K S a σ H0 ta m1 (· = .str x)) (hb : Ev K S a σ H0 tb m2 (· = .str y)) (few : x.length ≤ 100000) : Ev K S a σ H0 (tM1 (fun x xs H Q => ∃ a b, x = .str a ∧ xs = [.str b] ∧ a.length ≤ sizeLine ∧ Q (.str (Txt.removeprefix a b)) H) ta tb) (m1 + m2) (· = .str (Txt.removeprefix x y)) :=
  ev_m1S ha hb fun H Q q => ⟨x, y, rfl, rfl, Nat.le_trans (Nat.le_trans few (by decide : 100000 ≤ 1000000)) line20, q _ (.str _)⟩
theorem ev_orC {x y : Bool} (h1 : Ev K S a σ H0 ta m1 (· = .bool x)) (h2 : x = false → Ev K S a σ H0 tb m2 (· = .bool y)) : Ev K S a σ H0 (tOrV ta tb) (m1 + m2) (· = .bool (x || y)) := by
  intro H n Q k r b q
  refine h1 H n _ k r (by omega) fun H1 v d k1 r1 hd e => ?_
  subst e
  cases hd
  cases x with
  | false =>
    refine ⟨false, rfl, iteF ?_⟩
    refine h2 rfl H1 (n + m1) _ (k.trans (keeps_one r.sa k1)) r1 (by omega) fun H2 v d k2 r2 hd e => ?_
    subst e
    exact q H2 v _ (k1.trans k2) (by rw [← Nat.add_assoc]; exact r2) hd rfl
  | true => exact ⟨true, rfl, iteT (q H1 _ _ k1 (r1.up (by omega)) (.bl true) rfl)⟩
theorem ev_notC {x : Bool} (h : Ev K S a σ H0 te m (· = .bool x)) : Ev K S a σ H0 (tNotV te) m (· = .bool (!x)) := by
  intro H n Q k r b q
  refine h H n _ k r b fun H1 v d k1 r1 hd e => ?_
  subst e
  cases hd
  exact ⟨x, rfl, q H1 _ _ k1 r1 (.bl _) rfl⟩
/-- [e for x in range(i, j, c)], told exactly -/
theorem ev_lcR3 {vs : List Nat} {slot : Nat} {lo hi c : Int} {N : Nat} {f : Nat → PyData} (hn : EvA K S a σ H0 tr 0 fun l => l = [.int lo, .int hi, .int c]) (ok : RgC lo hi c N) (hw : ∀ x, wipe ((wipe σ vs).set slot (some x)) vs = wipe σ vs) (few : N ≤ 100000)
    (he : ∀ D H1, Same (hid S H0) (hid (plusA S D) H1) → ∀ i : Nat, i < N → Ev K (plusA S D) a ((wipe σ vs).set slot (some (.int (lo + (i : Nat) * c)))) H1 te 0 (· = f i)) :
    Ev K S a σ H0 (tLc (iRng3 tr) (gName slot) tYes te vs) 0 (· = .list ((List.range N).map f)) := by
  intro H n Q k r b q
  refine hn H n _ k r (by omega) fun H1 xs ds k1 r1 hd e => ?_
  subst e
  obtain ⟨x, y, z, rfl, h1, h2, h3⟩ := DfAll.three hd
  cases h1
  cases h2
  cases h3
  refine ⟨lo, hi, c, N, rfl, ok, ?_⟩
  refine lc_evC (K := K) (S := S) (a := a) (n := n) (c := fun _ => true) (f := f) (X := fun i x => x = .int (lo + (i : Nat) * c)) (walk_rangeC (lo := lo) (c := c) (n := N)) rfl hw r1 (by omega) few (fun _ _ _ _ => trivial) (fun D hD i x hi hx => evt_yes) (fun D hD i x hi hx _ => ?_) (fun H' D kk rr hd => q H' _ _ (k1.trans kk) rr hd ?_)
  · rw [hx]
    exact he D _ (Same.trans (k.trans (keeps_one r.sa k1)) (hid_new hD)) i hi
  · rw [List.filter_eq_self.mpr fun _ _ => rfl]
/-- int(text) -/
theorem ev_intS {x : Str} {i : Int} (h : EvA K S a σ H0 tr m (· = [.str x])) (hi : PySem.intText? x = some i) (few : x.length ≤ 640) : Ev K S a σ H0 (tCB (fun xs H Q => ∃ a n, xs = [.str a] ∧ PySem.intText? a = some n ∧ a.length ≤ 640 ∧ Q (.int n) H) tr) m (· = .int i) :=
  ev_cb h fun H xs ds Q t hd pd q => by
    subst pd
    obtain ⟨v, _, rfl, h1, h2⟩ := DfAll.c hd
    obtain rfl := DfAll.n h2
    cases h1
    exact ⟨x, i, rfl, hi, few, q H _ _ (Same.refl H) (.int _) rfl⟩
theorem tl_cutS (z : Str) (lo hi : Option Int) : TL.tl (cutS z lo hi) = (TL.tl z |>.drop (HT.sIx z.length 0 lo)).take (HT.sIx z.length z.length hi - HT.sIx z.length 0 lo) := by
  simp [TL.tl, cutS]
/-! ### rules by exact values -/
theorem ev_iiX {f : Int → Int → Int} {i j : Int} (ha : Ev K S a σ H0 ta m1 (· = .int i)) (hb : Ev K S a σ H0 tb m2 (· = .int j)) : Ev K S a σ H0 (tOp (rI0 fun i j => .int (f i j)) ta tb) (m1 + m2) (· = .int (f i j)) :=
  ev_op ha hb fun H v w d e Q t hd he e1 e2 q => by
    subst e1 e2
    cases hd
    cases he
    exact ⟨i, j, rfl, rfl, q H _ _ (Same.refl H) (.int _) rfl⟩
theorem ev_iiCX {C : Int → Int → Prop} {f : Int → Int → Int} {i j : Int} (ha : Ev K S a σ H0 ta m1 (· = .int i)) (hb : Ev K S a σ H0 tb m2 (· = .int j)) (c : C i j) : Ev K S a σ H0 (tOp (rI C fun i j => .int (f i j)) ta tb) (m1 + m2) (· = .int (f i j)) :=
  ev_op ha hb fun H v w d e Q t hd he e1 e2 q => by
    subst e1 e2
    cases hd
    cases he
    exact ⟨i, j, rfl, rfl, c, q H _ _ (Same.refl H) (.int _) rfl⟩
theorem ev_ibX {f : Int → Int → Bool} {i j : Int} (ha : Ev K S a σ H0 ta m1 (· = .int i)) (hb : Ev K S a σ H0 tb m2 (· = .int j)) : Ev K S a σ H0 (tOp (rI0 fun i j => .bl (f i j)) ta tb) (m1 + m2) (· = .bool (f i j)) :=
  ev_op ha hb fun H v w d e Q t hd he e1 e2 q => by
    subst e1 e2
    cases hd
    cases he
    exact ⟨i, j, rfl, rfl, q H _ _ (Same.refl H) (.bl _) rfl⟩
theorem ev_negX {i : Int} (ha : Ev K S a σ H0 ta m (· = .int i)) : Ev K S a σ H0 (tUn (rU fun i => .int (-i)) ta) m (· = .int (-i)) := by
  intro H n Q k r b q
  refine ha H n _ k r b fun H1 v d k1 r1 hd e => ?_
  subst e
  cases hd
  exact ⟨i, rfl, q H1 _ _ k1 r1 (.int _) rfl⟩
theorem ev_lenSX {x : Str} (h : EvA K S a σ H0 tr m (· = [.str x])) (few : x.length ≤ 1000000) : Ev K S a σ H0 (tCB (fun xs H Q => ∃ z : Str, xs = [.str z] ∧ z.length ≤ sizeLine ∧ Q (.int z.length) H) tr) m (· = .int x.length) :=
  ev_cb h fun H xs ds Q t hd pd q => by
    subst pd
    obtain ⟨v, _, rfl, h1, h2⟩ := DfAll.c hd
    obtain rfl := DfAll.n h2
    cases h1
    exact ⟨x, rfl, Nat.le_trans few line20, q H _ _ (Same.refl H) (.int _) rfl⟩
theorem ev_catSX {x y : Str} (ha : Ev K S a σ H0 ta m1 (· = .str x)) (hb : Ev K S a σ H0 tb m2 (· = .str y)) (few : x.length + y.length ≤ 1000000) :
    Ev K S a σ H0 (tOp (fun x y H Q => ∃ i j, x = .str i ∧ y = .str j ∧ i.length + j.length ≤ sizeLine ∧ Q (.str (i ++ j)) H) ta tb) (m1 + m2) (· = .str (x ++ y)) :=
  ev_catS ha hb fun d e e1 e2 => ⟨x, y, e1, e2, few, rfl⟩
theorem ev_mulSX {x : Str} {j : Int} (ha : Ev K S a σ H0 ta m1 (· = .str x)) (hb : Ev K S a σ H0 tb m2 (· = .int j)) (ok : MulOk x j) : Ev K S a σ H0 (tOp (fun x y H Q => ∃ a k, x = .str a ∧ y = .int k ∧ MulOk a k ∧ Q (.str (Txt.mul a k)) H) ta tb) (m1 + m2) (· = .str (Txt.mul x j)) :=
  ev_op ha hb fun H v w d e Q t hd he e1 e2 q => by
    subst e1 e2
    cases hd
    cases he
    exact ⟨x, j, rfl, rfl, ok, q H _ _ (Same.refl H) (.str _) rfl⟩
theorem evo_X {i : Int} (h : Ev K S a σ H0 te m (· = .int i)) : EvO K S a σ H0 (tPart te) m (· = some i) := by
  intro H n Q k r b q
  refine h H n _ k r b fun H1 v d k1 r1 hd e => ?_
  subst e
  cases hd
  exact ⟨i, rfl, q H1 _ k1 r1 rfl⟩
theorem ev_cutSX {x : Str} {lo hi : Option Int} {tl th : TO} (h : Ev K S a σ H0 te m1 (· = .str x)) (hl : EvO K S a σ H0 tl m2 (· = lo)) (hh : EvO K S a σ H0 th m3 (· = hi)) (few : x.length ≤ 1000000) : Ev K S a σ H0 (tSl rSlS te tl th) (m1 + m2 + m3) (· = .str (cutS x lo hi)) :=
  ev_cutS h hl hh fun d l h e1 e2 e3 => ⟨x, e1, few, by rw [e2, e3]⟩
theorem ev_cutLX {ds : List PyData} {lo hi : Option Int} {tl th : TO} (h : Ev K S a σ H0 te m1 (· = .list ds)) (hl : EvO K S a σ H0 tl m2 (· = lo)) (hh : EvO K S a σ H0 th m3 (· = hi)) : Ev K S a σ H0 (tSl (rSlL K) te tl th) (m1 + m2 + m3) (· = .list (cutD ds lo hi)) :=
  ev_cutL h hl hh fun d l h e1 e2 e3 => ⟨ds, e1, by rw [e2, e3]⟩
theorem ev_ixLX {ds : List PyData} {i : Int} {d : PyData} (ha : Ev K S a σ H0 ta m1 (· = .list ds)) (hb : Ev K S a σ H0 tb m2 (· = .int i)) (h : atI ds i = some d) : Ev K S a σ H0 (tOp (rIxL K) ta tb) (m1 + m2) (· = d) :=
  ev_ixL ha hb fun d' e' e1 e2 => ⟨ds, i, d, e1, e2, h, rfl⟩
theorem ev_ixTX {ds : List PyData} {i : Int} {d : PyData} (ha : Ev K S a σ H0 ta m1 (· = .tuple ds)) (hb : Ev K S a σ H0 tb m2 (· = .int i)) (h : atI ds i = some d) : Ev K S a σ H0 (tOp (rIxT K) ta tb) (m1 + m2) (· = d) :=
  ev_ixT ha hb fun d' e' e1 e2 => ⟨ds, i, d, e1, e2, h, rfl⟩
theorem ev_lenX {es : List PyData} (h : EvA K S a σ H0 tr m (· = [.list es])) : Ev K S a σ H0 (tCB (rLenQ K) tr) m (· = .int es.length) := ev_len h fun ds e => ⟨es, .inl e, rfl⟩
theorem ev_lenTX {es : List PyData} (h : EvA K S a σ H0 tr m (· = [.tuple es])) : Ev K S a σ H0 (tCB (rLenQ K) tr) m (· = .int es.length) := ev_len h fun ds e => ⟨es, .inr e, rfl⟩
theorem ev_eqIX {i j : Int} (ha : Ev K S a σ H0 ta m1 (· = .int i)) (hb : Ev K S a σ H0 tb m2 (· = .int j)) : Ev K S a σ H0 (tOp rEq ta tb) (m1 + m2) (· = .bool (decide (i = j))) :=
  ev_eqIx (q1 := (· = i)) (q2 := (· = j)) (ha.mono fun d e => ⟨i, e, rfl⟩) (hb.mono fun d e => ⟨j, e, rfl⟩) fun x y e1 e2 => by rw [e1, e2]
theorem ev_neSX {x y : Str} (ha : Ev K S a σ H0 ta m1 (· = .str x)) (hb : Ev K S a σ H0 tb m2 (· = .str y)) : Ev K S a σ H0 (tOp rNe ta tb) (m1 + m2) (· = .bool (!decide (x = y))) :=
  ev_neS ha hb fun d e e1 e2 => ⟨x, y, e1, e2, by
    have : decide (V.str x = V.str y) = decide (x = y) := by rw [decide_eq_decide]; exact ⟨V.str.inj, congrArg _⟩
    rw [this]⟩
theorem ev_chainLe {tc : TE} {i j k : Int} (ha : Ev K S a σ H0 ta m1 (· = .int i)) (hb : Ev K S a σ H0 tb m2 (· = .int j)) (hc : Ev K S a σ H0 tc m3 (· = .int k)) :
    Ev K S a σ H0 (tChain (rI0 fun i j => .bl (decide (i ≤ j))) (rI0 fun i j => .bl (decide (i ≤ j))) ta tb tc) (m1 + m2 + m3) (· = .bool (decide (i ≤ j) && decide (j ≤ k))) := by
  intro H n Q kp r b q
  refine ha H n _ kp r (by omega) fun H1 v d k1 r1 hd e => ?_
  subst e
  cases hd
  refine hb H1 (n + m1) _ (kp.trans (keeps_one r.sa k1)) r1 (by omega) fun H2 v d k2 r2 hd e => ?_
  subst e
  cases hd
  refine ⟨i, j, rfl, rfl, _, rfl, ?_⟩
  cases h : decide (i ≤ j) with
  | true =>
    refine iteT (hc H2 (n + m1 + m2) _ ((kp.trans (keeps_one r.sa k1)).trans (keeps_one r.sa k2)) r2 (by omega) fun H3 v d k3 r3 hd e => ?_)
    subst e
    cases hd
    exact ⟨j, k, rfl, rfl, q H3 _ _ (k1.trans (k2.trans k3)) (by rw [show n + (m1 + m2 + m3) = n + m1 + m2 + m3 by omega]; exact r3) (.bl _) (by rw [h, Bool.true_and])⟩
  | false => exact iteF (q H2 _ _ (k1.trans k2) (r2.up (by omega)) (.bl false) (by rw [h, Bool.false_and]))
theorem ev_ifT {tc : TE} {P : PyData → Prop} (hb : Ev K S a σ H0 te 0 (· = .bool true)) (ha : Ev K S a σ H0 ta m P) : Ev K S a σ H0 (tIf (tTest te) ta tc) m P := by
  intro H n Q kp r b q
  refine hb H n _ kp r (by omega) fun H1 v d k1 r1 hd e => ?_
  subst e
  cases hd
  exact ⟨true, rfl, iteT (ha H1 n _ (kp.trans (keeps_one r.sa k1)) r1 b fun H2 v d k2 r2 hd p => q H2 v d (k1.trans k2) r2 hd p)⟩
/-- x.split(y) -/
theorem ev_splitX {x y : Str} (ha : Ev K S a σ H0 ta m1 (· = .str x)) (hb : Ev K S a σ H0 tb m2 (· = .str y)) (hy : (y.length == 0) = false) (few : x.length ≤ 100000) : Ev K S a σ H0 (tM1 (fun x xs H Q => ∃ a b, x = .str a ∧ xs = [.str b] ∧ (b.length == 0) = false ∧ a.length + 2 ≤ sizeLine ∧ rNewStrs (Txt.split a b) H Q) ta tb) (m1 + m2) (· = .list ((Txt.split x y).map PyData.str)) := by
  intro H n Q k r' b q
  refine ha H n _ k r' (by omega) fun H1 v d k1 r1 hd e => ?_
  subst e
  cases hd
  refine ⟨⟨_, rfl⟩, hb H1 (n + m1) _ (k.trans (keeps_one r'.sa k1)) r1 (by omega) fun H2 v d k2 r2 hd e => ?_⟩
  subst e
  cases hd
  have r3 : Rn S a (n + (m1 + m2)) H2 := by rw [← Nat.add_assoc]; exact r2
  exact ⟨x, y, rfl, rfl, hy, Nat.le_trans (by omega : x.length + 2 ≤ 1000000) line20, fun p np => q _ _ _ (k1.trans (k2.trans (Keeps.new np))) (r3.same (same_new np)) (Df.newL dp_ofStrs np (r3.th.new np)) rfl⟩
/-- raise C(e), e any expression that changes nothing -/
theorem mkO_goE {C : Addr} {f : Str} {v : V} {σ : L2.St} {H : Hp} {Q : XK} (h0 : ∀ Q : VK, (∀ H1, Same H H1 → Q v H1) → te σ H Q) (h : ∀ H1 d, Same H H1 → H1 d = none → Q (.ref C) (some d) (upd H1 d (.xd [(f, v)]))) : tMkO C (spExc C f) [] (tCons te tNil) σ H Q := by
  refine h0 _ fun H1 s1 => ⟨(by show 1 ≤ 1000; decide), fun a ha => ⟨a, v, rfl, upd_same, fun dx hdx ne => ?_⟩⟩
  have hd : H1 dx = none := by rw [upd_ne ne] at hdx; exact hdx
  refine ⟨rfl, dx, [(f, v)], upd_same, ?_, hd, ?_⟩
  · rw [upd_ne ne]
    exact upd_same
  · rw [exc_heap ha ne]
    exact h H1 dx s1 hd
theorem evb_and {t1 t2 : TT} {b1 b2 : Bool} (h1 : EvB σ H0 t1 b1) (h2 : b1 = true → EvB σ H0 t2 b2) : EvB σ H0 (tAnd t1 t2) (b1 && b2) := fun H s Q q => h1 H s _ fun H1 s1 => by
  cases b1 with
  | true => exact iteT (h2 rfl H1 (s.trans s1) _ fun H2 s2 => q H2 (s1.trans s2))
  | false => exact iteF (q H1 s1)
/-- Fun.ok, the code object told -/
theorem okC {P : Program} {w : World} {K : PySem.W.Frag} {mg : Str → Option Value} {base : Heap} {k : Nat} {f : Addr} {fd : FuncData} {ps : List Str} {sp : Sp} {x qual : Str} {st : Stmt} {N : List Str} (F : Fun K x qual st f fd) (S : FnScope N ps (defScope st)) (len : ∀ vs H Q E, sp vs H Q E → vs.length = ps.length)
    (hbody : ∀ (A : Around) (outer : List Env) (s : Shared) (H : Hp) (vs : List V) (Q : VK) (E : XK), Room k (A.deeper (envOfC qual (defScope st) s.heap.objs.size f fd.code)) → sp vs H Q E →
      ∃ t, PSs (cxOf CX0 P w K mg base N qual (defScope st) f fd.code A outer s H E).nox (defBody st) t ∧ t { nx := fun _ H' => Q .non H', rt := Q } (start N vs) H) : FnOk P w K mg base CX0 (k + 1) f fd ps sp := by
  obtain ⟨oc, od, kV, doc, pm, an, cdv, ct, osl, rfl, lk, hcd⟩ := F.ex
  refine fn_of lk hcd S len fun A outer s H vs Q E hr hsp => ?_
  obtain ⟨t, h, q⟩ := hbody A outer s H vs Q E hr hsp
  exact ⟨t, h.nox, q⟩
/-- two promises, one or the other -/
theorem FnOk.or {P : Program} {w : World} {K : PySem.W.Frag} {mg : Str → Option Value} {base : Heap} {CX : CXT} {k : Nat} {f : Addr} {fd : FuncData} {ps : List Str} {sp sp' : Sp} (F : FnOk P w K mg base CX k f fd ps sp) (G : FnOk P w K mg base CX k f fd ps sp') :
    FnOk P w K mg base CX k f fd ps (fun vs H Q E => sp vs H Q E ∨ sp' vs H Q E) :=
  ⟨fun vs H Q E h => h.elim (F.len vs H Q E) (G.len vs H Q E), fun A outer s H args us vs Q E hr e b r h => h.elim (F.run A outer s H args us vs Q E hr e b r) (G.run A outer s H args us vs Q E hr e b r)⟩
/-- a test of one text -/
def spW (r : Str → Bool) : Sp := fun vs H Q _ => ∃ x : Str, vs = [.str x] ∧ x.length ≤ 64 ∧ tidy x = true ∧ ∀ H', Same H H' → Q (.bl (r x)) H'
theorem spW_len {r : Str → Bool} : ∀ vs H Q E, spW r vs H Q E → vs.length = 1 := fun vs H Q E ⟨x, e, _⟩ => by rw [e]; rfl
theorem ev_callW {r : Str → Bool} {x : Str} {E : XK} (h : EvA K S a σ H0 tr m (· = [.str x])) (few : x.length ≤ 64) (ht : tidy x = true) : Ev K S a σ H0 (tCall (spW r) [] E tr) m (· = .bool (r x)) := by
  intro H n Q k r' b q
  refine h H n _ k r' b fun H1 vs ds k1 r1 hd e => ?_
  subst e
  obtain ⟨v, _, rfl, h1, h2⟩ := DfAll.c hd
  obtain rfl := DfAll.n h2
  cases h1
  exact ⟨x, rfl, few, ht, fun H2 s => q H2 _ _ (k1.trans (Keeps.same s)) (r1.same s) (.bl _) rfl⟩
end
end DD

namespace DD
open PySem PySem.Spec PyProof.Rows L2
/-! #### enumerate(tuple, start=k), enumerate(text) -/
/-- the turns of enumerate over values that stay -/
def Iten (Ok : Hp → Prop) (k : Int) (xs : List V) : It :=
  { go := fun i H => i < xs.length ∧ Ok H,
    yld := fun i H v H' => ∃ T x, v = .ref T ∧ H T = none ∧ H' = upd H T (.tup [.int (k + i), x]) ∧ xs[i]? = some x,
    stop := fun i H => xs.length ≤ i ∧ Ok H }
theorem vals_get {xs : List V} {us : List Value} (h : Vals xs us) : ∀ {i : Nat} {u : Value}, us[i]? = some u → ∃ x, xs[i]? = some x ∧ RelV x u := by
  induction h with
  | nil => intro i u e; cases e
  | cons h t ih =>
    intro i u e
    cases i with
    | zero => cases e; exact ⟨_, rfl, h⟩
    | succ i => exact ih e
theorem vals_len {xs : List V} {us : List Value} (h : Vals xs us) : xs.length = us.length := by
  induction h with
  | nil => rfl
  | cons h t ih => simp [ih]
/-- what a source of values that stay gives -/
structure Src1 (P : Program) (w : World) (K : PySem.W.Frag) (Ok : Hp → Prop) (xs : List V) (it : Addr) (St : Nat → Heap → Prop) : Prop where
  obj : ∀ i h, St i h → ∃ o, h.get? it = some o ∧ ∀ v, o.data ≠ .cell v
  keep : ∀ i h h', St i h → (∀ o, h.get? it = some o → h'.get? it = some o) → St i h'
  draws : ∀ (X : Cx), X.prog = P → X.w = w → X.K = K → X.calm = true → ∀ (pins : List (Addr × Obj)) (s : Shared) (σ : L2.St) (H : Hp), L2.Inv X pins σ H s → Ok H → ∀ i, St i s.heap → ∀ e old k, IsEnum s.heap e it k old → e ≠ it →
    ∃ (fp : List Addr) (Pr : Nat → Value → Prop) (St' : Nat → Heap → Prop), PySem.Draws P w X.A.in1 it fp xs.length Pr St' ∧ e ∉ fp ∧ it ∈ fp ∧ (∀ i u, Pr i u → ∃ x, xs[i]? = some x ∧ RelV x u) ∧ (∀ i, St i s.heap → St' i s.heap) ∧ (∀ i h', St' i h' → St i h')
theorem enum_self {prog : Program} {w : World} {A : Around} {e it : Addr} {k : Int} {old : Value} {Q E : Value → Shared → Prop} {s : Shared} (he : IsEnum s.heap e it k old) (ne : e ≠ it) (hit : ∃ o, s.heap.get? it = some o) (q : Q (Value.ref e) s) : wpAny (model prog w) A (pyIter (Value.ref e)) Q E s := by
  have D : PySem.Draws prog w A.in1 it [it] 0 (fun _ _ => False) fun i h => i = 1 ∧ ∃ o, h.get? it = some o :=
    { live := fun i h z => z.2, frame := fun i h h' ⟨z, o, ho⟩ hk => ⟨z, o, hk it (by simp) o ho⟩,
      item := fun i s Q E hi => absurd hi (Nat.not_lt_zero _), done := fun s Q E z => by cases z.1 }
  exact (PySem.GoesN.enumFrom (elts := []) (x1 := 0) (pos := ⟨0, 0, 0, 0⟩) (k - 1) D e ne (by simpa using ne) (by simp)).self 1 s Q E ⟨⟨old, by rw [show k - 1 + ((1 : Nat) : Int) = k by omega]; exact he⟩, rfl, hit⟩ q
theorem turn_en {P : Program} {w : World} {K : PySem.W.Frag} {elts : List PySem.Expr} {kk : Nat} {tpos : Pos} {Ok : Hp → Prop} {xs : List V} {it : Addr} {St : Nat → Heap → Prop} (S : Src1 P w K Ok xs it St) (e : Addr) (k : Int) :
    Turn P w K (.Tuple elts kk tpos) (Iten Ok k xs) [e, it] e fun i h => i ≤ xs.length ∧ (∃ old, IsEnum h e it (k + i) old) ∧ St i h ∧ e ≠ it where
  mem := List.mem_cons_self
  obj := by
    rintro i h ⟨_, ⟨old, he⟩, hs, _⟩ b hb
    rcases List.mem_cons.mp hb with rfl | hb
    · exact ⟨_, he, fun v z => nomatch z⟩
    · rw [List.mem_singleton.mp hb]
      exact S.obj i h hs
  keep := by
    rintro i h h' ⟨hn, ⟨old, he⟩, hs, ne⟩ hk
    exact ⟨hn, ⟨old, hk e List.mem_cons_self _ he⟩, S.keep i h h' hs (hk it (by simp)), ne⟩
  item := by
    rintro X rfl rfl rfl hc i pins s σ H E I hfp ⟨hn, ⟨old, he⟩, hs, ne⟩ ⟨hi, hx⟩
    obtain ⟨fp, Pr, St', D, ef, itf, hP, h1, h2⟩ := S.draws X rfl rfl rfl hc pins s σ H I hx i hs e old _ he ne
    refine (PySem.GoesN.enumFrom (elts := elts) (x1 := kk) (pos := tpos) k D e ne ef itf).goes i s (fun v s2 => ∃ x H', L2.Inv X pins σ H' s2 ∧ RelV x v ∧ (Iten Ok k xs).yld i H x H' ∧ (i + 1 ≤ xs.length ∧ (∃ old, IsEnum s2.heap e it (k + (i + 1 : Nat)) old) ∧ St (i + 1) s2.heap ∧ e ≠ it) ∧ ∀ b ∈ [e, it], H' b = none) E hi ⟨⟨old, he⟩, h1 i hs⟩ ?_
    rintro v h' tk ⟨T, t, u, rfl, hT, pu, o, ho, hcl, m, hd⟩ ⟨⟨old', he'⟩, hs'⟩ hk ht
    obtain ⟨x, hxi, rx⟩ := hP i u pu
    have nT : H T = none := I.hok.fresh hT
    have ltb : ∀ b ∈ [e, it], b < s.heap.objs.size := fun b hb => by
      rcases List.mem_cons.mp hb with rfl | hb
      · exact Heap.lt_size he
      · rw [List.mem_singleton.mp hb]
        obtain ⟨o, ho, _⟩ := S.obj i _ hs
        exact Heap.lt_size ho
    refine ⟨.ref T, upd H T (.tup [.int (k + i), x]), ?_, rfl, ⟨T, x, rfl, nT, rfl, hxi⟩, ⟨hi, ⟨old', he'⟩, h2 _ _ hs', ne⟩, fun b hb => ?_⟩
    · exact I.turnedNew (ch := [e, it]) hk (fun b hb => hfp b hb) hT ⟨by show 2 ≤ sizeLine; exact Nat.le_trans (by decide : 2 ≤ 1000000) line20, _, .cons ⟨t, rfl⟩ (.cons rx .nil), o, ho, hcl, m, hd⟩
    · rw [upd_ne]
      · exact (hfp b hb).1
      · intro z
        subst z
        exact absurd (ltb _ hb) (Nat.not_lt.mpr hT)
  done := by
    rintro X rfl rfl rfl hc i pins s σ H E I hfp ⟨hn, ⟨old, he⟩, hs, ne⟩ ⟨hi, hx⟩
    obtain ⟨fp, Pr, St', D, ef, itf, hP, h1, h2⟩ := S.draws X rfl rfl rfl hc pins s σ H I hx i hs e old _ he ne
    obtain rfl : i = xs.length := by omega
    exact (PySem.GoesN.enumFrom (elts := elts) (x1 := kk) (pos := tpos) k D e ne ef itf).stops s (fun s1 => L2.Inv X pins σ H s1) E ⟨⟨old, he⟩, h1 _ hs⟩ fun h' tk hk ht => I.turnedL (ch := [e, it]) hk (fun b hb => hfp b hb)
  self := by
    rintro A i s Q E ⟨hn, ⟨old, he⟩, hs, ne⟩ q
    obtain ⟨o, ho, _⟩ := S.obj i _ hs
    exact enum_self he ne ⟨o, ho⟩ q
theorem src_tuple {P : Program} {w : World} {K : PySem.W.Frag} {a it : Addr} {xs : List V} : Src1 P w K (fun H => SqT K H a xs) xs it fun i h => h.IsTupleIter it a i where
  obj := by
    rintro i h ⟨o, ho, _, hd⟩
    exact ⟨o, ho, fun v z => by rw [hd] at z; exact nomatch z⟩
  keep := by
    rintro i h h' ⟨o, ho, h1, h2⟩ hk
    exact ⟨o, hk o ho, h1, h2⟩
  draws := by
    rintro X rfl rfl rfl hc pins s σ H I hx i ⟨o, ho, hcl, hd⟩ e old k he ne
    obtain ⟨its, hv, ht, _⟩ := I.tuple hx
    obtain ⟨o2, ho2, hcl2, n2, hd2⟩ := id ht
    have nia : a ≠ it := fun z => by
      rw [z, ho] at ho2
      cases ho2
      rw [hcl] at hcl2
      exact absurd hcl2 (by decide)
    have nea : e ≠ a := fun z => by
      rw [← z, he] at ho2
      cases ho2
      exact absurd hcl2 (show ¬ (Value.type "enumerate" = Value.type "tuple") by decide)
    have hl := vals_len hv
    refine ⟨[it, a], fun i v => its.toArray[i]? = some v, fun i h => h.IsTupleIter it a i ∧ h.IsTuple a its.toArray, by rw [hl]; exact PySem.Draws.tuple (show X.A.in1.handled = none from I.ok.hd hc) it a nia its.toArray, ?_, List.mem_cons_self, fun j u hj => vals_get hv (by simpa using hj), fun j hj => ⟨hj, ht⟩, fun j h' hj => hj.1⟩
    intro z
    rcases List.mem_cons.mp z with z | z
    · exact ne z
    · exact nea (List.mem_singleton.mp z)
theorem src_str {P : Program} {w : World} {K : PySem.W.Frag} {it : Addr} {x : Str} {t : Tok} : Src1 P w K (fun _ => True) ((TL.tl x).map fun c => V.str ⟨#[c]⟩) it fun i h => h.IsStrIter it (strIterType x) x t i where
  obj := by
    rintro i h ⟨o, ho, _, hd⟩
    exact ⟨o, ho, fun v z => by rw [hd] at z; exact nomatch z⟩
  keep := by
    rintro i h h' ⟨o, ho, h1, h2⟩ hk
    exact ⟨o, hk o ho, h1, h2⟩
  draws := by
    rintro X rfl rfl rfl hc pins s σ H I hx i hs e old k he ne
    refine ⟨[it], _, _, by
      have := PySem.Draws.text (prog := X.prog) (w := X.w) (A := X.A.in1) (show X.A.in1.handled = none from I.ok.hd hc) it x t
      rw [show ((TL.tl x).map fun c => V.str ⟨#[c]⟩).length = x.cps.size by rw [List.length_map]; exact Array.length_toList]
      exact this, by simpa using ne, List.mem_cons_self, ?_, fun j hj => hj, fun j h' hj => hj⟩
    rintro j u ⟨c, tk, hcx, rfl⟩
    refine ⟨.str ⟨#[c]⟩, ?_, tk, rfl⟩
    have : (TL.tl x)[j]? = some c := by rw [Array.getElem?_toList]; exact hcx
    rw [List.getElem?_map, this]
    rfl
def iEnumT (K : PySem.W.Frag) (ta tk : TA) : TI := fun σ H R => ta σ H fun vs H1 => tk σ H1 fun zs H2 => ∃ a xs k, vs = [.ref a] ∧ zs = [.int k] ∧ SqT K H2 a xs ∧ -(2 ^ 63) ≤ k ∧ k < 2 ^ 63 ∧ R (Iten (fun H => SqT K H a xs) k xs) H2
def iEnumStr (ta : TA) : TI := fun σ H R => ta σ H fun vs H1 => ∃ x, vs = [.str x] ∧ R (Iten (fun _ => True) 0 ((TL.tl x).map fun c => V.str ⟨#[c]⟩)) H1
theorem pi_enumT {X : Cx} {e : PySem.Expr} {ta tk : TA} {p pos tpos : Pos} {elts : List PySem.Expr} {kk : Nat} (hg : Gl X "enumerate") (hm : X.mg "enumerate" = none) (ha : PA X [e] ta) (kws : List Keyword) (hk : PK X kws tk)
    (h1 : starEach [e] X.env = [(false, eval e X.env)] := by rfl) (h2 : ((backToKw pos (keywordEach kws X.env)).all fun x => x.fst.isSome) = true := by rfl) (h3 : ((backToKw pos (keywordEach kws X.env)).any fun x => x.fst.isNone) = false := by rfl) (h4 : (backToKw pos (keywordEach kws X.env)).filterMap (fun x => x.fst) = [("start" : Str)] := by rfl) (h5 : ((backTo pos (starEach [e] X.env)).any fun x => x.fst) = false := by rfl) :
    PI X (.Tuple elts kk tpos) (.Call (.Name "enumerate" p) [e] kws pos) (iEnumT X.K ta tk) := by
  refine ⟨fun pins s σ H R I h => ?_⟩
  refine PySem.wpAny_Call_Name_kw ?_
  refine wpAny_mono ((pe_bltn (pos := p) (v := .ty "enumerate") hg hm (by decide +kernel) rfl (by decide) (by decide)).run pins s σ H (fun v H' => v = .ty "enumerate" ∧ iEnumT X.K ta tk σ H' R) I ⟨rfl, h⟩) ?_ fun _ _ z => z
  rintro f s1 ⟨v, H1, I1, rv, rfl, h⟩
  cases (show f = Value.type "enumerate" from rv)
  refine PySem.W.callWith_of (P := fun _ => True) (by rw [h3, h5]; rfl) (fun h _ => ⟨.machine, .inr (.inl rfl), ?looks⟩) ?run
  case looks => exact PySem.W.Looks.now
  refine PyProof.Rows.evalArgs_kw2 h2 ?_ h1
  refine wpAny_mono (ha.run pos pins s1 σ H1 (fun vs H2 => tk σ H2 fun zs H3 => ∃ a xs k, vs = [.ref a] ∧ zs = [.int k] ∧ SqT X.K H3 a xs ∧ -(2 ^ 63) ≤ k ∧ k < 2 ^ 63 ∧ R (Iten (fun H => SqT X.K H a xs) k xs) H3) I1 h) ?_ fun _ _ z => z
  rintro us s2 ⟨vs, H2, I2, rvs, h⟩
  refine wpAny_mono (hk.run pos pins s2 σ H2 (fun zs H3 => ∃ a xs k, vs = [.ref a] ∧ zs = [.int k] ∧ SqT X.K H3 a xs ∧ -(2 ^ 63) ≤ k ∧ k < 2 ^ 63 ∧ R (Iten (fun H => SqT X.K H a xs) k xs) H3) I2 h) ?_ fun _ _ z => z
  rintro ks s3 ⟨zs, H3, I3, rzs, a, xs, k, rfl, rfl, hS, k0, k1, hR⟩
  refine ⟨trivial, ?_⟩
  rw [h4]
  cases rvs with
  | cons r1 r2 =>
  cases r2
  cases rzs with
  | cons q1 q2 =>
  cases q2
  cases (show _ = Value.ref a from r1)
  obtain ⟨t, rfl⟩ := q1
  obtain ⟨its, hv, ht, _⟩ := I3.tuple hS
  refine PySem.enum_begins_start (begins_tuple a its.toArray) ht k0 k1 fun h' he ho hsz hk => ?_
  have I4 : L2.Inv X pins σ H3 { s3 with heap := h' } := I3.kept hk
  have lt : s3.heap.objs.size ≠ s3.heap.objs.size + 1 := by omega
  refine enum_self he lt.symm ⟨_, ho⟩ ⟨s3.heap.objs.size + 1, [s3.heap.objs.size + 1, s3.heap.objs.size], _, _, H3, rfl, I4, turn_en src_tuple _ k, ⟨Nat.zero_le _, ⟨.none, by rw [show k + ((0 : Nat) : Int) = k by omega]; exact he⟩, ⟨_, ho, rfl, rfl⟩, lt.symm⟩, fun b hb => ?_, hR⟩
  have : s3.heap.objs.size ≤ b := by
    rcases List.mem_cons.mp hb with rfl | hb
    · omega
    · rw [List.mem_singleton.mp hb]; omega
  exact I3.fpOk this (I3.hok.fresh this)
theorem pi_enumStr {X : Cx} {e : PySem.Expr} {ta : TA} {p pos tpos : Pos} {elts : List PySem.Expr} {kk : Nat} (hg : Gl X "enumerate") (hm : X.mg "enumerate" = none) (ha : PA X [e] ta)
    (h1 : starEach [e] X.env = [(false, eval e X.env)] := by rfl) :
    PI X (.Tuple elts kk tpos) (.Call (.Name "enumerate" p) [e] [] pos) (iEnumStr ta) := by
  refine ⟨fun pins s σ H R I h => ?_⟩
  refine PySem.wpAny_Call_NameR ?_
  refine wpAny_mono ((pe_bltn (pos := p) (v := .ty "enumerate") hg hm (by decide +kernel) rfl (by decide) (by decide)).run pins s σ H (fun v H' => v = .ty "enumerate" ∧ iEnumStr ta σ H' R) I ⟨rfl, h⟩) ?_ fun _ _ z => z
  rintro f s1 ⟨v, H1, I1, rv, rfl, h⟩
  cases (show f = Value.type "enumerate" from rv)
  refine PyProof.Rows.callWith_type1 ?_ h1
  refine wpAny_mono (ha.run pos pins s1 σ H1 _ I1 h) ?_ fun _ _ z => z
  rintro us s2 ⟨vs, H2, I2, rvs, x, rfl, hR⟩
  cases rvs with
  | cons r1 r2 =>
  cases r2
  obtain ⟨t, rfl⟩ := r1
  refine PySem.call_enumerate_str fun h' he ho hsz hk => ?_
  have I4 : L2.Inv X pins σ H2 { s2 with heap := h' } := I2.kept hk
  have lt : s2.heap.objs.size ≠ s2.heap.objs.size + 1 := by omega
  obtain ⟨o, ho1, ho2, ho3⟩ := id ho
  refine enum_self he lt.symm ⟨_, ho1⟩ ⟨s2.heap.objs.size + 1, [s2.heap.objs.size + 1, s2.heap.objs.size], _, _, H2, rfl, I4, turn_en (src_str (x := x) (t := t)) _ 0, ⟨Nat.zero_le _, ⟨.none, he⟩, ho, lt.symm⟩, fun b hb => ?_, hR⟩
  have : s2.heap.objs.size ≤ b := by
    rcases List.mem_cons.mp hb with rfl | hb
    · omega
    · rw [List.mem_singleton.mp hb]; omega
  exact I2.fpOk this (I2.hok.fresh this)
/-! #### walks of Iten -/
theorem for_en {Ok : Hp → Prop} {k : Int} {xs : List V} {g : TG} {tb : TS} {D : Ends} {σ : L2.St} {H : Hp} (Pv : Nat → L2.St → Hp → Prop) (h0 : Pv 0 σ H) (ok : ∀ (i : Nat) (σ : L2.St) (H : Hp), i ≤ xs.length → Pv i σ H → Ok H)
    (step : ∀ (i : Nat) (x : V) (σ : L2.St) (H : Hp) (T : Addr), xs[i]? = some x → Pv i σ H → H T = none → g (.ref T) σ (upd H T (.tup [.int (k + i), x])) fun σ2 H2 => tb { nx := Pv (i + 1), rt := D.rt, bk := D.nx, ct := Pv (i + 1) } σ2 H2)
    (done : ∀ (σ : L2.St) (H : Hp), Pv xs.length σ H → D.nx σ H) :
    ∃ W : Nat → Nat → L2.St → Hp → Prop, (∃ m, W 0 m σ H) ∧ ∀ (i m : Nat) (σ : L2.St) (H : Hp), W i m σ H →
      (Iten Ok k xs).stop i H ∧ D.nx σ H ∨ (Iten Ok k xs).go i H ∧ ∃ N : L2.St → Hp → Prop, (∀ (σ' : L2.St) (H' : Hp), N σ' H' → ∃ m', m' < m ∧ W (i + 1) m' σ' H') ∧
        ∀ (x : V) (H' : Hp), (Iten Ok k xs).yld i H x H' → g x σ H' fun σ2 H2 => tb { nx := N, rt := D.rt, bk := D.nx, ct := N } σ2 H2 := by
  refine ⟨fun i m σ H => i ≤ xs.length ∧ m = xs.length - i ∧ Pv i σ H, ⟨_, Nat.zero_le _, rfl, h0⟩, fun i m σ H ⟨hi, hm, hp⟩ => ?_⟩
  by_cases hl : i < xs.length
  · refine .inr ⟨⟨hl, ok i σ H hi hp⟩, Pv (i + 1), fun σ' H' h' => ⟨xs.length - (i + 1), by omega, by omega, rfl, h'⟩, ?_⟩
    rintro x H' ⟨T, y, rfl, hT, rfl, hy⟩
    exact step i y σ H T hy hp hT
  · obtain rfl : i = xs.length := by omega
    exact .inl ⟨⟨Nat.le_refl _, ok _ σ H hi hp⟩, done σ H hp⟩
/-! #### d.update(e) -/
def rUpdD : V → List V → Hp → VK → Prop := fun x xs H Q => ∃ (a b : Addr) (kvs more : List (L2.Key × V)), x = .ref a ∧ xs = [.ref b] ∧ a ≠ b ∧ H a = some (.dK kvs) ∧ H b = some (.dK more) ∧ kvs.length + more.length ≤ 1000000 ∧ Q .non (upd H a (.dK (mergeK kvs more)))
theorem kv_merge : ∀ {more : List (L2.Key × V)} {ms : List (L2.Key × Value)}, KV more ms → ∀ {kvs : List (L2.Key × V)} {vs : List (L2.Key × Value)}, KV kvs vs → KV (mergeK kvs more) (merged vs ms) := by
  intro more ms h
  induction h with
  | nil => intro kvs vs hk; exact hk
  | @cons p q ps qs h t ih =>
    intro kvs vs hk
    obtain ⟨k1, v1⟩ := p
    obtain ⟨k2, u2⟩ := q
    obtain ⟨e, r⟩ := h
    cases (show k1 = k2 from e)
    exact ih (KV.put hk k1 r)
theorem putK_len (kvs : List (L2.Key × V)) (k : L2.Key) (v : V) : (putK kvs k v).length ≤ kvs.length + 1 := by
  unfold putK
  split
  · rw [List.length_map]; omega
  · rw [List.length_append]; exact Nat.le_refl _
theorem mergeK_len : ∀ (more kvs : List (L2.Key × V)), (mergeK kvs more).length ≤ kvs.length + more.length
  | [], kvs => Nat.le_refl _
  | p :: more, kvs => by
    have h1 := mergeK_len more (putK kvs p.1 p.2)
    have h2 := putK_len kvs p.1 p.2
    show (mergeK (putK kvs p.1 p.2) more).length ≤ _
    rw [List.length_cons]
    omega
theorem mt_dupdate {X : Cx} : MtR X "dict.update" rUpdD := by
  intro pins s σ H x xs v us Q I rx rxs h
  obtain ⟨a, b, kvs, more, rfl, rfl, ne, ha, hb, few, q⟩ := h
  cases (show v = Value.ref a from rx)
  cases rxs with
  | cons r1 r2 =>
  cases r2
  cases (show _ = Value.ref b from r1)
  obtain ⟨l1, n1, vs, kv1, d1⟩ := dk_rd I.hok (.inl ha)
  obtain ⟨l2, n2, ms, kv2, d2⟩ := dk_rd I.hok (.inl hb)
  have e1 : kvs.length = vs.length := Paired.length kv1
  have e2 : more.length = ms.length := Paired.length kv2
  refine PySem.call_meetsIn PySem.F.slot_dict_update d1.typeIs PySem.F.entry_dict_update (PySem.F.args_dict_update_2 _ _) (PySem.meets_dict_update (mixKind X.prog X.w) a b ne n2) ⟨vs, ms, d1, d2, by rw [← e1, ← e2]; exact Nat.le_trans few line20, fun h' d3 d4 sb => ?_⟩
  refine ⟨.non, _, I.write (o := .dK (mergeK kvs more)) (by rw [ha]; trivial) (.inl rfl) (fun c u hc hu => by rw [sb.2 c hc]; exact hu) ?_ ?_, rfl, q⟩
  · obtain ⟨o, _, _, ho, _⟩ := d3
    exact ⟨o, ho⟩
  · exact dk_new (Nat.le_trans (Nat.le_trans (mergeK_len more kvs) few) line20) n1 (kv_merge kv2 kv1) d3
/-! #### a table at the top of a module: texts to tuples -/
def tabF (l : List (Str × Addr)) (z : Str) : Option Addr := (l.find? fun p => decide (p.1 = z)).map (·.2)
structure KTab (K : PySem.W.Frag) (P : Params) (D : Addr) (l : List (Str × Addr)) : Prop where
  ex : ∃ (es : Array DictEntry) (n : Nat), K.lookup D = some { cls := .type "dict", data := .dict es n } ∧ PySem.W.KeysLit P es.toList ∧ (D == sysModules) = false
  at_ : ∀ z, PySem.W.nsIn K D z = some ((tabF l z).map Value.ref)
theorem KTab.dict {K : PySem.W.Frag} {w : World} {D : Addr} {l : List (Str × Addr)} (t : KTab K w.params D l) : ∃ es n, KDict K w D es n := by
  obtain ⟨es, n, h1, h2, h3⟩ := t.ex
  exact ⟨es, n, h1, h2, h3⟩
def entsOf (l : List (Int × Str × Tok × Addr)) : List DictEntry := l.map fun p => ⟨p.1, .str p.2.1 p.2.2.1, .ref p.2.2.2⟩
theorem ktab_mk {K : PySem.W.Frag} {P : Params} {D : Addr} {n : Nat} (l : List (Int × Str × Tok × Addr)) (h : K.lookup D = some { cls := .type "dict", data := .dict (entsOf l).toArray n }) (hl : PySem.W.KeysLit P (entsOf l)) (hs : (D == sysModules) = false) : KTab K P D (l.map fun p => (p.2.1, p.2.2.2)) := by
  refine ⟨⟨_, n, h, hl, hs⟩, fun z => ?_⟩
  unfold PySem.W.nsIn
  rw [h]
  dsimp only
  have e1 : ∀ l : List (Int × Str × Tok × Addr), ((entsOf l).find? fun x => x.key.isStr z) = (l.find? fun p => decide (p.2.1 = z)).map fun p => ⟨p.1, .str p.2.1 p.2.2.1, .ref p.2.2.2⟩ := by
    intro l
    induction l with
    | nil => rfl
    | cons p l ih =>
      show List.find? _ ((⟨p.1, .str p.2.1 p.2.2.1, .ref p.2.2.2⟩ : DictEntry) :: entsOf l) = _
      rw [List.find?_cons, List.find?_cons]
      have : (⟨p.1, .str p.2.1 p.2.2.1, .ref p.2.2.2⟩ : DictEntry).key.isStr z = decide (p.2.1 = z) := by
        show (p.2.1 == z) = _
        rw [Bool.eq_iff_iff, beq_iff_eq, decide_eq_true_eq]
      rw [this]
      cases decide (p.2.1 = z) with
      | true => rfl
      | false => exact ih
  have e2 : ∀ l : List (Int × Str × Tok × Addr), tabF (l.map fun p => (p.2.1, p.2.2.2)) z = (l.find? fun p => decide (p.2.1 = z)).map fun p => p.2.2.2 := by
    intro l
    unfold tabF
    rw [List.find?_map, Option.map_map]
    rfl
  rw [e1, e2]
  cases l.find? fun p => decide (p.2.1 = z) with
  | some p => rfl
  | none =>
    have : ((entsOf l).any fun x => x.refKey) = false := by
      rw [List.any_eq_false]
      intro x hx
      obtain ⟨p, _, rfl⟩ := List.mem_map.mp hx
      exact Bool.false_ne_true
    show (if ((entsOf l).any fun x => x.refKey) = true then none else some none) = some none
    rw [this]
    rfl
theorem sqF_of {K : PySem.W.Frag} {a : Addr} {cls : Value} {n : Nat} {its : Array Value} {sl : Array (Option Value)} {vs : List V} (h : K.lookup a = some ⟨.type "tuple", none, .seq its n, sl⟩) (hv : Vals vs its.toList) (few : its.size ≤ 1000000) (H : Hp) : SqF K H a vs :=
  ⟨_, rfl, .inr ⟨h, rfl, its, n, rfl, Nat.le_trans few line20, hv⟩⟩
theorem KTab.dct {K : PySem.W.Frag} {w : World} {D A : Addr} {l : List (Str × Addr)} {z : Str} (t : KTab K w.params D l) (h : tabF l z = some A) : KDct K w D z (.ref A) := by
  obtain ⟨es, n, h1, h2, h3⟩ := t.ex
  refine ⟨es, n, .ref A, h1, h2, ?_, rfl⟩
  rw [t.at_ z, h]
  rfl
section
variable {K : PySem.W.Frag} {S : Addr → Bool} {a : Option Addr} {σ : L2.St} {H0 : Hp} {te ta tb tn : TE} {tr : TA} {m m1 m2 : Nat} {P P1 P2 : PyData → Prop} {R R1 : List PyData → Prop}
/-- *list among the arguments -/
theorem eva_star {ds es : List PyData} (h1 : Ev K S a σ H0 te 0 (· = .list ds)) (h2 : EvA K S a σ H0 tr 0 (· = es)) : EvA K S a σ H0 (StX.tStar K te tr) 0 (· = ds ++ es) := by
  intro H n Q k r b q
  refine h1 H n _ k r (by omega) fun H1 v d k1 r1 hd e => ?_
  subst e
  obtain ⟨L, vs, rfl, hL, hv⟩ := Df.lst_inv hd
  refine ⟨L, vs, rfl, .inr (Same.seq hid_same hL), ?_⟩
  refine h2 H1 n _ (k.trans (keeps_one r.sa k1)) r1 (by omega) fun H2 us es' k2 r2 hu e2 => ?_
  subst e2
  exact q H2 _ _ (k1.trans k2) r2 (DfAll.app (DfAll.keep hv (keeps_one r.sa k2)) hu) rfl
end
theorem ev_asgN {K : PySem.W.Frag} {σ : L2.St} {H : Hp} {te : TE} {D : Ends} {u : TS} {g : TG} (m : Nat) (P : PyData → Prop) (h : Ev K noS none σ H te m P) (hm : m ≤ most) (q : ∀ H' v d, Same H H' → Df K H' v d → P d → g v σ H' fun σ2 H2 => u D σ2 H2) : tSeq (tAsg te g) u D σ H := ev_no m P h hm q
theorem cutD_drop (ds : List PyData) (k : Nat) : DD.cutD ds (some (k : Int)) none = ds.drop k := by
  unfold DD.cutD
  rw [HT.sIx_nat]
  show (ds.drop (min k ds.length)).take (ds.length - min k ds.length) = _
  by_cases h : k ≤ ds.length
  · rw [Nat.min_eq_left h]
    exact List.take_of_length_le (by rw [List.length_drop]; exact Nat.le_refl _)
  · rw [Nat.min_eq_right (by omega), Nat.sub_self, List.take_zero, List.drop_eq_nil_of_le (by omega)]
theorem cutD_take (ds : List PyData) (k : Nat) : DD.cutD ds none (some (k : Int)) = ds.take k := by
  unfold DD.cutD
  rw [HT.sIx_nat]
  show (ds.drop 0).take (min k ds.length - 0) = _
  rw [List.drop_zero, Nat.sub_zero]
  by_cases h : k ≤ ds.length
  · rw [Nat.min_eq_left h]
  · rw [Nat.min_eq_right (by omega), List.take_of_length_le (Nat.le_refl _), List.take_of_length_le (by omega)]
theorem ev_setKD {K : PySem.W.Frag} {w : World} {D : Addr} {z : Str} {v : V} {σ : L2.St} {H : Hp} {ti : TE} {E : Ends} {u : TS} {i : Nat} (h : Ev K noS none σ H ti 0 (· = .str z)) (hd : KDct K w D z v) (q : ∀ H', Same H H' → u E (σ.set i (some v)) H') : tSeq (tAsg (tOp (rIxD K w) (tC (.ref D)) ti) (gName i)) u E σ H := by
  show ti σ H (fun y H2 => ∃ p z v, (V.ref D) = .ref p ∧ y = .str z ∧ KDct K w p z v ∧ u E (σ.set i (some v)) H2)
  refine ev_no (K := K) 0 (· = .str z) h (Nat.zero_le _) fun H' v' d' s hd' e => ?_
  subst e
  cases hd'
  exact ⟨D, z, v, rfl, rfl, hd, q H' s⟩
theorem evb_notKD {K : PySem.W.Frag} {P : Params} {D : Addr} {l : List (Str × Addr)} {z : Str} {σ : L2.St} {H0 : Hp} {ti : TE} (t : KTab K P D l) (h : Ev K noS none σ H0 ti 0 (· = .str z)) : EvB σ H0 (tB (tOp (fun x y H Q => ∃ (z : Str) (r : Option Value), x = .str z ∧ y = .ref D ∧ PySem.W.nsIn K D z = some r ∧ Q (.bl (!r.isSome)) H) ti (tC (.ref D)))) (!(tabF l z).isSome) := by
  intro H s Q q
  show ti σ H (fun x H1 => ∃ (z : Str) (r : Option Value), x = .str z ∧ (V.ref D) = .ref D ∧ PySem.W.nsIn K D z = some r ∧ ∃ c, V.bl (!r.isSome) = .bl c ∧ Q c H1)
  refine ev_at (K := K) h s (Nat.zero_le _) fun H' v d s' hd e => ?_
  subst e
  cases hd
  refine ⟨z, _, rfl, rfl, t.at_ z, _, rfl, ?_⟩
  rw [Option.isSome_map]
  exact q H' s'
/-- if not a list -/
theorem evb_empty {K : PySem.W.Frag} {σ : L2.St} {H0 : Hp} {te : TE} {ds : List PyData} (h : Ev K noS none σ H0 te 0 (· = .list ds)) : EvB σ H0 (tNot (fun σ H Q => te σ H fun x H' => ∃ k, TruV K x H' k ∧ Q k H')) ds.isEmpty := by
  intro H s Q q
  show te σ H (fun x H' => ∃ k, TruV K x H' k ∧ Q (!k) H')
  refine ev_at (K := K) h s (Nat.zero_le _) fun H' v d s' hd e => ?_
  subst e
  obtain ⟨L, vs, rfl, hL, hv⟩ := Df.lst_inv hd
  refine ⟨!vs.isEmpty, .inl ⟨vs, hL, rfl⟩, ?_⟩
  rw [Bool.not_not]
  have : vs.isEmpty = ds.isEmpty := by
    have := DfAll.len hv
    cases vs <;> cases ds <;> first | rfl | simp at this
  rw [this]
  exact q H' s'
theorem for_rev_nil {K : PySem.W.Frag} {te : TE} {g : TG} {tb : TS} {E : Ends} {σ : L2.St} {H : Hp} (h : Ev K noS none σ H te 0 (· = .list [])) (q : ∀ H', Same H H' → E.nx σ H') : tFor (iRev K (tCons te tNil)) g tb E σ H := by
  refine ev_no (K := K) 0 (· = .list []) h (Nat.zero_le _) fun H' v d s hd e => ?_
  subst e
  obtain ⟨L, vs, rfl, hL, hv⟩ := Df.lst_inv hd
  obtain rfl := DfAll.n hv
  exact ⟨L, [], rfl, hL, fun i m σ' H'' => i = 0 ∧ σ' = σ ∧ H'' = H', ⟨0, rfl, rfl, rfl⟩, fun i m σ' H'' ⟨e1, e2, e3⟩ => .inl ⟨by subst e1; exact Nat.le_refl _, by subst e2 e3; exact q _ s⟩⟩
section
variable {K : PySem.W.Frag} {S : Addr → Bool} {a : Option Addr} {σ : L2.St} {H0 : Hp} {te ta tb tn : TE} {tr : TA} {m m1 m2 : Nat} {P P1 P2 : PyData → Prop} {R R1 : List PyData → Prop}
theorem ev_strI2 {i : Int} (h : EvA K S a σ H0 tr m (· = [.int i])) (few : i.natAbs < 10 ^ 80) : Ev K S a σ H0 (tCB (fun xs H Q => ∃ i, xs = [V.int i] ∧ i.natAbs.log2 < 1920 ∧ Q (.str (Str.ofString (toString i))) H) tr) m (· = .str (Str.ofString (toString i))) := by
  intro H n Q k r b q
  refine h H n _ k r b fun H1 vs ds k1 r1 hd e => ?_
  subst e
  obtain ⟨v, _, rfl, h1, h2⟩ := DfAll.c hd
  obtain rfl := DfAll.n h2
  cases h1
  have := PySem.Flt.log2_lt_of (n := i.natAbs) (k := 300) (by decide) (Nat.lt_trans few e80)
  exact ⟨i, rfl, by omega, q H1 _ _ k1 r1 (.str _) rfl⟩
theorem ev_zfillX {x : Str} {i : Int} (ha : Ev K S a σ H0 ta m1 (· = .str x)) (hb : Ev K S a σ H0 tb m2 (· = .int i)) (hp : PadOk i = true) : Ev K S a σ H0 (tM1 (fun x xs H Q => ∃ (a : Str) (i : Int), x = V.str a ∧ xs = [V.int i] ∧ PadOk i = true ∧ Q (V.str (Txt.zfill a i)) H) ta tb) (m1 + m2) (· = .str (Txt.zfill x i)) := by
  intro H n Q k r' b q
  refine ha H n _ k r' (by omega) fun H1 v d k1 r1 hd e => ?_
  subst e
  cases hd
  refine ⟨⟨_, rfl⟩, hb H1 (n + m1) _ (k.trans (keeps_one r'.sa k1)) r1 (by omega) fun H2 v d k2 r2 hd e => ?_⟩
  subst e
  cases hd
  exact ⟨x, i, rfl, rfl, hp, q H2 _ _ (k1.trans k2) (by rw [← Nat.add_assoc]; exact r2) (.str _) rfl⟩
theorem ev_lstripX {x y : Str} (ha : Ev K S a σ H0 ta m1 (· = .str x)) (hb : Ev K S a σ H0 tb m2 (· = .str y)) (few : x.length ≤ 100000) : Ev K S a σ H0 (tM1 (fun x xs H Q => ∃ a b, x = V.str a ∧ xs = [V.str b] ∧ a.length ≤ sizeLine ∧ Q (V.str (Txt.lstripChars a b)) H) ta tb) (m1 + m2) (· = .str (Txt.lstripChars x y)) :=
  ev_m1S ha hb fun H Q q => ⟨x, y, rfl, rfl, Nat.le_trans (Nat.le_trans few (by decide : 100000 ≤ 1000000)) line20, q _ (.str _)⟩
theorem ev_orStr {x y : Str} (ha : Ev K S a σ H0 ta m (· = .str x)) (hb : Ev K S a σ H0 tb 0 (· = .str y)) (few : x.length ≤ 100000) : Ev K S a σ H0 (tOrT K ta tb) m (· = .str (if x.length = 0 then y else x)) := by
  intro H n Q k r b q
  refine ha H n _ k r b fun H1 v d k1 r1 hd e => ?_
  subst e
  cases hd
  refine ⟨(x.length : Int) != 0, ⟨Nat.le_trans (Nat.le_trans few (by decide : 100000 ≤ 1000000)) line20, rfl⟩, ?_⟩
  by_cases h : x.length = 0
  · rw [if_pos h] at q
    rw [h]
    refine iteF ?_
    exact hb H1 (n + m) _ (k.trans (keeps_one r.sa k1)) r1 b fun H2 v d k2 r2 hd e => q H2 v d (k1.trans k2) r2 hd e
  · rw [if_neg h] at q
    rw [show ((x.length : Int) != 0) = true by rw [bne_iff_ne]; omega]
    exact iteT (q H1 _ _ k1 r1 (.str _) rfl)
end
/-! #### zfill, lstrip -/
theorem tl_zfill {x : Str} (k : Nat) (few : x.length ≤ k) (h : ∀ c, (TL.tl x).head? = some c → c ≠ 43 ∧ c ≠ 45) : TL.tl (Txt.zfill x (k : Int)) = List.replicate (k - x.length) 48 ++ TL.tl x := by
  unfold Txt.zfill
  by_cases hl : (k : Int) ≤ (x.length : Int)
  · rw [if_pos hl, show k - x.length = 0 by omega]
    rfl
  · rw [if_neg hl]
    have e : PySem.zfilled x ((k : Int).toNat - x.length) = Builtin.Str.padded x (k - x.length) 0 48 := by
      unfold PySem.zfilled
      have hc : x.cps[0]? = (TL.tl x).head? := by
        rw [← Array.getElem?_toList, List.head?_eq_getElem?]
      rw [hc, Int.toNat_natCast]
      split
      · rename_i e; exact absurd rfl (h _ e).1
      · rename_i e; exact absurd rfl (h _ e).2
      · rfl
    rw [e]
    show (Builtin.Str.padded x (k - x.length) 0 48).cps.toList = _
    rw [PyProof.Rows.padded_list]
    show List.replicate _ 48 ++ x.cps.toList ++ [] = _
    rw [List.append_nil]
theorem drop_takeWhile {p : Nat → Bool} : ∀ l : List Nat, l.drop (l.takeWhile p).length = l.dropWhile p
  | [] => rfl
  | c :: l => by
    rw [List.takeWhile_cons, List.dropWhile_cons]
    cases p c with
    | true => exact drop_takeWhile l
    | false => rfl
theorem tl_lstrip (x y : Str) : TL.tl (Txt.lstripChars x y) = (TL.tl x).dropWhile y.cps.contains := by
  unfold Txt.lstripChars
  rw [PyProof.Rows.stripBy_eq]
  have e : PySem.stripHi y.cps.contains false x (PySem.stripLo y.cps.contains true x) = x.length := rfl
  rw [e, TL.tl_strSub_end, ← drop_takeWhile]
  rfl
theorem dropWhile_rep {p : Nat → Bool} {c : Nat} (h : p c = true) : ∀ (k : Nat) (l : List Nat), (List.replicate k c ++ l).dropWhile p = l.dropWhile p
  | 0, _ => rfl
  | k + 1, l => by
    rw [List.replicate_succ, List.cons_append, List.dropWhile_cons, h]
    exact dropWhile_rep h k l
/-! #### dicts by texts, told -/
theorem keeps_s {H H' : Hp} (k : Keeps noS H H') : Same H H' := fun b o e => k.at rfl e
section
variable {K : PySem.W.Frag} {σ : L2.St} {H0 : Hp} {te ty tx : TE}
theorem ev_dgetX {i : Nat} {p : Addr} {kvs : List (L2.Key × V)} {z : Str} {u : V} {d : PyData} (hv : σ[i]? = some (some (.ref p))) (hp : H0 p = some (.dK kvs)) (hz : Ev K noS none σ H0 ty 0 (· = .str z)) (hval : valV kvs (.inr z) = some u) (hu : Df K H0 u d) : Ev K noS none σ H0 (tDGet (tVar i) ty) 0 (· = d) := by
  intro H n Q k r b q
  refine ⟨.ref p, hv, hz H n _ k r b fun H1 v d1 k1 r1 hd1 e => ?_⟩
  subst e
  cases hd1
  have s : Same H0 H1 := (keeps_s k).trans (keeps_no k1)
  have hp1 := s _ _ hp
  refine ⟨p, u, rfl, ?_, q H1 u _ k1 r1 (dp_no (Df.to hu s)) rfl⟩
  rw [← hval]
  exact DGet.k (k := .inr z) hp1
theorem ev_dget2X {i : Nat} {p : Addr} {kvs : List (L2.Key × V)} {z f y : Str} (hv : σ[i]? = some (some (.ref p))) (hp : H0 p = some (.dK kvs)) (hz : Ev K noS none σ H0 ty 0 (· = .str z)) (hx : Ev K noS none σ H0 tx 0 (· = .str y)) (hval : (valV kvs (.inr z)).getD (.str y) = .str f) : Ev K noS none σ H0 (tDGet2 (tVar i) ty tx) 0 (· = .str f) := by
  intro H n Q k r b q
  have s0 : Same H0 H := keeps_s k
  refine ⟨.ref p, hv, p, rfl, .inl ⟨kvs, .inl (s0 _ _ hp)⟩, hz H n _ k r b fun H1 v d1 k1 r1 hd1 e => ?_⟩
  subst e
  cases hd1
  refine hx H1 n _ (k.trans (keeps_one r.sa k1)) r1 b fun H2 v d2 k2 r2 hd2 e => ?_
  subst e
  cases hd2
  have s : Same H0 H2 := s0.trans ((keeps_no k1).trans (keeps_no k2))
  refine ⟨_, DGet.k (k := .inr z) (s _ _ hp), ?_⟩
  rw [hval]
  exact q H2 _ _ (k1.trans k2) r2 (.str _) rfl
end
mutual
theorem Df.dict' {K : PySem.W.Frag} {H : Hp} {p : Addr} {kvs : List (L2.Key × V)} (hp : H p = some (.dK kvs)) (o : HO) : ∀ (d : PyData) (v : V), Df K H v d → Df K (upd H p o) v d
  | .none, _, .non => .non
  | .bool _, _, .bl b => .bl b
  | .int _, _, .int i => .int i
  | .str _, _, .str x => .str x
  | .list ds, _, .lst (a := a) h t => .lst (by
      rcases h with (h | ⟨o', h⟩) | h
      · exact .inl (.inl (by rw [upd_ne (fun z => by rw [z, hp] at h; cases h)]; exact h))
      · exact .inl (.inr ⟨o', by rw [upd_ne (fun z => by rw [z, hp] at h; cases h)]; exact h⟩)
      · exact .inr h) (DfAll.dict' hp o ds _ t)
  | .tuple ds, _, .tup (a := a) h t => .tup (by
      obtain ⟨o', ho, h | h⟩ := h
      · exact ⟨o', ho, .inl (by rw [upd_ne (fun z => by rw [z, hp] at h; cases h)]; exact h)⟩
      · exact ⟨o', ho, .inr h⟩) (DfAll.dict' hp o ds _ t)
theorem DfAll.dict' {K : PySem.W.Frag} {H : Hp} {p : Addr} {kvs : List (L2.Key × V)} (hp : H p = some (.dK kvs)) (o : HO) : ∀ (ds : List PyData) (vs : List V), DfAll K H vs ds → DfAll K (upd H p o) vs ds
  | [], _, .nil => .nil
  | d :: ds, _, .cons h t => .cons (Df.dict' hp o d _ h) (DfAll.dict' hp o ds _ t)
end
theorem same_dict {H H1 : Hp} {p : Addr} {o : HO} (n : H p = none) (s : Same H H1) : Same H (upd H1 p o) := fun b z e => by
  rw [upd_ne (fun eb => by rw [eb, n] at e; cases e)]
  exact s b z e
theorem ev_ifB {K : PySem.W.Frag} {σ : L2.St} {H0 : Hp} {tt : TT} {ta tb : TE} {b : Bool} {P : PyData → Prop} (h : EvB σ H0 tt b) (hT : b = true → Ev K noS none σ H0 ta 0 P) (hF : b = false → Ev K noS none σ H0 tb 0 P) : Ev K noS none σ H0 (tIf tt ta tb) 0 P := by
  intro H n Q k r bd q
  refine h H (keeps_s k) _ fun H1 s1 => ?_
  cases b with
  | true => exact iteT (hT rfl H1 n _ (k.trans (Keeps.same s1)) (r.same s1) bd fun H2 v d k2 r2 hd p => q H2 v d ((Keeps.same s1).trans k2) r2 hd p)
  | false => exact iteF (hF rfl H1 n _ (k.trans (Keeps.same s1)) (r.same s1) bd fun H2 v d k2 r2 hd p => q H2 v d ((Keeps.same s1).trans k2) r2 hd p)
/-- a dict of four texts, empty tuples -/
theorem disp4 {K : PySem.W.Frag} {σ : L2.St} {H : Hp} {Q : VK} {k1 k2 k3 k4 : Str} (q : ∀ (p t1 t2 t3 t4 : Addr) (H6 : Hp), H p = none → Same H H6 → H6 p = some (.dK (mergeK [] [(.inr k1, .ref t1), (.inr k2, .ref t2), (.inr k3, .ref t3), (.inr k4, .ref t4)])) → (∀ t ∈ [t1, t2, t3, t4], Df K H6 (.ref t) (.tuple [])) → Q (.ref p) H6) : tDisp [(tC (.str k1), tTupF tNil), (tC (.str k2), tTupF tNil), (tC (.str k3), tTupF tNil), (tC (.str k4), tTupF tNil)] σ H Q := by
  intro p np
  refine ⟨Nat.zero_le _, fun t1 o1 n1 h1 => ⟨Nat.zero_le _, fun t2 o2 n2 h2 => ⟨Nat.zero_le _, fun t3 o3 n3 h3 => ⟨Nat.zero_le _, fun t4 o4 n4 h4 => ?_⟩⟩⟩⟩
  have a1 := same_new (o := .frz o1 (.tup [])) n1
  have a2 := same_new (o := .frz o2 (.tup [])) n2
  have a3 := same_new (o := .frz o3 (.tup [])) n3
  have a4 := same_new (o := .frz o4 (.tup [])) n4
  have hp := a4 _ _ (a3 _ _ (a2 _ _ (a1 _ _ (upd_same (H := H) (a := p) (o := .dK [])))))
  have e1 := a4 _ _ (a3 _ _ (a2 _ _ (upd_same (H := upd H p (.dK [])) (a := t1) (o := .frz o1 (.tup [])))))
  have e2 := a4 _ _ (a3 _ _ (upd_same (H := upd (upd H p (.dK [])) t1 (.frz o1 (.tup []))) (a := t2) (o := .frz o2 (.tup []))))
  have e3 := a4 _ _ (upd_same (H := upd (upd (upd H p (.dK [])) t1 (.frz o1 (.tup []))) t2 (.frz o2 (.tup []))) (a := t3) (o := .frz o3 (.tup [])))
  have e4 := upd_same (H := upd (upd (upd (upd H p (.dK [])) t1 (.frz o1 (.tup []))) t2 (.frz o2 (.tup []))) t3 (.frz o3 (.tup []))) (a := t4) (o := .frz o4 (.tup []))
  have s := (same_new (o := .dK []) np).trans (a1.trans (a2.trans (a3.trans a4)))
  refine ⟨hp, [(.inr k1, .ref t1), (.inr k2, .ref t2), (.inr k3, .ref t3), (.inr k4, .ref t4)], rfl, by show 4 ≤ 15; decide, q p t1 t2 t3 t4 _ np (same_dict np s) upd_same fun t ht => ?_⟩
  refine Df.dict' hp _ _ _ ?_
  rcases List.mem_cons.mp ht with rfl | ht
  · exact .tup ⟨o1, h1, .inl e1⟩ .nil
  rcases List.mem_cons.mp ht with rfl | ht
  · exact .tup ⟨o2, h2, .inl e2⟩ .nil
  rcases List.mem_cons.mp ht with rfl | ht
  · exact .tup ⟨o3, h3, .inl e3⟩ .nil
  rw [List.mem_singleton.mp ht]
  exact .tup ⟨o4, h4, .inl e4⟩ .nil
theorem ev_dput {K : PySem.W.Frag} {σ : L2.St} {H : Hp} {tv : TE} {E : Ends} {i : Nat} {z : Str} {p : Addr} {kvs : List (L2.Key × V)} {P : PyData → Prop} (h : Ev K noS none σ H tv 0 P) (hv : σ[i]? = some (some (.ref p))) (hp : H p = some (.dK kvs)) (few : kvs.length < 1000000) (q : ∀ H' v d, Same H H' → Df K H' v d → P d → E.nx σ (upd H' p (.dK (putK kvs (.inr z) v)))) : sDPut (tVar i) (tC (.str z)) tv E σ H :=
  ev_no (K := K) 0 P h (Nat.zero_le _) fun H' v d s hd pd => ⟨.ref p, hv, p, _, rfl, .inl ⟨kvs, .inr z, s _ _ hp, rfl, Nat.lt_of_lt_of_le few line20, rfl⟩, q H' v d s hd pd⟩
theorem disp4_set {K : PySem.W.Frag} {σ : L2.St} {H : Hp} {E : Ends} {u : TS} {i : Nat} {k1 k2 k3 k4 : Str} (q : ∀ (p t1 t2 t3 t4 : Addr) (H6 : Hp), H p = none → Same H H6 → H6 p = some (.dK (mergeK [] [(.inr k1, .ref t1), (.inr k2, .ref t2), (.inr k3, .ref t3), (.inr k4, .ref t4)])) → (∀ t ∈ [t1, t2, t3, t4], Df K H6 (.ref t) (.tuple [])) → u E (σ.set i (some (.ref p))) H6) : tSeq (tAsg (tDisp [(tC (.str k1), tTupF tNil), (tC (.str k2), tTupF tNil), (tC (.str k3), tTupF tNil), (tC (.str k4), tTupF tNil)]) (gName i)) u E σ H :=
  disp4 (K := K) (Q := fun v H' => u E (σ.set i (some v)) H') q
/-! #### dicts of lists of texts -/
theorem none_of {H H' : Hp} {l : Addr} (s : Same H H') (h : H' l = none) : H l = none := by
  cases e : H l with
  | none => rfl
  | some o => rw [s l o e] at h; cases h
def But (p : Addr) (H H' : Hp) : Prop := ∀ b o, b ≠ p → H b = some o → H' b = some o
theorem disp1L {σ : L2.St} {H : Hp} {Q : VK} {k1 : Str} {r1 : TA} {v1 : List V} (h1 : ∀ H Q, Q v1 H → r1 σ H Q) (f1 : v1.length ≤ 1000000) (q : ∀ (p l1 : Addr) (H6 : Hp), H p = none → Same H H6 → H6 p = some (.dK [(.inr k1, .ref l1)]) → H6 l1 = some (.lst v1) → H l1 = none → Q (.ref p) H6) : tDisp [(tC (.str k1), tLst r1)] σ H Q := by
  intro p np
  refine h1 _ _ ⟨Nat.le_trans f1 line20, fun l nl => ?_⟩
  have s := (same_new (o := .dK []) np).trans (same_new (o := .lst v1) nl)
  have pl : p ≠ l := fun e => by rw [← e, upd_same] at nl; cases nl
  refine ⟨by rw [upd_ne pl]; exact upd_same, [(.inr k1, .ref l)], rfl, by show 1 ≤ 15; decide, q p l _ np (same_dict np s) upd_same (by rw [upd_ne pl.symm]; exact upd_same) (none_of (same_new np) nl)⟩
theorem disp2L {σ : L2.St} {H : Hp} {Q : VK} {k1 k2 : Str} {r1 r2 : TA} {v1 v2 : List V} (ne : k1 ≠ k2) (h1 : ∀ H Q, Q v1 H → r1 σ H Q) (h2 : ∀ H Q, Q v2 H → r2 σ H Q) (f1 : v1.length ≤ 1000000) (f2 : v2.length ≤ 1000000) (q : ∀ (p l1 l2 : Addr) (H6 : Hp), H p = none → Same H H6 → H6 p = some (.dK [(.inr k1, .ref l1), (.inr k2, .ref l2)]) → H6 l1 = some (.lst v1) → H6 l2 = some (.lst v2) → H l1 = none → H l2 = none → Q (.ref p) H6) : tDisp [(tC (.str k1), tLst r1), (tC (.str k2), tLst r2)] σ H Q := by
  intro p np
  refine h1 _ _ ⟨Nat.le_trans f1 line20, fun l nl => h2 _ _ ⟨Nat.le_trans f2 line20, fun l2 nl2 => ?_⟩⟩
  have a1 := same_new (o := .lst v1) nl
  have a2 := same_new (o := .lst v2) nl2
  have s := (same_new (o := .dK []) np).trans (a1.trans a2)
  have pl : p ≠ l := fun e => by rw [← e, upd_same] at nl; cases nl
  have e1 := a2 _ _ (upd_same (H := upd H p (.dK [])) (a := l) (o := .lst v1))
  have ep := a2 _ _ (a1 _ _ (upd_same (H := H) (a := p) (o := .dK [])))
  have pl2 : p ≠ l2 := fun e => by rw [e, upd_same] at ep; cases ep
  have em : mergeK [] ([(Sum.inr k1, V.ref l), (Sum.inr k2, .ref l2)] : List (L2.Key × V)) = [(Sum.inr k1, .ref l), (Sum.inr k2, .ref l2)] := by
    show putK ([(Sum.inr k1, V.ref l)] : List (L2.Key × V)) (Sum.inr k2) (.ref l2) = _
    rw [putK_new _ ((valV_neg (fun e => ne (Sum.inr.inj e))).trans (valV_nil))]
    rfl
  refine ⟨ep, [(.inr k1, .ref l), (.inr k2, .ref l2)], rfl, by show 2 ≤ 15; decide, ?_⟩
  rw [em]
  exact q p l l2 _ np (same_dict np s) upd_same (by rw [upd_ne pl.symm]; exact e1) (by rw [upd_ne pl2.symm]; exact upd_same) (none_of (same_new np) nl) (none_of ((same_new np).trans a1) nl2)
theorem disp2L_set {σ : L2.St} {H : Hp} {E : Ends} {u : TS} {i : Nat} {k1 k2 : Str} {r1 r2 : TA} {v1 v2 : List V} (ne : k1 ≠ k2) (h1 : ∀ H Q, Q v1 H → r1 σ H Q) (h2 : ∀ H Q, Q v2 H → r2 σ H Q) (f1 : v1.length ≤ 1000000) (f2 : v2.length ≤ 1000000) (q : ∀ (p l1 l2 : Addr) (H6 : Hp), H p = none → Same H H6 → H6 p = some (.dK [(.inr k1, .ref l1), (.inr k2, .ref l2)]) → H6 l1 = some (.lst v1) → H6 l2 = some (.lst v2) → H l1 = none → H l2 = none → u E (σ.set i (some (.ref p))) H6) : tSeq (tAsg (tDisp [(tC (.str k1), tLst r1), (tC (.str k2), tLst r2)]) (gName i)) u E σ H :=
  disp2L (Q := fun v H' => u E (σ.set i (some v)) H') ne h1 h2 f1 f2 q
theorem ne_dk {H : Hp} {p l : Addr} {M : List (L2.Key × V)} {xs : List V} (hp : H p = some (.dK M)) (hl : H l = some (.lst xs)) : l ≠ p := fun e => by rw [e, hp] at hl; cases hl
theorem upd2L {K : PySem.W.Frag} {σ : L2.St} {H : Hp} {E : Ends} {u : TS} {i : Nat} {p : Addr} {M : List (L2.Key × V)} {k1 k2 : Str} {r1 r2 : TA} {v1 v2 : List V} (hv : σ[i]? = some (some (.ref p))) (hp : H p = some (.dK M)) (few : M.length ≤ 1000) (ne : k1 ≠ k2) (h1 : ∀ H Q, Q v1 H → r1 σ H Q) (h2 : ∀ H Q, Q v2 H → r2 σ H Q) (f1 : v1.length ≤ 1000000) (f2 : v2.length ≤ 1000000)
    (fin : ∀ (l1 l2 : Addr) (H' : Hp), But p H H' → H' p = some (.dK (mergeK M [(.inr k1, .ref l1), (.inr k2, .ref l2)])) → H' l1 = some (.lst v1) → H' l2 = some (.lst v2) → H l1 = none → H l2 = none → u E σ H') : tSeq (tDrop (tBM K "dict" rUpdD (tVar i) (tCons (tDisp [(tC (.str k1), tLst r1), (tC (.str k2), tLst r2)]) tNil))) u E σ H := by
  refine ⟨.ref p, hv, .inr (.inr (.inl ⟨rfl, .inl ⟨_, hp⟩⟩)), disp2L ne h1 h2 f1 f2 fun p2 l1 l2 H6 n2 s e e1 e2 m1 m2 => ?_⟩
  have hp6 := s _ _ hp
  refine ⟨p, p2, M, _, rfl, rfl, fun z => (by rw [← z, hp] at n2; cases n2), hp6, e, by show M.length + 2 ≤ 1000000; omega, fin l1 l2 _ (fun b o hb hbo => by rw [upd_ne hb]; exact s b o hbo) upd_same (by rw [upd_ne (ne_dk hp6 e1)]; exact e1) (by rw [upd_ne (ne_dk hp6 e2)]; exact e2) m1 m2⟩
theorem upd1L {K : PySem.W.Frag} {σ : L2.St} {H : Hp} {E : Ends} {u : TS} {i : Nat} {p : Addr} {M : List (L2.Key × V)} {k1 : Str} {r1 : TA} {v1 : List V} (hv : σ[i]? = some (some (.ref p))) (hp : H p = some (.dK M)) (few : M.length ≤ 1000) (h1 : ∀ H Q, Q v1 H → r1 σ H Q) (f1 : v1.length ≤ 1000000)
    (fin : ∀ (l1 : Addr) (H' : Hp), But p H H' → H' p = some (.dK (mergeK M [(.inr k1, .ref l1)])) → H' l1 = some (.lst v1) → H l1 = none → u E σ H') : tSeq (tDrop (tBM K "dict" rUpdD (tVar i) (tCons (tDisp [(tC (.str k1), tLst r1)]) tNil))) u E σ H := by
  refine ⟨.ref p, hv, .inr (.inr (.inl ⟨rfl, .inl ⟨_, hp⟩⟩)), disp1L h1 f1 fun p2 l1 H6 n2 s e e1 m1 => ?_⟩
  have hp6 := s _ _ hp
  refine ⟨p, p2, M, _, rfl, rfl, fun z => (by rw [← z, hp] at n2; cases n2), hp6, e, by show M.length + 1 ≤ 1000000; omega, fin l1 _ (fun b o hb hbo => by rw [upd_ne hb]; exact s b o hbo) upd_same (by rw [upd_ne (ne_dk hp6 e1)]; exact e1) m1⟩
theorem val2_none {k1 k2 : Str} {a b : V} {z : Str} (h1 : k1 ≠ z) (h2 : k2 ≠ z) : valV ([(.inr k1, a), (.inr k2, b)] : List (L2.Key × V)) (.inr z) = none := (valV_neg (fun e => h1 (Sum.inr.inj e))).trans ((valV_neg (fun e => h2 (Sum.inr.inj e))).trans valV_nil)
theorem val1_none {k1 : Str} {a : V} {z : Str} (h1 : k1 ≠ z) : valV ([(.inr k1, a)] : List (L2.Key × V)) (.inr z) = none := (valV_neg (fun e => h1 (Sum.inr.inj e))).trans valV_nil
theorem val2_snd {k1 : Str} {a b : V} {z : Str} (h1 : k1 ≠ z) : valV ([(.inr k1, a), (.inr z, b)] : List (L2.Key × V)) (.inr z) = some b := (valV_neg (fun e => h1 (Sum.inr.inj e))).trans (valV_pos rfl)
theorem nd2 {k1 k2 : Str} {a b : V} (h : k1 ≠ k2) : (([(.inr k1, a), (.inr k2, b)] : List (L2.Key × V)).map (·.1)).Nodup := by
  show ([Sum.inr k1, Sum.inr k2] : List L2.Key).Nodup
  refine List.nodup_cons.mpr ⟨fun z => ?_, List.nodup_cons.mpr ⟨List.not_mem_nil, List.nodup_nil⟩⟩
  exact h (Sum.inr.inj (List.mem_singleton.mp z))
theorem nd1 {k1 : Str} {a : V} : (([(.inr k1, a)] : List (L2.Key × V)).map (·.1)).Nodup := List.nodup_cons.mpr ⟨List.not_mem_nil, List.nodup_nil⟩
end DD

namespace LW
open PySem PySem.Spec PyProof.Rows L2 DD LamX
def tops (i : Nat) : Stmt := PySem.Challenge.pw_decreedays_k62_whole_any_words.main.body.getD i (.Pass ⟨0, 0, 0, 0⟩)
abbrev s_is_int : Stmt := tops 2
theorem sc_is_int : FnScope ["thing"] ["thing"] (defScope s_is_int) := ⟨rfl, rfl, rfl, by decide +kernel, rfl, by decide +kernel, by decide +kernel⟩
abbrev s_is_day : Stmt := tops 3
theorem sc_is_day : FnScope ["thing"] ["thing"] (defScope s_is_day) := ⟨rfl, rfl, rfl, by decide +kernel, rfl, by decide +kernel, by decide +kernel⟩
abbrev s_is_name : Stmt := tops 4
theorem sc_is_name : FnScope ["thing"] ["thing"] (defScope s_is_name) := ⟨rfl, rfl, rfl, by decide +kernel, rfl, by decide +kernel, by decide +kernel⟩
abbrev s_is_rule : Stmt := tops 14
theorem sc_is_rule : FnScope ["thing", "year"] ["thing"] (defScope s_is_rule) := ⟨rfl, rfl, rfl, by decide +kernel, rfl, by decide +kernel, by decide +kernel⟩
abbrev s_is_year : Stmt := tops 15
theorem sc_is_year : FnScope ["thing", "month", "name", "days"] ["thing"] (defScope s_is_year) := ⟨rfl, rfl, rfl, by decide +kernel, rfl, by decide +kernel, by decide +kernel⟩
abbrev s_is_month : Stmt := tops 16
theorem sc_is_month : FnScope ["thing"] ["thing"] (defScope s_is_month) := ⟨rfl, rfl, rfl, by decide +kernel, rfl, by decide +kernel, by decide +kernel⟩
abbrev s_is_day_of_month : Stmt := tops 17
theorem sc_is_day_of_month : FnScope ["thing"] ["thing"] (defScope s_is_day_of_month) := ⟨rfl, rfl, rfl, by decide +kernel, rfl, by decide +kernel, by decide +kernel⟩
abbrev s_is_date : Stmt := tops 18
theorem sc_is_date : FnScope ["thing"] ["thing"] (defScope s_is_date) := ⟨rfl, rfl, rfl, by decide +kernel, rfl, by decide +kernel, by decide +kernel⟩
abbrev s_has_date : Stmt := tops 19
theorem sc_has_date : FnScope ["rule", "date"] ["rule", "date"] (defScope s_has_date) := ⟨rfl, rfl, rfl, by decide +kernel, rfl, by decide +kernel, by decide +kernel⟩
abbrev s_includes : Stmt := tops 20
theorem sc_includes : FnScope ["rule", "date", "year", "month", "day", "months", "name", "days"] ["rule", "date"] (defScope s_includes) := ⟨rfl, rfl, rfl, by decide +kernel, rfl, by decide +kernel, by decide +kernel⟩
abbrev s_is_decree : Stmt := tops 22
theorem sc_is_decree : FnScope ["thing", "kind", "made", "date", "rest"] ["thing"] (defScope s_is_decree) := ⟨rfl, rfl, rfl, by decide +kernel, rfl, by decide +kernel, by decide +kernel⟩
abbrev s_write_integer : Stmt := tops 26
theorem sc_write_integer : FnScope ["number", "ends", "pieces", "end", "digits", "piece", "half"] ["number"] (defScope s_write_integer) := ⟨rfl, rfl, rfl, by decide +kernel, rfl, by decide +kernel, by decide +kernel⟩
abbrev s_read_integer : Stmt := tops 27
theorem sc_read_integer : FnScope ["word", "digits", "pieces", "end", "at"] ["word"] (defScope s_read_integer) := ⟨rfl, rfl, rfl, by decide +kernel, rfl, by decide +kernel, by decide +kernel⟩
abbrev s_is_integer_word : Stmt := tops 28
theorem sc_is_integer_word : FnScope ["word", "digits"] ["word"] (defScope s_is_integer_word) := ⟨rfl, rfl, rfl, by decide +kernel, rfl, by decide +kernel, by decide +kernel⟩
abbrev s_is_count_word : Stmt := tops 29
theorem sc_is_count_word : FnScope ["word"] ["word"] (defScope s_is_count_word) := ⟨rfl, rfl, rfl, by decide +kernel, rfl, by decide +kernel, by decide +kernel⟩
abbrev s_is_day_word : Stmt := tops 30
theorem sc_is_day_word : FnScope ["word"] ["word"] (defScope s_is_day_word) := ⟨rfl, rfl, rfl, by decide +kernel, rfl, by decide +kernel, by decide +kernel⟩
abbrev s_is_month_word : Stmt := tops 31
theorem sc_is_month_word : FnScope ["word", "name", "_", "days"] ["word"] (defScope s_is_month_word) := ⟨rfl, rfl, rfl, by decide +kernel, rfl, by decide +kernel, by decide +kernel⟩
abbrev s_has_form : Stmt := tops 32
theorem sc_has_form : FnScope ["word", "form"] ["word", "form"] (defScope s_has_form) := ⟨rfl, rfl, rfl, by decide +kernel, rfl, by decide +kernel, by decide +kernel⟩
abbrev s_show_rule : Stmt := tops 36
theorem sc_show_rule : FnScope ["rule", "years", "months", "name", "days"] ["rule"] (defScope s_show_rule) := ⟨rfl, rfl, rfl, by decide +kernel, rfl, by decide +kernel, by decide +kernel⟩
abbrev s_show_date : Stmt := tops 37
theorem sc_show_date : FnScope ["date", "year", "month", "day"] ["date"] (defScope s_show_date) := ⟨rfl, rfl, rfl, by decide +kernel, rfl, by decide +kernel, by decide +kernel⟩
abbrev s_show_decree : Stmt := tops 38
theorem sc_show_decree : FnScope ["decree", "kind", "made", "date", "rest", "head"] ["decree"] (defScope s_show_decree) := ⟨rfl, rfl, rfl, by decide +kernel, rfl, by decide +kernel, by decide +kernel⟩
abbrev s_read_rule : Stmt := tops 39
theorem sc_read_rule : FnScope ["text", "words", "rule"] ["text"] (defScope s_read_rule) := ⟨rfl, rfl, rfl, by decide +kernel, rfl, by decide +kernel, by decide +kernel⟩
abbrev s_read_date : Stmt := tops 40
theorem sc_read_date : FnScope ["text", "words"] ["text"] (defScope s_read_date) := ⟨rfl, rfl, rfl, by decide +kernel, rfl, by decide +kernel, by decide +kernel⟩
abbrev s_read_decree : Stmt := tops 41
theorem sc_read_decree : FnScope ["text", "words", "forms", "decree"] ["text"] (defScope s_read_decree) := ⟨rfl, rfl, rfl, by decide +kernel, rfl, by decide +kernel, by decide +kernel⟩
abbrev s_words_of : Stmt := tops 42
theorem sc_words_of : FnScope ["text"] ["text"] (defScope s_words_of) := ⟨rfl, rfl, rfl, by decide +kernel, rfl, by decide +kernel, by decide +kernel⟩
abbrev s_check_words : Stmt := tops 43
theorem sc_check_words : FnScope ["words", "at", "forms", "place", "form"] ["words", "at", "forms"] (defScope s_check_words) := ⟨rfl, rfl, rfl, by decide +kernel, rfl, by decide +kernel, by decide +kernel⟩
abbrev s_check_end : Stmt := tops 44
theorem sc_check_end : FnScope ["words", "at"] ["words", "at"] (defScope s_check_end) := ⟨rfl, rfl, rfl, by decide +kernel, rfl, by decide +kernel, by decide +kernel⟩
abbrev s_check_rule_words : Stmt := tops 45
theorem sc_check_rule_words : FnScope ["words", "at", "is_month_next", "place"] ["words", "at"] (defScope s_check_rule_words) := ⟨rfl, rfl, rfl, by decide +kernel, rfl, by decide +kernel, by decide +kernel⟩
abbrev s_make_date : Stmt := tops 46
theorem sc_make_date : FnScope ["words", "year", "month", "day"] ["words"] (defScope s_make_date) := ⟨rfl, rfl, rfl, by decide +kernel, rfl, by decide +kernel, by decide +kernel⟩
abbrev s_make_rule : Stmt := tops 47
theorem sc_make_rule : FnScope ["words", "years", "word", "name", "_", "days", "months"] ["words"] (defScope s_make_rule) := ⟨rfl, rfl, rfl, by decide +kernel, rfl, by decide +kernel, by decide +kernel⟩
abbrev s_make_decree : Stmt := tops 48
theorem sc_make_decree : FnScope ["words", "kind", "made", "date"] ["words"] (defScope s_make_decree) := ⟨rfl, rfl, rfl, by decide +kernel, rfl, by decide +kernel, by decide +kernel⟩
abbrev s__law_source : Stmt := tops 50
theorem sc__law_source : FnScope ["_law_script", "_law_at", "_law_cell", "_law_great"] ["_law_script", "_law_at"] (defScope s__law_source) := ⟨rfl, rfl, rfl, by decide +kernel, rfl, by decide +kernel, by decide +kernel⟩
abbrev s__law_draw : Stmt := tops 51
theorem sc__law_draw : FnScope ["_law_source_here", "_law_many", "_law_digit", "_law_primes", "_law_turn", "_law_base", "_law_found"] ["_law_source_here", "_law_many"] (defScope s__law_draw) := ⟨rfl, rfl, rfl, by decide +kernel, rfl, by decide +kernel, by decide +kernel⟩
abbrev s__law_has : Stmt := tops 52
theorem sc__law_has : FnScope ["_law_plan", "_law_when", "_law_parts"] ["_law_plan", "_law_when"] (defScope s__law_has) := ⟨rfl, rfl, rfl, by decide +kernel, rfl, by decide +kernel, by decide +kernel⟩
abbrev s__law_whole : Stmt := tops 53
theorem sc__law_whole : FnScope ["_law_value"] ["_law_value"] (defScope s__law_whole) := ⟨rfl, rfl, rfl, by decide +kernel, rfl, by decide +kernel, by decide +kernel⟩
abbrev s__law_is_name : Stmt := tops 54
theorem sc__law_is_name : FnScope ["_law_value", "_law_sign"] ["_law_value"] (defScope s__law_is_name) := ⟨rfl, rfl, rfl, by decide +kernel, rfl, by decide +kernel, by decide +kernel⟩
abbrev s__law_is_month : Stmt := tops 55
theorem sc__law_is_month : FnScope ["_law_value"] ["_law_value"] (defScope s__law_is_month) := ⟨rfl, rfl, rfl, by decide +kernel, rfl, by decide +kernel, by decide +kernel⟩
abbrev s__law_is_year : Stmt := tops 56
theorem sc__law_is_year : FnScope ["_law_value", "_law_names", "_law_one", "_law_name"] ["_law_value"] (defScope s__law_is_year) := ⟨rfl, rfl, rfl, by decide +kernel, rfl, by decide +kernel, by decide +kernel⟩
abbrev s__law_is_rule : Stmt := tops 57
theorem sc__law_is_rule : FnScope ["_law_value", "_law_one"] ["_law_value"] (defScope s__law_is_rule) := ⟨rfl, rfl, rfl, by decide +kernel, rfl, by decide +kernel, by decide +kernel⟩
abbrev s__law_is_date : Stmt := tops 58
theorem sc__law_is_date : FnScope ["_law_value"] ["_law_value"] (defScope s__law_is_date) := ⟨rfl, rfl, rfl, by decide +kernel, rfl, by decide +kernel, by decide +kernel⟩
abbrev s__law_is_decree : Stmt := tops 59
theorem sc__law_is_decree : FnScope ["_law_value"] ["_law_value"] (defScope s__law_is_decree) := ⟨rfl, rfl, rfl, by decide +kernel, rfl, by decide +kernel, by decide +kernel⟩
abbrev s__law_is_whole_word : Stmt := tops 60
theorem sc__law_is_whole_word : FnScope ["_law_word_here", "_law_sign"] ["_law_word_here"] (defScope s__law_is_whole_word) := ⟨rfl, rfl, rfl, by decide +kernel, rfl, by decide +kernel, by decide +kernel⟩
abbrev s__law_fits : Stmt := tops 61
theorem sc__law_fits : FnScope ["_law_word_here", "_law_form", "_law_left", "_law_colon", "_law_right", "_law_sign"] ["_law_word_here", "_law_form"] (defScope s__law_fits) := ⟨rfl, rfl, rfl, by decide +kernel, rfl, by decide +kernel, by decide +kernel⟩
abbrev s__law_rule_place : Stmt := tops 62
theorem sc__law_rule_place : FnScope ["_law_words", "_law_at", "_law_is_open", "_law_k"] ["_law_words", "_law_at"] (defScope s__law_rule_place) := ⟨rfl, rfl, rfl, by decide +kernel, rfl, by decide +kernel, by decide +kernel⟩
abbrev s__law_place : Stmt := tops 63
theorem sc__law_place : FnScope ["_law_words", "_law_forms", "_law_has_rule", "_law_k", "_law_form"] ["_law_words", "_law_forms", "_law_has_rule"] (defScope s__law_place) := ⟨rfl, rfl, rfl, by decide +kernel, rfl, by decide +kernel, by decide +kernel⟩
abbrev s__law_split : Stmt := tops 64
theorem sc__law_split : FnScope ["_law_line_here"] ["_law_line_here"] (defScope s__law_split) := ⟨rfl, rfl, rfl, by decide +kernel, rfl, by decide +kernel, by decide +kernel⟩
abbrev s__law_told : Stmt := tops 65
theorem sc__law_told : FnScope ["_law_call", "e"] ["_law_call"] (defScope s__law_told) := ⟨rfl, rfl, rfl, by decide +kernel, rfl, by decide +kernel, by decide +kernel⟩
abbrev s__law_word : Stmt := tops 66
theorem sc__law_word : FnScope ["_law_source_here", "_law_form", "_law_menus", "_law_some"] ["_law_source_here", "_law_form"] (defScope s__law_word) := ⟨rfl, rfl, rfl, by decide +kernel, rfl, by decide +kernel, by decide +kernel⟩
abbrev s__law_line : Stmt := tops 67
theorem sc__law_line : FnScope ["_law_source_here", "_law_forms", "_law_words", "_law_form"] ["_law_source_here"] (defScope s__law_line) := ⟨rfl, rfl, rfl, by decide +kernel, rfl, by decide +kernel, by decide +kernel⟩
abbrev s__law_years : Stmt := tops 68
theorem sc__law_years : FnScope ["_law_words", "_law_halves", "_law_year", "_law_word_here", "_law_pair"] ["_law_words"] (defScope s__law_years) := ⟨rfl, rfl, rfl, by decide +kernel, rfl, by decide +kernel, by decide +kernel⟩
abbrev s__law_three : Stmt := tops 69
theorem sc__law_three : FnScope ["_law_words", "_law_at"] ["_law_words", "_law_at"] (defScope s__law_three) := ⟨rfl, rfl, rfl, by decide +kernel, rfl, by decide +kernel, by decide +kernel⟩
abbrev s__law_due : Stmt := tops 70
theorem sc__law_due : FnScope ["_law_line_here", "_law_words", "_law_forms", "_law_kind", "_law_place_here", "_law_found", "_law_more"] ["_law_line_here"] (defScope s__law_due) := ⟨rfl, rfl, rfl, by decide +kernel, rfl, by decide +kernel, by decide +kernel⟩
abbrev s_law : Stmt := tops 71
theorem sc_law : FnScope ["_law_script", "_law_at", "_law_source_here", "_law_turn", "_law_words", "_law_found", "_law_place_here", "_law_due_here", "_law_line_here"] ["_law_script"] (defScope s_law) := ⟨rfl, rfl, rfl, by decide +kernel, rfl, by decide +kernel, by decide +kernel⟩
abbrev s_NoText : Stmt := inClass (tops 9) 0
theorem sc_NoText : FnScope ["self", "place"] ["self", "place"] (defScope s_NoText) := ⟨rfl, rfl, rfl, by decide +kernel, rfl, by decide +kernel, by decide +kernel⟩
abbrev s_NoRule : Stmt := inClass (tops 6) 0
theorem sc_NoRule : FnScope ["self", "rule"] ["self", "rule"] (defScope s_NoRule) := ⟨rfl, rfl, rfl, by decide +kernel, rfl, by decide +kernel, by decide +kernel⟩
structure Top (K : PySem.W.Frag) (mg : Str → Option Value) where
  a_is_int : Addr
  d_is_int : FuncData
  F_is_int : Fun K "is_int" "is_int" s_is_int a_is_int d_is_int
  m_is_int : mg "is_int" = some (.ref a_is_int)
  b_is_int : Binds K d_is_int ["thing"] []
  a_is_day : Addr
  d_is_day : FuncData
  F_is_day : Fun K "is_day" "is_day" s_is_day a_is_day d_is_day
  m_is_day : mg "is_day" = some (.ref a_is_day)
  b_is_day : Binds K d_is_day ["thing"] []
  a_is_name : Addr
  d_is_name : FuncData
  F_is_name : Fun K "is_name" "is_name" s_is_name a_is_name d_is_name
  m_is_name : mg "is_name" = some (.ref a_is_name)
  b_is_name : Binds K d_is_name ["thing"] []
  a_is_rule : Addr
  d_is_rule : FuncData
  F_is_rule : Fun K "is_rule" "is_rule" s_is_rule a_is_rule d_is_rule
  m_is_rule : mg "is_rule" = some (.ref a_is_rule)
  b_is_rule : Binds K d_is_rule ["thing"] []
  a_is_year : Addr
  d_is_year : FuncData
  F_is_year : Fun K "is_year" "is_year" s_is_year a_is_year d_is_year
  m_is_year : mg "is_year" = some (.ref a_is_year)
  b_is_year : Binds K d_is_year ["thing"] []
  a_is_month : Addr
  d_is_month : FuncData
  F_is_month : Fun K "is_month" "is_month" s_is_month a_is_month d_is_month
  m_is_month : mg "is_month" = some (.ref a_is_month)
  b_is_month : Binds K d_is_month ["thing"] []
  a_is_day_of_month : Addr
  d_is_day_of_month : FuncData
  F_is_day_of_month : Fun K "is_day_of_month" "is_day_of_month" s_is_day_of_month a_is_day_of_month d_is_day_of_month
  m_is_day_of_month : mg "is_day_of_month" = some (.ref a_is_day_of_month)
  b_is_day_of_month : Binds K d_is_day_of_month ["thing"] []
  a_is_date : Addr
  d_is_date : FuncData
  F_is_date : Fun K "is_date" "is_date" s_is_date a_is_date d_is_date
  m_is_date : mg "is_date" = some (.ref a_is_date)
  b_is_date : Binds K d_is_date ["thing"] []
  a_has_date : Addr
  d_has_date : FuncData
  F_has_date : Fun K "has_date" "has_date" s_has_date a_has_date d_has_date
  m_has_date : mg "has_date" = some (.ref a_has_date)
  b_has_date : Binds K d_has_date ["rule", "date"] []
  a_includes : Addr
  d_includes : FuncData
  F_includes : Fun K "includes" "includes" s_includes a_includes d_includes
  m_includes : mg "includes" = some (.ref a_includes)
  b_includes : Binds K d_includes ["rule", "date"] []
  a_is_decree : Addr
  d_is_decree : FuncData
  F_is_decree : Fun K "is_decree" "is_decree" s_is_decree a_is_decree d_is_decree
  m_is_decree : mg "is_decree" = some (.ref a_is_decree)
  b_is_decree : Binds K d_is_decree ["thing"] []
  a_write_integer : Addr
  d_write_integer : FuncData
  F_write_integer : Fun K "write_integer" "write_integer" s_write_integer a_write_integer d_write_integer
  m_write_integer : mg "write_integer" = some (.ref a_write_integer)
  b_write_integer : Binds K d_write_integer ["number"] []
  a_read_integer : Addr
  d_read_integer : FuncData
  F_read_integer : Fun K "read_integer" "read_integer" s_read_integer a_read_integer d_read_integer
  m_read_integer : mg "read_integer" = some (.ref a_read_integer)
  b_read_integer : Binds K d_read_integer ["word"] []
  a_is_integer_word : Addr
  d_is_integer_word : FuncData
  F_is_integer_word : Fun K "is_integer_word" "is_integer_word" s_is_integer_word a_is_integer_word d_is_integer_word
  m_is_integer_word : mg "is_integer_word" = some (.ref a_is_integer_word)
  b_is_integer_word : Binds K d_is_integer_word ["word"] []
  a_is_count_word : Addr
  d_is_count_word : FuncData
  F_is_count_word : Fun K "is_count_word" "is_count_word" s_is_count_word a_is_count_word d_is_count_word
  m_is_count_word : mg "is_count_word" = some (.ref a_is_count_word)
  b_is_count_word : Binds K d_is_count_word ["word"] []
  a_is_day_word : Addr
  d_is_day_word : FuncData
  F_is_day_word : Fun K "is_day_word" "is_day_word" s_is_day_word a_is_day_word d_is_day_word
  m_is_day_word : mg "is_day_word" = some (.ref a_is_day_word)
  b_is_day_word : Binds K d_is_day_word ["word"] []
  a_is_month_word : Addr
  d_is_month_word : FuncData
  F_is_month_word : Fun K "is_month_word" "is_month_word" s_is_month_word a_is_month_word d_is_month_word
  m_is_month_word : mg "is_month_word" = some (.ref a_is_month_word)
  b_is_month_word : Binds K d_is_month_word ["word"] []
  a_has_form : Addr
  d_has_form : FuncData
  F_has_form : Fun K "has_form" "has_form" s_has_form a_has_form d_has_form
  m_has_form : mg "has_form" = some (.ref a_has_form)
  b_has_form : Binds K d_has_form ["word", "form"] []
  a_show_rule : Addr
  d_show_rule : FuncData
  F_show_rule : Fun K "show_rule" "show_rule" s_show_rule a_show_rule d_show_rule
  m_show_rule : mg "show_rule" = some (.ref a_show_rule)
  b_show_rule : Binds K d_show_rule ["rule"] []
  a_show_date : Addr
  d_show_date : FuncData
  F_show_date : Fun K "show_date" "show_date" s_show_date a_show_date d_show_date
  m_show_date : mg "show_date" = some (.ref a_show_date)
  b_show_date : Binds K d_show_date ["date"] []
  a_show_decree : Addr
  d_show_decree : FuncData
  F_show_decree : Fun K "show_decree" "show_decree" s_show_decree a_show_decree d_show_decree
  m_show_decree : mg "show_decree" = some (.ref a_show_decree)
  b_show_decree : Binds K d_show_decree ["decree"] []
  a_read_rule : Addr
  d_read_rule : FuncData
  F_read_rule : Fun K "read_rule" "read_rule" s_read_rule a_read_rule d_read_rule
  m_read_rule : mg "read_rule" = some (.ref a_read_rule)
  b_read_rule : Binds K d_read_rule ["text"] []
  a_read_date : Addr
  d_read_date : FuncData
  F_read_date : Fun K "read_date" "read_date" s_read_date a_read_date d_read_date
  m_read_date : mg "read_date" = some (.ref a_read_date)
  b_read_date : Binds K d_read_date ["text"] []
  a_read_decree : Addr
  d_read_decree : FuncData
  F_read_decree : Fun K "read_decree" "read_decree" s_read_decree a_read_decree d_read_decree
  m_read_decree : mg "read_decree" = some (.ref a_read_decree)
  b_read_decree : Binds K d_read_decree ["text"] []
  a_words_of : Addr
  d_words_of : FuncData
  F_words_of : Fun K "words_of" "words_of" s_words_of a_words_of d_words_of
  m_words_of : mg "words_of" = some (.ref a_words_of)
  b_words_of : Binds K d_words_of ["text"] []
  a_check_words : Addr
  d_check_words : FuncData
  F_check_words : Fun K "check_words" "check_words" s_check_words a_check_words d_check_words
  m_check_words : mg "check_words" = some (.ref a_check_words)
  b_check_words : Binds K d_check_words ["words", "at", "forms"] []
  a_check_end : Addr
  d_check_end : FuncData
  F_check_end : Fun K "check_end" "check_end" s_check_end a_check_end d_check_end
  m_check_end : mg "check_end" = some (.ref a_check_end)
  b_check_end : Binds K d_check_end ["words", "at"] []
  a_check_rule_words : Addr
  d_check_rule_words : FuncData
  F_check_rule_words : Fun K "check_rule_words" "check_rule_words" s_check_rule_words a_check_rule_words d_check_rule_words
  m_check_rule_words : mg "check_rule_words" = some (.ref a_check_rule_words)
  b_check_rule_words : Binds K d_check_rule_words ["words", "at"] []
  a_make_date : Addr
  d_make_date : FuncData
  F_make_date : Fun K "make_date" "make_date" s_make_date a_make_date d_make_date
  m_make_date : mg "make_date" = some (.ref a_make_date)
  b_make_date : Binds K d_make_date ["words"] []
  a_make_rule : Addr
  d_make_rule : FuncData
  F_make_rule : Fun K "make_rule" "make_rule" s_make_rule a_make_rule d_make_rule
  m_make_rule : mg "make_rule" = some (.ref a_make_rule)
  b_make_rule : Binds K d_make_rule ["words"] []
  a_make_decree : Addr
  d_make_decree : FuncData
  F_make_decree : Fun K "make_decree" "make_decree" s_make_decree a_make_decree d_make_decree
  m_make_decree : mg "make_decree" = some (.ref a_make_decree)
  b_make_decree : Binds K d_make_decree ["words"] []
  a__law_source : Addr
  d__law_source : FuncData
  F__law_source : Fun K "_law_source" "_law_source" s__law_source a__law_source d__law_source
  m__law_source : mg "_law_source" = some (.ref a__law_source)
  b__law_source : Binds K d__law_source ["_law_script", "_law_at"] []
  a__law_draw : Addr
  d__law_draw : FuncData
  F__law_draw : Fun K "_law_draw" "_law_draw" s__law_draw a__law_draw d__law_draw
  m__law_draw : mg "_law_draw" = some (.ref a__law_draw)
  b__law_draw : Binds K d__law_draw ["_law_source_here", "_law_many"] []
  a__law_has : Addr
  d__law_has : FuncData
  F__law_has : Fun K "_law_has" "_law_has" s__law_has a__law_has d__law_has
  m__law_has : mg "_law_has" = some (.ref a__law_has)
  b__law_has : Binds K d__law_has ["_law_plan", "_law_when"] []
  a__law_whole : Addr
  d__law_whole : FuncData
  F__law_whole : Fun K "_law_whole" "_law_whole" s__law_whole a__law_whole d__law_whole
  m__law_whole : mg "_law_whole" = some (.ref a__law_whole)
  b__law_whole : Binds K d__law_whole ["_law_value"] []
  a__law_is_name : Addr
  d__law_is_name : FuncData
  F__law_is_name : Fun K "_law_is_name" "_law_is_name" s__law_is_name a__law_is_name d__law_is_name
  m__law_is_name : mg "_law_is_name" = some (.ref a__law_is_name)
  b__law_is_name : Binds K d__law_is_name ["_law_value"] []
  a__law_is_month : Addr
  d__law_is_month : FuncData
  F__law_is_month : Fun K "_law_is_month" "_law_is_month" s__law_is_month a__law_is_month d__law_is_month
  m__law_is_month : mg "_law_is_month" = some (.ref a__law_is_month)
  b__law_is_month : Binds K d__law_is_month ["_law_value"] []
  a__law_is_year : Addr
  d__law_is_year : FuncData
  F__law_is_year : Fun K "_law_is_year" "_law_is_year" s__law_is_year a__law_is_year d__law_is_year
  m__law_is_year : mg "_law_is_year" = some (.ref a__law_is_year)
  b__law_is_year : Binds K d__law_is_year ["_law_value"] []
  a__law_is_rule : Addr
  d__law_is_rule : FuncData
  F__law_is_rule : Fun K "_law_is_rule" "_law_is_rule" s__law_is_rule a__law_is_rule d__law_is_rule
  m__law_is_rule : mg "_law_is_rule" = some (.ref a__law_is_rule)
  b__law_is_rule : Binds K d__law_is_rule ["_law_value"] []
  a__law_is_date : Addr
  d__law_is_date : FuncData
  F__law_is_date : Fun K "_law_is_date" "_law_is_date" s__law_is_date a__law_is_date d__law_is_date
  m__law_is_date : mg "_law_is_date" = some (.ref a__law_is_date)
  b__law_is_date : Binds K d__law_is_date ["_law_value"] []
  a__law_is_decree : Addr
  d__law_is_decree : FuncData
  F__law_is_decree : Fun K "_law_is_decree" "_law_is_decree" s__law_is_decree a__law_is_decree d__law_is_decree
  m__law_is_decree : mg "_law_is_decree" = some (.ref a__law_is_decree)
  b__law_is_decree : Binds K d__law_is_decree ["_law_value"] []
  a__law_is_whole_word : Addr
  d__law_is_whole_word : FuncData
  F__law_is_whole_word : Fun K "_law_is_whole_word" "_law_is_whole_word" s__law_is_whole_word a__law_is_whole_word d__law_is_whole_word
  m__law_is_whole_word : mg "_law_is_whole_word" = some (.ref a__law_is_whole_word)
  b__law_is_whole_word : Binds K d__law_is_whole_word ["_law_word_here"] []
  a__law_fits : Addr
  d__law_fits : FuncData
  F__law_fits : Fun K "_law_fits" "_law_fits" s__law_fits a__law_fits d__law_fits
  m__law_fits : mg "_law_fits" = some (.ref a__law_fits)
  b__law_fits : Binds K d__law_fits ["_law_word_here", "_law_form"] []
  a__law_rule_place : Addr
  d__law_rule_place : FuncData
  F__law_rule_place : Fun K "_law_rule_place" "_law_rule_place" s__law_rule_place a__law_rule_place d__law_rule_place
  m__law_rule_place : mg "_law_rule_place" = some (.ref a__law_rule_place)
  b__law_rule_place : Binds K d__law_rule_place ["_law_words", "_law_at"] []
  a__law_place : Addr
  d__law_place : FuncData
  F__law_place : Fun K "_law_place" "_law_place" s__law_place a__law_place d__law_place
  m__law_place : mg "_law_place" = some (.ref a__law_place)
  b__law_place : Binds K d__law_place ["_law_words", "_law_forms", "_law_has_rule"] []
  a__law_split : Addr
  d__law_split : FuncData
  F__law_split : Fun K "_law_split" "_law_split" s__law_split a__law_split d__law_split
  m__law_split : mg "_law_split" = some (.ref a__law_split)
  b__law_split : Binds K d__law_split ["_law_line_here"] []
  a__law_told : Addr
  d__law_told : FuncData
  F__law_told : Fun K "_law_told" "_law_told" s__law_told a__law_told d__law_told
  m__law_told : mg "_law_told" = some (.ref a__law_told)
  b__law_told : Binds K d__law_told ["_law_call"] []
  a__law_word : Addr
  d__law_word : FuncData
  F__law_word : Fun K "_law_word" "_law_word" s__law_word a__law_word d__law_word
  m__law_word : mg "_law_word" = some (.ref a__law_word)
  b__law_word : Binds K d__law_word ["_law_source_here", "_law_form"] []
  a__law_line : Addr
  d__law_line : FuncData
  F__law_line : Fun K "_law_line" "_law_line" s__law_line a__law_line d__law_line
  m__law_line : mg "_law_line" = some (.ref a__law_line)
  b__law_line : Binds K d__law_line ["_law_source_here"] []
  a__law_years : Addr
  d__law_years : FuncData
  F__law_years : Fun K "_law_years" "_law_years" s__law_years a__law_years d__law_years
  m__law_years : mg "_law_years" = some (.ref a__law_years)
  b__law_years : Binds K d__law_years ["_law_words"] []
  a__law_three : Addr
  d__law_three : FuncData
  F__law_three : Fun K "_law_three" "_law_three" s__law_three a__law_three d__law_three
  m__law_three : mg "_law_three" = some (.ref a__law_three)
  b__law_three : Binds K d__law_three ["_law_words", "_law_at"] []
  a__law_due : Addr
  d__law_due : FuncData
  F__law_due : Fun K "_law_due" "_law_due" s__law_due a__law_due d__law_due
  m__law_due : mg "_law_due" = some (.ref a__law_due)
  b__law_due : Binds K d__law_due ["_law_line_here"] []
  a_law : Addr
  d_law : FuncData
  F_law : Fun K "law" "law" s_law a_law d_law
  m_law : mg "law" = some (.ref a_law)
  b_law : Binds K d_law ["_law_script"] []
  n_isinstance : mg "isinstance" = none
  n_int : mg "int" = none
  n_bool : mg "bool" = none
  n_str : mg "str" = none
  n_len : mg "len" = none
  n_tuple : mg "tuple" = none
  n_all : mg "all" = none
  n_any : mg "any" = none
  n_reversed : mg "reversed" = none
  n_range : mg "range" = none
  n_enumerate : mg "enumerate" = none
  n_abs : mg "abs" = none
  n_dict : mg "dict" = none
  n_min : mg "min" = none
  n_max : mg "max" = none
  n_ValueError : mg "ValueError" = none
  v_ValueError : PySem.W.findCls K (.type "ValueError") (.type "type") "__init__" = some (.val (.builtin "ValueError.__init__"))
  C_NoText : Addr
  I_NoText : Addr
  di_NoText : FuncData
  X_NoText : ExcTop K mg "NoText" "NoText.__init__" "place" s_NoText C_NoText I_NoText di_NoText
  C_NoRule : Addr
  I_NoRule : Addr
  di_NoRule : FuncData
  X_NoRule : ExcTop K mg "NoRule" "NoRule.__init__" "rule" s_NoRule C_NoRule I_NoRule di_NoRule
  c_law : Addr
  P_law : Addr
  e_law : d_law.code = .ref c_law
  v_LONGEST_NAME : ∃ t, mg "LONGEST_NAME" = some (.int 8 t)
  v_MOST_DAYS : ∃ t, mg "MOST_DAYS" = some (.int 60 t)
  v_MOST_MONTHS : ∃ t, mg "MOST_MONTHS" = some (.int 13 t)
  v_MOST_YEARS : ∃ t, mg "MOST_YEARS" = some (.int 20 t)
  v_PIECE : ∃ t, mg "PIECE" = some (.int 64 t)
  v_PIECE_END : ∃ t, mg "PIECE_END" = some (.int 10000000000000000000000000000000000000000000000000000000000000000 t)
  par : Params
  A_DATE_FORMS : Addr
  v_DATE_FORMS : mg "DATE_FORMS" = some (.ref A_DATE_FORMS)
  t_DATE_FORMS : ∀ H, SqF K H A_DATE_FORMS [.str "year", .str "name", .str "day"]
  A_DECREE_FORMS : Addr
  v_DECREE_FORMS : mg "DECREE_FORMS" = some (.ref A_DECREE_FORMS)
  A_DECREE_FORMS_rule : Addr
  t_DECREE_FORMS_rule : ∀ H, SqF K H A_DECREE_FORMS_rule [.str "made", .str "year", .str "name", .str "day", .str "year", .str "name", .str "day"]
  A_DECREE_FORMS_jump : Addr
  t_DECREE_FORMS_jump : ∀ H, SqF K H A_DECREE_FORMS_jump [.str "made", .str "year", .str "name", .str "day", .str "year", .str "name", .str "day"]
  A_DECREE_FORMS_rename : Addr
  t_DECREE_FORMS_rename : ∀ H, SqF K H A_DECREE_FORMS_rename [.str "made", .str "year", .str "name", .str "day", .str "name", .str "name"]
  A_DECREE_FORMS_restore : Addr
  t_DECREE_FORMS_restore : ∀ H, SqF K H A_DECREE_FORMS_restore [.str "made", .str "year", .str "name", .str "day"]
  k_DECREE_FORMS : KTab K par A_DECREE_FORMS [("rule", A_DECREE_FORMS_rule), ("jump", A_DECREE_FORMS_jump), ("rename", A_DECREE_FORMS_rename), ("restore", A_DECREE_FORMS_restore)]
theorem ok_init_NoText {P : Program} {w : World} {K : PySem.W.Frag} {mg : Str → Option Value} {base : Heap} (T : Top K mg) : FnOk P w K mg base CX0 1 T.I_NoText T.di_NoText ["self", "place"] (spExc T.C_NoText "place") := by
  refine T.X_NoText.F.ok sc_NoText spExc_len (fun cdv A outer s H vs Q E hr h => ?_)
  obtain ⟨a, v, rfl, ha, q⟩ := h
  refine ⟨_, pss_cons (ps_expr (pe_veinit (by rfl) T.n_ValueError T.v_ValueError (pa_cons (pv 0) (pa_cons pe_str pa_nil)))) (pss_one (ps_ost (pv 0) (pv 1))), ?_⟩
  refine ⟨.ref a, rfl, a, T.C_NoText, _, rfl, (by show 1 ≤ 1000; decide), T.X_NoText.o, ha, ?_⟩
  exact ⟨v, rfl, .ref a, rfl, a, T.C_NoText, rfl, T.X_NoText.o, T.X_NoText.no, .inl ⟨ha, fun dx h1 h2 => q dx h1 h2⟩⟩
theorem ok_init_NoRule {P : Program} {w : World} {K : PySem.W.Frag} {mg : Str → Option Value} {base : Heap} (T : Top K mg) : FnOk P w K mg base CX0 1 T.I_NoRule T.di_NoRule ["self", "rule"] (spExc T.C_NoRule "rule") := by
  refine T.X_NoRule.F.ok sc_NoRule spExc_len (fun cdv A outer s H vs Q E hr h => ?_)
  obtain ⟨a, v, rfl, ha, q⟩ := h
  refine ⟨_, pss_cons (ps_expr (pe_veinit (by rfl) T.n_ValueError T.v_ValueError (pa_cons (pv 0) (pa_cons pe_str pa_nil)))) (pss_one (ps_ost (pv 0) (pv 1))), ?_⟩
  refine ⟨.ref a, rfl, a, T.C_NoRule, _, rfl, (by show 1 ≤ 1000; decide), T.X_NoRule.o, ha, ?_⟩
  exact ⟨v, rfl, .ref a, rfl, a, T.C_NoRule, rfl, T.X_NoRule.o, T.X_NoRule.no, .inl ⟨ha, fun dx h1 h2 => q dx h1 h2⟩⟩

section
variable {P : Program} {w : World} {K : PySem.W.Frag} {mg : Str → Option Value} {base : Heap}
theorem isInt_eq (d : PyData) : isInt d = (isKint d && !isKbool d) := by cases d <;> rfl
theorem ok_is_int (T : Top K mg) : FnOk P w K mg base CX0 1 T.a_is_int T.d_is_int ["thing"] (spB K isInt) := by
  refine T.F_is_int.ok sc_is_int spB_len (fun cdv A outer s H vs Q E hr h => ?_)
  obtain ⟨v, d, rfl, hd, g, q⟩ := h
  refine ⟨_, pss_one (ps_ret (pe_and
    (pe_callB call_isiD (by rfl) T.n_isinstance (by decide +kernel) (pa_cons (pv 0) (pa_cons (pe_bltn (v := .ty "int") (by rfl) T.n_int (by decide +kernel) rfl) pa_nil)))
    (pe_one (pe_not (pe_callB call_isiD (by rfl) T.n_isinstance (by decide +kernel) (pa_cons (pv 0) (pa_cons (pe_bltn (v := .ty "bool") (by rfl) T.n_bool (by decide +kernel) rfl) pa_nil))))))), ?_⟩
  refine ⟨v, rfl, v, d, "int", _, rfl, hd, kit_int d g.fin, _, rfl, ite2 (fun h1 => ?_) (fun h1 => ?_)⟩
  · refine ⟨v, rfl, v, d, "bool", _, rfl, hd, kit_bool d g.fin, _, rfl, ?_⟩
    have e := isInt_eq d
    rw [h1, Bool.true_and] at e
    rw [← e]
    exact q H (Same.refl H)
  · have e := isInt_eq d
    rw [Bool.eq_false_iff.mpr h1, Bool.false_and] at e
    rw [← e]
    exact q H (Same.refl H)
/-! #### names -/
def lowAZ (x : Str) : Bool := x.cps.all fun c => decide (97 ≤ c ∧ c ≤ 122)
def nameStr (x : Str) : Bool := decide (1 ≤ x.length ∧ x.length ≤ 8) && lowAZ x
def isName : PyData → Bool
  | .str x => nameStr x
  | _ => false
theorem ascii_tab : ∀ c, c < 128 → (Unicode.isAlpha c = decide ((65 ≤ c ∧ c ≤ 90) ∨ (97 ≤ c ∧ c ≤ 122))) ∧ (Unicode.isLower c = decide (97 ≤ c ∧ c ≤ 122)) ∧ (Unicode.isUpper c || Unicode.isTitle c) = decide (65 ≤ c ∧ c ≤ 90) := by decide +kernel
theorem all_list (x : Str) (p : Nat → Bool) : x.cps.all p = x.cps.toList.all p := by rw [Array.all_toList]
theorem any_list (x : Str) (p : Nat → Bool) : x.cps.any p = x.cps.toList.any p := by rw [Array.any_toList]
/-- the three methods together: letters a to z alone, at least one -/
theorem three (x : Str) : (Txt.isascii x && (Txt.isalpha x && Txt.islower x)) = (decide (1 ≤ x.length) && lowAZ x) := by
  rw [Bool.eq_iff_iff]
  unfold Txt.isascii Txt.isalpha Txt.islower lowAZ
  rw [all_list, all_list, all_list, any_list, any_list]
  simp only [Bool.and_eq_true, List.all_eq_true, List.any_eq_true, Bool.not_eq_true', List.any_eq_false, decide_eq_true_eq, gt_iff_lt]
  have len : x.length = x.cps.toList.length := by rw [Array.length_toList]; rfl
  constructor
  · rintro ⟨asc, ⟨pos, alp⟩, low, noup⟩
    refine ⟨pos, fun c hc => ?_⟩
    obtain ⟨t1, t2, t3⟩ := ascii_tab c (asc c hc)
    have u := noup c hc
    have a := alp c hc
    rw [t1] at a
    have a' := of_decide_eq_true a
    rw [t3] at u
    have u' : ¬ (65 ≤ c ∧ c ≤ 90) := fun z => u (decide_eq_true z)
    omega
  · rintro ⟨pos, az⟩
    have asc : ∀ c ∈ x.cps.toList, c < 128 := fun c hc => by
      have := az c hc
      omega
    obtain ⟨c0, r, e0⟩ : ∃ c0 r, x.cps.toList = c0 :: r := by
      cases e : x.cps.toList with
      | nil =>
        rw [len, e] at pos
        exact absurd pos (by decide)
      | cons c r => exact ⟨c, r, rfl⟩
    have m0 : c0 ∈ x.cps.toList := by rw [e0]; exact List.mem_cons_self ..
    refine ⟨asc, ⟨pos, fun c hc => ?_⟩, ⟨c0, m0, ?_⟩, fun c hc => ?_⟩
    · rw [(ascii_tab c (asc c hc)).1]
      exact decide_eq_true (.inr (az c hc))
    · rw [(ascii_tab c0 (asc c0 m0)).2.1]
      exact decide_eq_true (az c0 m0)
    · rw [(ascii_tab c (asc c hc)).2.2]
      have := az c hc
      intro z
      have := of_decide_eq_true z
      omega
theorem ok_is_name (T : Top K mg) : FnOk P w K mg base CX0 1 T.a_is_name T.d_is_name ["thing"] (spB K isName) := by
  obtain ⟨t8, m8⟩ := T.v_LONGEST_NAME
  refine T.F_is_name.ok sc_is_name spB_len (fun cdv A outer s H vs Q E hr h => ?_)
  obtain ⟨v, d, rfl, hd, g, q⟩ := h
  refine ⟨_, pss_cons (ps_if (PW.pt (pw_or
      (pt_not (pt_val (pe_callB call_isiD (by rfl) T.n_isinstance (by decide +kernel) (pa_cons (pv 0) (pa_cons (pe_bltn (v := .ty "str") (by rfl) T.n_str (by decide +kernel) rfl) pa_nil)))))
      (pw_or1 (pt_cmpR op_gt (pe_callB call_len (by rfl) T.n_len PySem.boot_len (pa_cons (pv 0) pa_nil)) (pe_glob (v := .int 8) rfl m8 ⟨_, rfl⟩) (nomark _)))))
      (pss_one (ps_ret pe_bl)) pss_nil)
    (pss_one (ps_ret (pe_and (pe_m0 PySem.F.slot_str_isascii PySem.F.type_str_isascii mt_isascii (pv 0))
      (pe_and (pe_m0 PySem.F.slot_str_isalpha PySem.F.type_str_isalpha mt_isalpha (pv 0))
        (pe_one (pe_m0 PySem.F.slot_str_islower PySem.F.type_str_islower mt_islower (pv 0))))))), ?_⟩
  refine ⟨v, rfl, v, d, "str", _, rfl, hd, kit_str d g.fin, _, rfl, ?_⟩
  cases d with
  | str x =>
    cases hd
    have hx : 10 * x.length + 4 ≤ 900000 := g.wt
    have hl : x.length ≤ sizeLine := Nat.le_trans (by omega) line20
    refine iteF ⟨.str x, rfl, .str x, x.length, rfl, ⟨hl, rfl⟩, (x.length : Int), 8, rfl, rfl, _, rfl, ite2 (fun h1 => ?_) (fun h1 => ?_)⟩
    · have h2 : (8 : Int) < x.length := of_decide_eq_true h1
      have e : isName (.str x) = false := by
        show (decide (1 ≤ x.length ∧ x.length ≤ 8) && lowAZ x) = false
        rw [decide_eq_false (by omega), Bool.false_and]
      rw [e] at q
      exact q H (Same.refl H)
    · have h2 : x.length ≤ 8 := by
        have : ¬ (8 : Int) < x.length := fun z => h1 (decide_eq_true z)
        omega
      have e : isName (.str x) = (Txt.isascii x && (Txt.isalpha x && Txt.islower x)) := by
        rw [three]
        show (decide (1 ≤ x.length ∧ x.length ≤ 8) && lowAZ x) = _
        by_cases h3 : 1 ≤ x.length
        · rw [decide_eq_true h3, decide_eq_true ⟨h3, h2⟩]
        · rw [decide_eq_false h3, decide_eq_false (fun z => h3 z.1)]
      rw [e] at q
      refine ⟨.str x, rfl, ⟨x, rfl⟩, x, rfl, rfl, trivial, _, rfl, ite2 (fun a1 => ?_) (fun a1 => ?_)⟩
      · rw [a1, Bool.true_and] at q
        refine ⟨.str x, rfl, ⟨x, rfl⟩, x, rfl, rfl, trivial, _, rfl, ite2 (fun a2 => ?_) (fun a2 => ?_)⟩
        · rw [a2, Bool.true_and] at q
          exact ⟨.str x, rfl, ⟨x, rfl⟩, x, rfl, rfl, trivial, q H (Same.refl H)⟩
        · rw [Bool.eq_false_iff.mpr a2, Bool.false_and] at q
          exact q H (Same.refl H)
      · rw [Bool.eq_false_iff.mpr a1, Bool.false_and] at q
        exact q H (Same.refl H)
  | none => exact iteT (q H (Same.refl H))
  | bool b => exact iteT (q H (Same.refl H))
  | int i => exact iteT (q H (Same.refl H))
  | list xs => exact iteT (q H (Same.refl H))
  | tuple xs => exact iteT (q H (Same.refl H))
  | dict kvs => exact nomatch g.fin
/-! #### dates -/
def isDayM : PyData → Bool
  | .int i => decide (1 ≤ i ∧ i ≤ 60)
  | _ => false
theorem ne_int {a b : Int} : (!decide (V.int a = V.int b)) = true ↔ a ≠ b := by
  rw [Bool.not_eq_true', decide_eq_false_iff_not]
  exact not_congr ⟨V.int.inj, congrArg _⟩
theorem and_goal {R : Bool → Prop} {a b : Bool} (h1 : a = true → R b) (h2 : a = false → R false) : R (a && b) := by
  cases a with
  | true => exact h1 rfl
  | false => exact h2 rfl
theorem ok_is_day_of_month (T : Top K mg) : FnOk P w K mg base CX0 2 T.a_is_day_of_month T.d_is_day_of_month ["thing"] (spB K isDayM) := by
  obtain ⟨t6, m6⟩ := T.v_MOST_DAYS
  have GI : FnOk P w K mg base CX0 1 T.a_is_int T.d_is_int ["thing"] (spB K isInt) := ok_is_int T
  refine T.F_is_day_of_month.ok sc_is_day_of_month spB_len (fun cdv A outer s H vs Q E hr h => ?_)
  obtain ⟨v, d, rfl, hd, g, q⟩ := h
  refine ⟨_, pss_one (ps_ret (pe_and (pe_call GI hr (by rfl) T.m_is_int T.F_is_int.kp T.b_is_int .nil pass0 (pa_cons (pv 0) pa_nil))
    (pe_one (pe_chain op_le op_le pe_int (pv 0) (pe_glob (v := .int 60) rfl m6 ⟨_, rfl⟩))))), ?_⟩
  refine ⟨v, rfl, v, d, rfl, hd, g, fun H1 s1 => ⟨_, rfl, ite2 (fun h1 => ?_) (fun h1 => ?_)⟩⟩
  · cases d with
    | int i =>
      cases hd
      refine ⟨.int i, rfl, 1, i, rfl, rfl, _, rfl, ite2 (fun h2 => ?_) (fun h2 => ?_)⟩
      · refine ⟨i, 60, rfl, rfl, ?_⟩
        have e : isDayM (.int i) = decide (i ≤ 60) := by
          have h3 : 1 ≤ i := of_decide_eq_true h2
          show decide (1 ≤ i ∧ i ≤ 60) = _
          rw [decide_eq_decide]
          omega
        rw [e] at q
        exact q H1 s1
      · have h3 : ¬ 1 ≤ i := fun z => h2 (decide_eq_true z)
        have e : isDayM (.int i) = false := decide_eq_false (by omega)
        rw [e] at q
        exact q H1 s1
    | none => exact nomatch h1
    | bool b => exact nomatch h1
    | str x => exact nomatch h1
    | list xs => exact nomatch h1
    | tuple xs => exact nomatch h1
    | dict kvs => exact nomatch h1
  · have e : isDayM d = false := by
      cases d <;> first | rfl | exact absurd rfl h1
    rw [e] at q
    exact q H1 s1
end

section
variable {P : Program} {w : World} {K : PySem.W.Frag} {mg : Str → Option Value} {base : Heap}
/-! #### rules -/
def isMonth : PyData → Bool
  | .tuple [a, b] => isName a && isDayM b
  | _ => false
def nameIn : PyData → Str
  | .tuple (.str s :: _) => s
  | _ => Str.ofString ""
def isYear : PyData → Bool
  | .tuple ms => decide (1 ≤ ms.length ∧ ms.length ≤ 13) && (ms.all isMonth && decide (ms.map nameIn).Nodup)
  | _ => false
def isRule : PyData → Bool
  | .tuple ys => decide (1 ≤ ys.length ∧ ys.length ≤ 20) && ys.all isYear
  | _ => false
theorem isMonth_len {ds : List PyData} (h : ds.length ≠ 2) : isMonth (.tuple ds) = false := by
  match ds, h with
  | [], _ => rfl
  | [_], _ => rfl
  | [_, _], h => exact absurd rfl h
  | _ :: _ :: _ :: _, _ => rfl
theorem isMonth_inv {d : PyData} (h : isMonth d = true) : ∃ s i, d = .tuple [.str s, .int i] ∧ 1 ≤ i ∧ i ≤ 60 ∧ nameStr s = true := by
  cases d with
  | tuple ds =>
    have hl : ds.length = 2 := by
      by_cases hl : ds.length = 2
      · exact hl
      · rw [isMonth_len hl] at h
        cases h
    obtain ⟨a, b, rfl⟩ := len2 hl
    obtain ⟨h1, h2⟩ := Bool.and_eq_true_iff.mp (show (isName a && isDayM b) = true from h)
    cases a with
    | str s =>
      cases b with
      | int i =>
        have := of_decide_eq_true (show decide (1 ≤ i ∧ i ≤ 60) = true from h2)
        exact ⟨s, i, rfl, this.1, this.2, h1⟩
      | _ => exact nomatch h2
    | _ => exact nomatch h1
  | _ => exact nomatch h
theorem bools_all (f : PyData → Bool) (ms : List PyData) : (ms.map f).all id = ms.all f := by rw [List.all_map]; rfl
theorem ok_is_month (T : Top K mg) : FnOk P w K mg base CX0 3 T.a_is_month T.d_is_month ["thing"] (spB K isMonth) := by
  have GN : FnOk P w K mg base CX0 1 T.a_is_name T.d_is_name ["thing"] (spB K isName) := ok_is_name T
  have GD : FnOk P w K mg base CX0 2 T.a_is_day_of_month T.d_is_day_of_month ["thing"] (spB K isDayM) := ok_is_day_of_month T
  refine T.F_is_month.ok sc_is_month spB_len (fun cdv A outer s H vs Q E hr h => ?_)
  obtain ⟨v, d, rfl, hd, g, q⟩ := h
  have hr1 : Room 1 _ := hr.mono (by decide)
  refine ⟨_, pss_cons (ps_if (PW.pt (pw_or
      (pt_not (pt_val (pe_callB call_isiD (by rfl) T.n_isinstance (by decide +kernel) (pa_cons (pv 0) (pa_cons (pe_bltn (v := .ty "tuple") (by rfl) T.n_tuple (by decide +kernel) rfl) pa_nil)))))
      (pw_or1 (pt_cmpR op_ne (pe_callB call_len (by rfl) T.n_len PySem.boot_len (pa_cons (pv 0) pa_nil)) pe_int (nomark _)))))
      (pss_one (ps_ret pe_bl)) pss_nil)
    (pss_one (ps_ret (pe_and (pe_call GN hr1 (by rfl) T.m_is_name T.F_is_name.kp T.b_is_name .nil pass0 (pa_cons (pe_ix ix_tup (pv 0) pe_int (fun _ _ => rfl)) pa_nil))
        (pe_one (pe_call GD hr (by rfl) T.m_is_day_of_month T.F_is_day_of_month.kp T.b_is_day_of_month .nil pass0 (pa_cons (pe_ix ix_tup (pv 0) pe_int (fun _ _ => rfl)) pa_nil)))))), ?_⟩
  refine ⟨v, rfl, v, d, "tuple", _, rfl, hd, kit_tuple d g.fin, _, rfl, ?_⟩
  cases d with
  | tuple ds =>
    obtain ⟨a, vs, rfl, hT, hds⟩ := Df.tup_inv hd
    have el : vs.length = ds.length := DfAll.len hds
    refine iteF ⟨.ref a, rfl, .ref a, vs.length, rfl, .inr ⟨vs, hT, rfl⟩, rfl, _, rfl, ite2 (fun h1 => ?_) (fun h1 => ?_)⟩
    · have h2 := ne_int.mp h1
      have e := isMonth_len (ds := ds) (by omega)
      rw [e] at q
      exact q H (Same.refl H)
    · have h2 : ds.length = 2 := by
        have : ¬ (vs.length : Int) ≠ 2 := fun z => h1 (ne_int.mpr z)
        omega
      obtain ⟨d1, d2, rfl⟩ := len2 h2
      obtain ⟨v1, v2, rfl, p1, p2⟩ := DfAll.two hds
      have g1 := (g.tup_mem (d := d1) (by simp)).up (n' := 900000) (k' := 50)
      have g2 := (g.tup_mem (d := d2) (by simp)).up (n' := 900000) (k' := 50)
      have q' : ∀ H', Same H H' → Q (.bl (isName d1 && isDayM d2)) H' := q
      refine ⟨.ref a, rfl, a, _, 0, v1, rfl, rfl, hT, rfl, v1, d1, rfl, p1, g1, fun H1 s1 => ⟨_, rfl, ite2 (fun b1 => ?_) (fun b1 => ?_)⟩⟩
      · rw [b1, Bool.true_and] at q'
        exact ⟨.ref a, rfl, a, _, 1, v2, rfl, rfl, seqT_mono s1 hT, rfl, v2, d2, rfl, Df.to p2 s1, g2, fun H2 s2 => q' H2 (s1.trans s2)⟩
      · rw [Bool.eq_false_iff.mpr b1, Bool.false_and] at q'
        exact q' H1 s1
  | none => exact iteT (q H (Same.refl H))
  | bool b => exact iteT (q H (Same.refl H))
  | int i => exact iteT (q H (Same.refl H))
  | list xs => exact iteT (q H (Same.refl H))
  | str x => exact iteT (q H (Same.refl H))
  | dict kvs => exact nomatch g.fin
/-- all(f(x) for each x of a tuple) -/
theorem ev_allT {S : Addr → Bool} {a : Option Addr} {σ : L2.St} {H0 : Hp} {i slot : Nat} {vs : List Nat} {v : V} {ms : List PyData} {r : PyData → Bool} {E : XK} (hv : σ[i]? = some (some v)) (hd : Df K (hid S H0) v (.tuple ms)) (hg : ∀ m ∈ ms, Good 900000 50 m) (few : ms.length ≤ 100000)
    (hw : ∀ x, wipe ((wipe σ vs).set slot (some x)) vs = wipe σ vs) (hx : ∀ x, ((wipe σ vs).set slot (some x))[slot]? = some (some x)) :
    Ev K S a σ H0 (tCB (rAll K) (tCons (tLc (iTup K (tVar i)) (gName slot) tYes (tCall (spB K r) [] E (tCons (tVar slot) tNil)) vs) tNil)) (0 + ms.length * 0 + 0) (· = .bool (ms.all r)) := by
  refine ev_all (R := fun l => l = [.list ((ms.map r).map PyData.bool)]) (eva_cons (P := fun d => d = .list ((ms.map r).map PyData.bool)) (R1 := (· = [])) ?_ eva_n (fun d l e1 e2 => by rw [e1, e2])) (fun l e => ⟨_, e, by rw [bools_all]⟩)
  refine ev_lcT (es := ms) (P := fun i e => ∀ m, ms[i]? = some m → e = .bool (r m)) (ev_var hv hd rfl) hw few (fun D H1 s1 i x e he hde => ?_) (fun ds hl hp => ?_)
  · exact ev_callB (R := (· = [e])) (eva_c (ev_var (hx x) hde rfl) eva_n) (fun l e' => ⟨e, e', hg e (List.mem_of_getElem? he), fun m hm => by rw [he] at hm; cases hm; rfl⟩)
  · congr 1
    rw [List.map_map]
    exact list_by ms ds hl fun i e m h1 h2 => hp i e h1 m h2
theorem ok_is_year (T : Top K mg) : FnOk P w K mg base CX0 4 T.a_is_year T.d_is_year ["thing"] (spB K isYear) := by
  obtain ⟨t13, m13⟩ := T.v_MOST_MONTHS
  have GM : FnOk P w K mg base CX0 3 T.a_is_month T.d_is_month ["thing"] (spB K isMonth) := ok_is_month T
  refine T.F_is_year.ok sc_is_year spB_len (fun cdv A outer s H vs Q E hr h => ?_)
  obtain ⟨v, d, rfl, hd, g, q⟩ := h
  refine ⟨_, pss_cons (ps_if (PW.pt (pw_or
      (pt_not (pt_val (pe_callB call_isiD (by rfl) T.n_isinstance (by decide +kernel) (pa_cons (pv 0) (pa_cons (pe_bltn (v := .ty "tuple") (by rfl) T.n_tuple (by decide +kernel) rfl) pa_nil)))))
      (pw_or1 (pt_not (pt_chain op_le op_le pe_int (pe_callB call_len (by rfl) T.n_len PySem.boot_len (pa_cons (pv 0) pa_nil)) (pe_glob (v := .int 13) rfl m13 ⟨_, rfl⟩))))))
      (pss_one (ps_ret pe_bl)) pss_nil)
    (pss_cons (ps_if (pt_not (pt_val (pe_callB (cr_all rfl) (by rfl) T.n_all (by decide +kernel) (pa_cons
      (pe_lc (own := [("month", 1)]) (g := gName 1) (tt := tYes) (by rfl) sc_is_year.nd (pi_tup (pv 0)) (blkOk_by (own := [("month", 1)]) (N := ["thing", "month", "name", "days"]) (sc := defScope s_is_year) (by decide +kernel))
        (fun _ _ _ _ _ => pg_name (i := 1) sc_is_year.nd rfl (Or.inl rfl)) (fun _ _ _ _ _ => pts_nil) (fun _ _ _ _ _ => (pe_call GM hr (by rfl) T.m_is_month T.F_is_month.kp T.b_is_month .nil pass0 (pa_cons (pv 1) pa_nil)))) pa_nil))))
      (pss_one (ps_ret pe_bl)) pss_nil)
    (pss_one (ps_ret (pe_cmpR op_eq (pe_callB call_lenK (by rfl) T.n_len PySem.boot_len (pa_cons
      (pe_kc (own := [("name", 2), ("days", 3)]) (g := gTup K 2 (gCons (gName 2) (gCons (gName 3) gNil))) (tt := tYes) (by rfl) sc_is_year.nd (pi_tup (pv 0)) (blkOk_by (own := [("name", 2), ("days", 3)]) (N := ["thing", "month", "name", "days"]) (sc := defScope s_is_year) (by decide +kernel))
        (fun _ _ _ _ _ => pg_tup rfl (pgs_cons (pg_name (i := 2) sc_is_year.nd rfl (Or.inl rfl)) (pgs_cons (pg_name (i := 3) sc_is_year.nd rfl (Or.inl rfl)) pgs_nil))) (fun _ _ _ _ _ => pts_nil) (fun _ _ _ _ _ => pv 2)) pa_nil))
      (pe_callB call_len (by rfl) T.n_len PySem.boot_len (pa_cons (pv 0) pa_nil)) (nomark _))))), ?_⟩
  refine ⟨v, rfl, v, d, "tuple", _, rfl, hd, kit_tuple d g.fin, _, rfl, ?_⟩
  cases d with
  | tuple ms =>
    obtain ⟨a, vs, rfl, hT, hds⟩ := Df.tup_inv hd
    have el : vs.length = ms.length := DfAll.len hds
    refine iteF ⟨.ref a, rfl, .ref a, vs.length, rfl, .inr ⟨vs, hT, rfl⟩, 1, (vs.length : Int), rfl, rfl, _, rfl, ite2 (fun h1 => ?_) (fun h1 => ?_)⟩
    · have h1' : (1 : Int) ≤ vs.length := of_decide_eq_true h1
      refine ⟨(vs.length : Int), 13, rfl, rfl, _, rfl, ite2 (fun h2 => ?_) (fun h2 => ?_)⟩
      · have h2' : ¬ ((vs.length : Int) ≤ 13) := by simpa using h2
        have e : isYear (.tuple ms) = false := by
          show (decide (1 ≤ ms.length ∧ ms.length ≤ 13) && _) = false
          rw [decide_eq_false (by omega), Bool.false_and]
        rw [e] at q
        exact q H (Same.refl H)
      · have h2' : (vs.length : Int) ≤ 13 := by simpa using h2
        have e : isYear (.tuple ms) = (ms.all isMonth && decide (ms.map nameIn).Nodup) := by
          show (decide (1 ≤ ms.length ∧ ms.length ≤ 13) && _) = _
          rw [decide_eq_true (by omega), Bool.true_and]
        rw [e] at q
        have hg : ∀ m ∈ ms, Good 900000 50 m := fun m hm => (g.tup_mem hm).up
        dsimp only [tNext]
        refine if_notN (K := K) (b := ms.all isMonth) (0 + ms.length * 0 + 0) (ev_allT (i := 0) (slot := 1) (v := .ref a) (r := isMonth) rfl (dp_no hd) hg (by omega) (fun _ => rfl) (fun _ => rfl)) (by rw [Nat.mul_zero]; exact Nat.zero_le _) (fun b0 H1 s1 => ?_) (fun b1 H1 s1 => ?_)
        · rw [b0, Bool.false_and] at q
          exact q H1 s1
        · rw [b1, Bool.true_and] at q
          have hms := List.all_eq_true.mp b1
          dsimp only
          have hT1 := seqT_mono s1 hT
          refine ⟨.ref a, rfl, a, rfl, ⟨vs, hT1⟩, fun D nD => kc_it (walk_tup (K := K) (a := a) (xs := vs)) (fun i H' => ∃ (S : Key → Bool) (n : Nat), H' D = some (SetK P w D S n) ∧ n ≤ i ∧ (n = i ↔ ((ms.map nameIn).take i).Nodup) ∧ (∀ k, S k = true ↔ ∃ x ∈ (ms.map nameIn).take i, k = .inr x) ∧ Same H1 H') ?_ ?_ ?_ ?_⟩
          · exact ⟨_, 0, upd_same, Nat.le_refl _, ⟨fun _ => List.nodup_nil, fun _ => rfl⟩, fun k => ⟨fun z => absurd z Bool.false_ne_true, fun ⟨x, hx, _⟩ => absurd hx List.not_mem_nil⟩, same_new nD⟩
          · rintro i H' hi ⟨S, n, _, _, _, _, s2⟩
            exact seqT_mono s2 hT1
          · rintro i x H' _ hi ⟨S, n, e1, e2, e3, e4, s2⟩ ⟨rfl, hx⟩
            obtain ⟨m, hm1, hm2⟩ := DfAll.get hds hx
            obtain ⟨nm, k, rfl, _⟩ := isMonth_inv (hms m (List.mem_of_getElem? hm1))
            obtain ⟨b, ws, rfl, hb, hws⟩ := Df.tup_inv hm2
            obtain ⟨y1, y2, rfl, p1, p2⟩ := DfAll.two hws
            cases p1
            cases p2
            have hn : (ms.map nameIn)[i]? = some nm := by
              rw [List.getElem?_map, hm1]
              rfl
            refine ⟨b, _, rfl, seqT_mono (s1.trans s2) hb, rfl, .str nm, [.int k], rfl, .int k, [], rfl, rfl, rfl, ?_⟩
            dsimp only [tYes]
            rw [if_pos rfl]
            have nl : n < 14 := by omega
            refine ⟨.str nm, rfl, .inr nm, S, n, rfl, e1, Nat.lt_of_lt_of_le (by omega : n + 1 < 20) (by decide), _, _, upd_same, ?_, ?_, ?_, fun c o e => ?_⟩
            · split <;> omega
            · rw [nodup_take hn, ← e3]
              by_cases hS : S (.inr nm) = true
              · rw [if_pos hS]
                obtain ⟨z, hz, ez⟩ := (e4 _).mp hS
                cases ez
                exact ⟨fun z => by omega, fun z => absurd hz z.2⟩
              · rw [if_neg hS]
                exact ⟨fun z => ⟨by omega, fun hz => hS ((e4 _).mpr ⟨nm, hz, rfl⟩)⟩, fun z => by omega⟩
            · intro kk
              rw [Bool.or_eq_true, decide_eq_true_eq, e4, List.take_add_one, hn]
              constructor
              · rintro (⟨x, hx, e⟩ | e)
                · exact ⟨x, List.mem_append_left _ hx, e⟩
                · exact ⟨nm, List.mem_append_right _ (List.mem_singleton.mpr rfl), e⟩
              · rintro ⟨x, hx, e⟩
                rcases List.mem_append.mp hx with hx | hx
                · exact .inl ⟨x, hx, e⟩
                · rw [List.mem_singleton.mp hx] at e
                  exact .inr e
            · have hc : c ≠ D := ne_of_none e nD
              rw [upd_ne hc]
              exact s2 c o e
          · rintro H' ⟨S, n, e1, e2, e3, e4, s2⟩
            have hT2 := seqT_mono s2 hT1
            refine ⟨D, S, n, rfl, e1, .ref a, rfl, .ref a, vs.length, rfl, .inr ⟨vs, hT2, rfl⟩, rfl, ?_⟩
            have lm : (ms.map nameIn).take vs.length = ms.map nameIn := List.take_of_length_le (by rw [List.length_map]; omega)
            rw [lm] at e3
            have e : decide (V.int (n : Int) = V.int (vs.length : Int)) = decide (ms.map nameIn).Nodup := by
              rw [decide_eq_decide, ← e3]
              exact ⟨fun z => by have := V.int.inj z; omega, fun z => by rw [z]⟩
            rw [e]
            exact q H' (s1.trans s2)
    · have e : isYear (.tuple ms) = false := by
        have : ¬ ((1 : Int) ≤ vs.length) := fun z => h1 (decide_eq_true z)
        show (decide (1 ≤ ms.length ∧ ms.length ≤ 13) && _) = false
        rw [decide_eq_false (by omega), Bool.false_and]
      rw [e] at q
      exact ⟨_, rfl, q H (Same.refl H)⟩
  | none => exact iteT (q H (Same.refl H))
  | bool b => exact iteT (q H (Same.refl H))
  | int i => exact iteT (q H (Same.refl H))
  | list xs => exact iteT (q H (Same.refl H))
  | str x => exact iteT (q H (Same.refl H))
  | dict kvs => exact nomatch g.fin
theorem ok_is_rule (T : Top K mg) : FnOk P w K mg base CX0 5 T.a_is_rule T.d_is_rule ["thing"] (spB K isRule) := by
  obtain ⟨t20, m20⟩ := T.v_MOST_YEARS
  have GY : FnOk P w K mg base CX0 4 T.a_is_year T.d_is_year ["thing"] (spB K isYear) := ok_is_year T
  refine T.F_is_rule.ok sc_is_rule spB_len (fun cdv A outer s H vs Q E hr h => ?_)
  obtain ⟨v, d, rfl, hd, g, q⟩ := h
  refine ⟨_, pss_cons (ps_if (PW.pt (pw_or
      (pt_not (pt_val (pe_callB call_isiD (by rfl) T.n_isinstance (by decide +kernel) (pa_cons (pv 0) (pa_cons (pe_bltn (v := .ty "tuple") (by rfl) T.n_tuple (by decide +kernel) rfl) pa_nil)))))
      (pw_or1 (pt_not (pt_chain op_le op_le pe_int (pe_callB call_len (by rfl) T.n_len PySem.boot_len (pa_cons (pv 0) pa_nil)) (pe_glob (v := .int 20) rfl m20 ⟨_, rfl⟩))))))
      (pss_one (ps_ret pe_bl)) pss_nil)
    (pss_one (ps_ret (pe_callB (cr_all rfl) (by rfl) T.n_all (by decide +kernel) (pa_cons
      (pe_lc (own := [("year", 1)]) (g := gName 1) (tt := tYes) (by rfl) sc_is_rule.nd (pi_tup (pv 0)) (blkOk_by (own := [("year", 1)]) (N := ["thing", "year"]) (sc := defScope s_is_rule) (by decide +kernel)) (fun _ _ _ _ _ => pg_name (i := 1) sc_is_rule.nd rfl (Or.inl rfl)) (fun _ _ _ _ _ => pts_nil) (fun _ _ _ _ _ => (pe_call GY hr (by rfl) T.m_is_year T.F_is_year.kp T.b_is_year .nil pass0 (pa_cons (pv 1) pa_nil)))) pa_nil)))), ?_⟩
  refine ⟨v, rfl, v, d, "tuple", _, rfl, hd, kit_tuple d g.fin, _, rfl, ?_⟩
  cases d with
  | tuple ms =>
    obtain ⟨a, vs, rfl, hT, hds⟩ := Df.tup_inv hd
    have el : vs.length = ms.length := DfAll.len hds
    refine iteF ⟨.ref a, rfl, .ref a, vs.length, rfl, .inr ⟨vs, hT, rfl⟩, 1, (vs.length : Int), rfl, rfl, _, rfl, ite2 (fun h1 => ?_) (fun h1 => ?_)⟩
    · have h1' : (1 : Int) ≤ vs.length := of_decide_eq_true h1
      refine ⟨(vs.length : Int), 20, rfl, rfl, _, rfl, ite2 (fun h2 => ?_) (fun h2 => ?_)⟩
      · have h2' : ¬ ((vs.length : Int) ≤ 20) := by simpa using h2
        have e : isRule (.tuple ms) = false := by
          show (decide (1 ≤ ms.length ∧ ms.length ≤ 20) && _) = false
          rw [decide_eq_false (by omega), Bool.false_and]
        rw [e] at q
        exact q H (Same.refl H)
      · have h2' : (vs.length : Int) ≤ 20 := by simpa using h2
        have e : isRule (.tuple ms) = ms.all isYear := by
          show (decide (1 ≤ ms.length ∧ ms.length ≤ 20) && _) = _
          rw [decide_eq_true (by omega), Bool.true_and]
        rw [e] at q
        have hg : ∀ m ∈ ms, Good 900000 50 m := fun m hm => (g.tup_mem hm).up
        dsimp only [tNext]
        exact ev_retN (K := K) (0 + ms.length * 0 + 0) (· = .bool (ms.all isYear)) (ev_allT (i := 0) (slot := 1) (v := .ref a) (r := isYear) rfl (dp_no hd) hg (by omega) (fun _ => rfl) (fun _ => rfl)) (by rw [Nat.mul_zero]; exact Nat.zero_le _) fun H1 v1 d1 s1 hd1 e1 => by subst e1; cases hd1; exact q H1 s1
    · have e : isRule (.tuple ms) = false := by
        have : ¬ ((1 : Int) ≤ vs.length) := fun z => h1 (decide_eq_true z)
        show (decide (1 ≤ ms.length ∧ ms.length ≤ 20) && _) = false
        rw [decide_eq_false (by omega), Bool.false_and]
      rw [e] at q
      exact ⟨_, rfl, q H (Same.refl H)⟩
  | none => exact iteT (q H (Same.refl H))
  | bool b => exact iteT (q H (Same.refl H))
  | int i => exact iteT (q H (Same.refl H))
  | list xs => exact iteT (q H (Same.refl H))
  | str x => exact iteT (q H (Same.refl H))
  | dict kvs => exact nomatch g.fin
end

section
theorem isYear_inv {d : PyData} (h : isYear d = true) : ∃ ms, d = .tuple ms ∧ 1 ≤ ms.length ∧ ms.length ≤ 13 ∧ (∀ m ∈ ms, isMonth m = true) ∧ (ms.map nameIn).Nodup := by
  cases d with
  | tuple ms =>
    obtain ⟨h1, h2⟩ := Bool.and_eq_true_iff.mp (show (decide (1 ≤ ms.length ∧ ms.length ≤ 13) && (ms.all isMonth && decide (ms.map nameIn).Nodup)) = true from h)
    obtain ⟨h2, h3⟩ := Bool.and_eq_true_iff.mp h2
    have := of_decide_eq_true h1
    exact ⟨ms, rfl, this.1, this.2, List.all_eq_true.mp h2, of_decide_eq_true h3⟩
  | _ => exact nomatch h
theorem isRule_inv {d : PyData} (h : isRule d = true) : ∃ ys, d = .tuple ys ∧ 1 ≤ ys.length ∧ ys.length ≤ 20 ∧ ∀ y ∈ ys, isYear y = true := by
  cases d with
  | tuple ms =>
    obtain ⟨h1, h2⟩ := Bool.and_eq_true_iff.mp (show (decide (1 ≤ ms.length ∧ ms.length ≤ 20) && ms.all isYear) = true from h)
    have := of_decide_eq_true h1
    exact ⟨ms, rfl, this.1, this.2, List.all_eq_true.mp h2⟩
  | _ => exact nomatch h
end

/-! #### words, told by their signs -/
def digL (l : List Nat) : Bool := l.all fun c => decide (48 ≤ c ∧ c ≤ 57)
/-- the signs of an integer from 0 -/
def wholeL (l : List Nat) : Bool := !l.isEmpty && (digL l && (decide (l = [48]) || !decide (l.head? = some 48)))
def stripm : List Nat → List Nat
  | 45 :: r => r
  | l => l
def intL (l : List Nat) : Bool := !(stripm l).isEmpty && (digL (stripm l) && (decide (l = [48]) || !decide ((stripm l).head? = some 48)))
def ivalL : List Nat → Int
  | 45 :: r => -((NumText.digitsVal r : Nat) : Int)
  | l => ((NumText.digitsVal l : Nat) : Int)
def wholeW (x : Str) : Bool := wholeL (TL.tl x)
def intW (x : Str) : Bool := intL (TL.tl x)
def ivalW (x : Str) : Int := ivalL (TL.tl x)
def natW (x : Str) : Nat := NumText.digitsVal (TL.tl x)
def dayW (x : Str) : Bool := wholeW x && decide (1 ≤ natW x ∧ natW x ≤ 60)
abbrev col : Str := ":"
abbrev spc : Str := " "
abbrev sla : Str := "/"
def monW (x : Str) : Bool := nameStr (Txt.partition x col).1 && dayW (Txt.partition x col).2.2
def monD (x : Str) : PyData := .tuple [.str (Txt.partition x col).1, .int (natW (Txt.partition x col).2.2)]
theorem digL_iff {l : List Nat} : digL l = true ↔ NumText.AllDigits l := by
  unfold digL NumText.AllDigits
  rw [List.all_eq_true]
  exact ⟨fun h c hc => of_decide_eq_true (h c hc), fun h c hc => decide_eq_true (h c hc)⟩
theorem stripm_of {l : List Nat} (h : ∀ r, l ≠ 45 :: r) : stripm l = l := by
  unfold stripm
  split
  · rename_i r
    exact absurd rfl (h r)
  · rfl
theorem ivalL_of {l : List Nat} (h : ∀ r, l ≠ 45 :: r) : ivalL l = ((NumText.digitsVal l : Nat) : Int) := by
  unfold ivalL
  split
  · rename_i r
    exact absurd rfl (h r)
  · rfl
/-- a day's word, as the program tells it -/
theorem dayW_eq (x : Str) : (intW x && decide (1 ≤ ivalW x ∧ ivalW x ≤ 60)) = dayW x := by
  unfold intW ivalW dayW wholeW natW
  generalize TL.tl x = l
  by_cases h : ∃ r, l = 45 :: r
  · obtain ⟨r, rfl⟩ := h
    have e1 : decide (1 ≤ ivalL (45 :: r) ∧ ivalL (45 :: r) ≤ 60) = false := by
      have : ivalL (45 :: r) = -((NumText.digitsVal r : Nat) : Int) := rfl
      rw [this]
      exact decide_eq_false (by omega)
    have e2 : wholeL (45 :: r) = false := by
      unfold wholeL
      have : digL (45 :: r) = false := rfl
      rw [this, Bool.false_and, Bool.and_false]
    rw [e1, e2, Bool.and_false, Bool.false_and]
  · have h' : ∀ r, l ≠ 45 :: r := fun r e => h ⟨r, e⟩
    have e1 : intL l = wholeL l := by
      unfold intL wholeL
      rw [stripm_of h']
    rw [e1, ivalL_of h']
    congr 1
    rw [decide_eq_decide]
    omega
theorem digit_tab : ∀ c, c < 128 → Unicode.isDigit c = decide (48 ≤ c ∧ c ≤ 57) := by decide +kernel
/-- isascii and isdigit: signs 0 to 9 alone, at least one -/
theorem ascdig (x : Str) : (Txt.isascii x && Txt.isdigit x) = (!(TL.tl x).isEmpty && digL (TL.tl x)) := by
  rw [Bool.eq_iff_iff]
  unfold Txt.isascii Txt.isdigit digL
  rw [all_list, all_list]
  simp only [Bool.and_eq_true, List.all_eq_true, decide_eq_true_eq, gt_iff_lt, Bool.not_eq_true']
  have len : x.length = x.cps.toList.length := by rw [Array.length_toList]; rfl
  have emp : (x.cps.toList.isEmpty = false) ↔ 0 < x.length := by
    rw [len]
    cases x.cps.toList <;> simp
  rw [emp]
  constructor
  · rintro ⟨asc, pos, dig⟩
    refine ⟨pos, fun c hc => ?_⟩
    have d := dig c hc
    rw [digit_tab c (asc c hc)] at d
    exact of_decide_eq_true d
  · rintro ⟨pos, dig⟩
    refine ⟨fun c hc => ?_, pos, fun c hc => ?_⟩
    · have := dig c hc
      omega
    · have := dig c hc
      rw [digit_tab c (by omega)]
      exact decide_eq_true this
abbrev mns : Str := "-"
abbrev zer : Str := "0"
theorem pre_one (c : Nat) (l : List Nat) : (l.take 1 == [c]) = decide (l.head? = some c) := by
  cases l with
  | nil => rfl
  | cons a r =>
    rw [Bool.eq_iff_iff, beq_iff_eq, decide_eq_true_eq]
    simp
theorem starts_one (x : Str) (c : Nat) : Txt.startswith x ⟨#[c]⟩ = decide ((TL.tl x).head? = some c) := by
  unfold Txt.startswith
  rw [StrLaws.subAt_eq]
  show (decide (0 + 1 ≤ x.length) && ((List.drop 0 (TL.tl x)).take 1 == [c])) = _
  rw [List.drop_zero, pre_one, TL.len_tl x]
  cases TL.tl x with
  | nil => rfl
  | cons a r =>
    rw [decide_eq_true (by rw [List.length_cons]; omega : 0 + 1 ≤ (a :: r).length), Bool.true_and]
theorem lit_mns : mns = ⟨#[45]⟩ := by decide +kernel
theorem lit_zer : zer = ⟨#[48]⟩ := by decide +kernel
theorem tl_col : TL.tl col = [58] := by decide +kernel
theorem tl_spc : TL.tl spc = [32] := by decide +kernel
theorem tl_sla : TL.tl sla = [47] := by decide +kernel
theorem starts_mns (x : Str) : Txt.startswith x mns = decide ((TL.tl x).head? = some 45) := by rw [lit_mns]; exact starts_one x 45
theorem starts_zer (x : Str) : Txt.startswith x zer = decide ((TL.tl x).head? = some 48) := by rw [lit_zer]; exact starts_one x 48
theorem remove_one (x : Str) : TL.tl (Txt.removeprefix x mns) = stripm (TL.tl x) := by
  rw [StrLaws.removeprefix_eq]
  have e0 : (decide (0 + mns.length ≤ x.length) && Builtin.Str.subAt x mns 0) = decide ((TL.tl x).head? = some 45) := starts_mns x
  rw [e0]
  have len := TL.len_tl x
  by_cases h : (TL.tl x).head? = some 45
  · rw [if_pos (decide_eq_true h)]
    show ((TL.tl x).drop mns.length).take (x.length - mns.length) = _
    rw [show mns.length = 1 by decide +kernel]
    cases e : TL.tl x with
    | nil => rw [e] at h; cases h
    | cons a r =>
      rw [e] at h len
      cases h
      show r.take (x.length - 1) = r
      exact List.take_of_length_le (by rw [len, List.length_cons]; omega)
  · rw [if_neg (by rw [decide_eq_false h]; exact Bool.false_ne_true)]
    refine (stripm_of fun r e => h ?_).symm
    rw [e]
    rfl
theorem zer_iff (x : Str) : x = zer ↔ TL.tl x = [48] := by
  constructor
  · intro e
    rw [e]
    decide +kernel
  · intro e
    refine TL.ext_tl ?_
    rw [e]
    decide +kernel
/-! #### the words of a rule's text -/
def wordsL (x : Str) : List Str := if x = "" then [] else Txt.split x spc
def placeL : Bool → Nat → List Str → Option Nat
  | o, k, [] => if o = true then some k else none
  | o, k, w :: ws => if w = sla ∧ o = false then placeL true (k + 1) ws else if monW w = true then placeL false (k + 1) ws else some k
def grp : List Str → List (List Str)
  | [] => [[]]
  | w :: ws => if w = sla then [] :: grp ws else match grp ws with
    | g :: gs => (w :: g) :: gs
    | [] => [[w]]
def ruleD (ws : List Str) : PyData := .tuple ((grp ws).map fun g => .tuple (g.map monD))
def flat : List (List Str) → List Str
  | [] => []
  | [g] => g
  | g :: r => g ++ sla :: flat r
theorem mon_sla : monW sla = false := by decide +kernel
theorem flat_cons (g : List Str) {r : List (List Str)} (h : r ≠ []) : flat (g :: r) = g ++ sla :: flat r := by
  cases r with
  | nil => exact absurd rfl h
  | cons a b => rfl
theorem flat_push (w : Str) (g : List Str) (r : List (List Str)) : w :: flat (g :: r) = flat ((w :: g) :: r) := by
  cases r <;> rfl
theorem grp_ne : ∀ ws, grp ws ≠ []
  | [] => by simp [grp]
  | w :: ws => by
    unfold grp
    split
    · simp
    · split <;> simp
/-- the groups of words that are right -/
theorem place_none : ∀ (ws : List Str) (k : Nat), (placeL true k ws = none → ws = flat (grp ws) ∧ ∀ g ∈ grp ws, g ≠ [] ∧ ∀ w ∈ g, monW w = true) ∧
    (placeL false k ws = none → ∃ g gs, grp ws = g :: gs ∧ ws = flat (g :: gs) ∧ (∀ w ∈ g, monW w = true) ∧ ∀ g' ∈ gs, g' ≠ [] ∧ ∀ w ∈ g', monW w = true)
  | [], k => ⟨(fun h => nomatch h), fun _ => ⟨[], [], rfl, rfl, fun w h => absurd h List.not_mem_nil, fun w h => absurd h List.not_mem_nil⟩⟩
  | w :: ws, k => by
    have ih := place_none ws (k + 1)
    have mon : monW w = true → placeL false (k + 1) ws = none → ∃ g gs, grp (w :: ws) = g :: gs ∧ g ≠ [] ∧ w :: ws = flat (g :: gs) ∧ (∀ w ∈ g, monW w = true) ∧ ∀ g' ∈ gs, g' ≠ [] ∧ ∀ w ∈ g', monW w = true := by
      intro hm h
      have ne : w ≠ sla := fun e => by rw [e, mon_sla] at hm; cases hm
      obtain ⟨g, gs, e1, e2, h1, h2⟩ := ih.2 h
      refine ⟨w :: g, gs, ?_, by simp, ?_, fun v hv => ?_, h2⟩
      · rw [grp, if_neg ne, e1]
      · rw [← flat_push, ← e2]
      · rcases List.mem_cons.mp hv with rfl | hv
        · exact hm
        · exact h1 v hv
    constructor
    · intro h
      have h' : (if w = sla ∧ true = false then placeL true (k + 1) ws else if monW w = true then placeL false (k + 1) ws else some k) = none := h
      rw [if_neg (fun z => nomatch z.2)] at h'
      by_cases hm : monW w = true
      · rw [if_pos hm] at h'
        obtain ⟨g, gs, e1, ne, e2, h1, h2⟩ := mon hm h'
        rw [e1]
        refine ⟨e2, fun g' hg' => ?_⟩
        rcases List.mem_cons.mp hg' with rfl | hg'
        · exact ⟨ne, h1⟩
        · exact h2 g' hg'
      · rw [if_neg hm] at h'
        cases h'
    · intro h
      have h' : (if w = sla ∧ false = false then placeL true (k + 1) ws else if monW w = true then placeL false (k + 1) ws else some k) = none := h
      by_cases hw : w = sla
      · rw [if_pos ⟨hw, rfl⟩] at h'
        obtain ⟨e1, h1⟩ := ih.1 h'
        refine ⟨[], grp ws, ?_, ?_, fun w h => absurd h List.not_mem_nil, h1⟩
        · rw [grp, if_pos hw]
        · rw [flat_cons [] (grp_ne ws), ← e1, hw]
          rfl
      · rw [if_neg (fun z => hw z.1)] at h'
        by_cases hm : monW w = true
        · rw [if_pos hm] at h'
          obtain ⟨g, gs, e1, ne, e2, h1, h2⟩ := mon hm h'
          exact ⟨g, gs, e1, e2, h1, h2⟩
        · rw [if_neg hm] at h'
          cases h'
theorem place_mons : ∀ (g : List Str) (k : Nat) (o : Bool) (r : List Str), g ≠ [] → (∀ w ∈ g, monW w = true) → placeL o k (g ++ r) = placeL false (k + g.length) r
  | [], _, _, _, h, _ => absurd rfl h
  | [w], k, o, r, _, h => by
    have hm := h w (List.mem_singleton.mpr rfl)
    have ne : w ≠ sla := fun e => by rw [e, mon_sla] at hm; cases hm
    show (if w = sla ∧ o = false then placeL true (k + 1) r else if monW w = true then placeL false (k + 1) r else some k) = _
    rw [if_neg (fun z => ne z.1), if_pos hm]
    rfl
  | w :: v :: g, k, o, r, _, h => by
    have hm := h w List.mem_cons_self
    have ne : w ≠ sla := fun e => by rw [e, mon_sla] at hm; cases hm
    show (if w = sla ∧ o = false then placeL true (k + 1) ((v :: g) ++ r) else if monW w = true then placeL false (k + 1) ((v :: g) ++ r) else some k) = _
    rw [if_neg (fun z => ne z.1), if_pos hm, place_mons (v :: g) (k + 1) false r (by simp) fun u hu => h u (List.mem_cons_of_mem _ hu)]
    rw [show k + 1 + (v :: g).length = k + (w :: v :: g).length by simp only [List.length_cons]; omega]
theorem place_flat : ∀ (gs : List (List Str)) (k : Nat), gs ≠ [] → (∀ g ∈ gs, g ≠ [] ∧ ∀ w ∈ g, monW w = true) → placeL true k (flat gs) = none
  | [], _, h, _ => absurd rfl h
  | [g], k, _, h => by
    obtain ⟨h1, h2⟩ := h g (List.mem_singleton.mpr rfl)
    have e := place_mons g k true [] h1 h2
    rw [List.append_nil] at e
    show placeL true k g = none
    rw [e]
    rfl
  | g :: f :: r, k, _, h => by
    obtain ⟨h1, h2⟩ := h g List.mem_cons_self
    show placeL true k (g ++ sla :: flat (f :: r)) = none
    rw [place_mons g k true _ h1 h2]
    show (if sla = sla ∧ false = false then placeL true (k + g.length + 1) (flat (f :: r)) else _) = none
    rw [if_pos ⟨rfl, rfl⟩]
    exact place_flat (f :: r) _ (by simp) fun g' hg' => h g' (List.mem_cons_of_mem _ hg')
theorem grp_mons : ∀ (g : List Str) (r : List Str) (f : List Str) (gs : List (List Str)), (∀ w ∈ g, monW w = true) → grp r = f :: gs → grp (g ++ r) = (g ++ f) :: gs
  | [], _, _, _, _, h => h
  | w :: g, r, f, gs, hm, h => by
    have h1 := hm w List.mem_cons_self
    have ne : w ≠ sla := fun e => by rw [e, mon_sla] at h1; cases h1
    show grp (w :: (g ++ r)) = _
    rw [grp, if_neg ne, grp_mons g r f gs (fun u hu => hm u (List.mem_cons_of_mem _ hu)) h]
    rfl
theorem grp_flat : ∀ (gs : List (List Str)), gs ≠ [] → (∀ g ∈ gs, ∀ w ∈ g, monW w = true) → grp (flat gs) = gs
  | [], h, _ => absurd rfl h
  | [g], _, h => by
    have e := grp_mons g [] [] [] (h g (List.mem_singleton.mpr rfl)) rfl
    simp only [List.append_nil] at e
    exact e
  | g :: f :: r, _, h => by
    have ih := grp_flat (f :: r) (by simp) fun g' hg' => h g' (List.mem_cons_of_mem _ hg')
    have e : grp (sla :: flat (f :: r)) = [] :: f :: r := by rw [grp, if_pos rfl, ih]
    have e2 := grp_mons g _ _ _ (h g List.mem_cons_self) e
    rw [List.append_nil] at e2
    exact e2
/-! #### texts joined and split again -/
theorem joinL_app (S : List Nat) : ∀ (p q : List (List Nat)), p ≠ [] → q ≠ [] → TL.joinL S (p ++ q) = TL.joinL S p ++ (S ++ TL.joinL S q)
  | [], _, h, _ => absurd rfl h
  | [x], [], _, h => absurd rfl h
  | [x], y :: q, _, _ => rfl
  | x :: y :: p, q, _, hq => by
    show x ++ (S ++ TL.joinL S ((y :: p) ++ q)) = (x ++ (S ++ TL.joinL S (y :: p))) ++ (S ++ TL.joinL S q)
    rw [joinL_app S (y :: p) q (by simp) hq]
    simp only [List.append_assoc]
theorem flat_ne : ∀ {gs : List (List Str)}, gs ≠ [] → (∀ g ∈ gs, g ≠ []) → flat gs ≠ []
  | [], h, _ => absurd rfl h
  | [g], _, h => h g (List.mem_singleton.mpr rfl)
  | g :: f :: r, _, h => by
    show g ++ sla :: flat (f :: r) ≠ []
    simp
def S3 : List Nat := [32, 47, 32]
theorem joinL_flat : ∀ (gs : List (List Str)), gs ≠ [] → (∀ g ∈ gs, g ≠ []) → TL.joinL [32] ((flat gs).map TL.tl) = TL.joinL S3 (gs.map fun g => TL.joinL [32] (g.map TL.tl))
  | [], h, _ => absurd rfl h
  | [g], _, _ => rfl
  | g :: f :: r, _, h => by
    have ih := joinL_flat (f :: r) (by simp) fun g' hg' => h g' (List.mem_cons_of_mem _ hg')
    have ne := flat_ne (gs := f :: r) (by simp) fun g' hg' => h g' (List.mem_cons_of_mem _ hg')
    show TL.joinL [32] ((g ++ ([sla] ++ flat (f :: r))).map TL.tl) = TL.joinL [32] (g.map TL.tl) ++ (S3 ++ TL.joinL S3 ((f :: r).map fun g => TL.joinL [32] (g.map TL.tl)))
    rw [List.map_append, List.map_append, joinL_app [32] (g.map TL.tl) _ (fun z => h g List.mem_cons_self (List.map_eq_nil_iff.mp z)) (by simp), joinL_app [32] ([sla].map TL.tl) _ (by simp) (fun z => ne (List.map_eq_nil_iff.mp z)), ih]
    show _ ++ ([32] ++ (TL.tl sla ++ ([32] ++ _))) = _
    rw [tl_sla]
    rfl
theorem pre3_false {p q : List Nat} (h : 47 ∉ p) (hq : ∀ c, q.head? = some c → c ≠ 47) : ∀ i, i < p.length → TL.pre S3 ((p ++ q).drop i) = false := by
  intro i hi
  cases hp : TL.pre S3 ((p ++ q).drop i) with
  | false => rfl
  | true =>
    exfalso
    have e : ((p ++ q).drop i).take 3 = [32, 47, 32] := eq_of_beq hp
    have e1 : (p ++ q)[i + 1]? = some 47 := by
      have : (((p ++ q).drop i).take 3)[1]? = some 47 := by rw [e]; rfl
      rw [List.getElem?_take, if_pos (by decide), List.getElem?_drop] at this
      exact this
    by_cases hlt : i + 1 < p.length
    · rw [List.getElem?_append_left hlt] at e1
      exact h (List.mem_of_getElem? e1)
    · have : i + 1 = p.length := by omega
      rw [this, List.getElem?_append_right (Nat.le_refl _), Nat.sub_self, ← List.head?_eq_getElem?] at e1
      exact hq 47 e1 rfl
theorem mem_joinL {S : List Nat} {c : Nat} : ∀ {ps : List (List Nat)}, c ∈ TL.joinL S ps → c ∈ S ∨ ∃ p ∈ ps, c ∈ p
  | [], h => absurd h List.not_mem_nil
  | [p], h => .inr ⟨p, List.mem_singleton.mpr rfl, h⟩
  | p :: q :: r, h => by
    rcases List.mem_append.mp (show c ∈ p ++ (S ++ TL.joinL S (q :: r)) from h) with h | h
    · exact .inr ⟨p, List.mem_cons_self, h⟩
    rcases List.mem_append.mp h with h | h
    · exact .inl h
    rcases mem_joinL h with h | ⟨z, hz, h⟩
    · exact .inl h
    · exact .inr ⟨z, List.mem_cons_of_mem _ hz, h⟩
theorem spl_join3 : ∀ {ps : List (List Nat)}, ps ≠ [] → (∀ p ∈ ps, 47 ∉ p) → TL.spl S3 0 [] (TL.joinL S3 ps) = ps
  | [], h, _ => absurd rfl h
  | [p], _, hp => by
    show TL.spl S3 0 [] p = [p]
    rw [TL.spl_last (fun i hi => by
      have z := pre3_false (q := []) (hp p (List.mem_singleton.mpr rfl)) (fun c hc => nomatch hc) i hi
      rw [List.append_nil] at z
      exact z), List.nil_append]
  | p :: q :: r, _, hp => by
    show TL.spl S3 0 [] (p ++ (S3 ++ TL.joinL S3 (q :: r))) = p :: q :: r
    rw [TL.spl_part (by decide) (pre3_false (hp p List.mem_cons_self) fun c hc => by cases hc; decide), List.nil_append, spl_join3 (by simp) fun z hz => hp z (List.mem_cons_of_mem _ hz)]
abbrev ssl : Str := " / "
theorem tl_ssl : TL.tl ssl = S3 := by decide +kernel
theorem low256 (y : Str) (h : TL.tl y = [32] ∨ TL.tl y = [58] ∨ TL.tl y = S3) : y.cps.all (· < 256) = true := by
  rw [all_list]
  rcases h with h | h | h <;> (show (TL.tl y).all _ = true) <;> rw [h] <;> decide
/-- the line of right words, split by years -/
theorem split_flat {x : Str} {gs : List (List Str)} (ne : gs ≠ []) (hg : ∀ g ∈ gs, g ≠ [] ∧ ∀ w ∈ g, 47 ∉ TL.tl w) (hx : TL.tl x = TL.joinL [32] ((flat gs).map TL.tl)) : Txt.split x ssl = gs.map fun g => Txt.join spc g := by
  refine TL.map_tl_inj ?_
  rw [TL.split_spl _ ssl (by rw [tl_ssl]; decide) (TL.kind_ok (low256 _ (.inr (.inr tl_ssl)))), tl_ssl, hx, joinL_flat gs ne fun g h => (hg g h).1, spl_join3 (fun z => ne (List.map_eq_nil_iff.mp z)) ?_, List.map_map]
  · refine List.map_congr_left fun g _ => ?_
    show TL.joinL [32] (g.map TL.tl) = TL.tl (Txt.join spc g)
    rw [TL.join_eq, TL.tl_join, tl_spc]
  · intro p hp
    obtain ⟨g, hg', rfl⟩ := List.mem_map.mp hp
    intro z
    rcases mem_joinL z with z | ⟨l, hl, z⟩
    · exact absurd z (by decide)
    · obtain ⟨w, hw, rfl⟩ := List.mem_map.mp hl
      exact (hg g hg').2 w hw z
theorem wholeW_inv {b : Str} (h : wholeW b = true) : TL.tl b ≠ [] ∧ NumText.AllDigits (TL.tl b) := by
  obtain ⟨h1, h2⟩ := Bool.and_eq_true_iff.mp (show (!(TL.tl b).isEmpty && (digL (TL.tl b) && _)) = true from h)
  obtain ⟨h2, _⟩ := Bool.and_eq_true_iff.mp h2
  refine ⟨fun e => ?_, digL_iff.mp h2⟩
  rw [e] at h1
  cases h1
theorem dayW_inv {b : Str} (h : dayW b = true) : wholeW b = true ∧ 1 ≤ natW b ∧ natW b ≤ 60 := by
  obtain ⟨h1, h2⟩ := Bool.and_eq_true_iff.mp (show (wholeW b && decide (1 ≤ natW b ∧ natW b ≤ 60)) = true from h)
  exact ⟨h1, of_decide_eq_true h2⟩
theorem name_inv {a : Str} (h : nameStr a = true) : 1 ≤ a.length ∧ a.length ≤ 8 ∧ ∀ c ∈ TL.tl a, 97 ≤ c ∧ c ≤ 122 := by
  obtain ⟨h1, h2⟩ := Bool.and_eq_true_iff.mp (show (decide (1 ≤ a.length ∧ a.length ≤ 8) && lowAZ a) = true from h)
  have h1 := of_decide_eq_true h1
  unfold lowAZ at h2
  rw [all_list, List.all_eq_true] at h2
  exact ⟨h1.1, h1.2, fun c hc => of_decide_eq_true (h2 c hc)⟩
theorem part_cases (w : Str) : (58 ∉ TL.tl w ∧ Txt.partition w col = (w, Str.empty, Str.empty)) ∨ ∃ a b : Str, w = a ++ col ++ b ∧ 58 ∉ TL.tl a ∧ Txt.partition w col = (a, col, b) := by
  by_cases h : 58 ∈ TL.tl w
  · obtain ⟨p, q, e, hp⟩ := List.eq_append_cons_of_mem h
    have ew : w = (⟨p.toArray⟩ : Str) ++ col ++ (⟨q.toArray⟩ : Str) := TL.ext_tl (by
      rw [TL.tl_append, TL.tl_append, tl_col, e]
      show p ++ 58 :: q = p ++ [58] ++ q
      simp)
    exact .inr ⟨_, _, ew, hp, by rw [ew]; exact TL.partition_app (S := []) tl_col hp⟩
  · exact .inl ⟨h, TL.partition_none (S := []) tl_col h⟩
/-- a month's word -/
theorem mon_inv {w : Str} (h : monW w = true) : ∃ a b : Str, w = a ++ col ++ b ∧ nameStr a = true ∧ dayW b = true ∧ Txt.partition w col = (a, col, b) ∧ Txt.split w col = [a, b] ∧ ∀ c ∈ TL.tl w, c = 58 ∨ (48 ≤ c ∧ c ≤ 57) ∨ (97 ≤ c ∧ c ≤ 122) := by
  obtain ⟨h1, h2⟩ := Bool.and_eq_true_iff.mp (show (nameStr (Txt.partition w col).1 && dayW (Txt.partition w col).2.2) = true from h)
  rcases part_cases w with ⟨_, e⟩ | ⟨a, b, ew, ha, e⟩
  · rw [e] at h2
    exact absurd (show dayW Str.empty = true from h2) (by decide +kernel)
  · rw [e] at h1 h2
    have h1 : nameStr a = true := h1
    have h2 : dayW b = true := h2
    have hb := (wholeW_inv (dayW_inv h2).1).2
    have hna := (name_inv h1).2.2
    refine ⟨a, b, ew, h1, h2, e, ?_, fun c hc => ?_⟩
    · have hj : w = Txt.join col [a, b] := by rw [TL.join_eq, ew]; rfl
      rw [hj]
      refine TL.split_join (S := []) tl_col (low256 _ (.inr (.inl tl_col))) (by simp) fun p hp z => ?_
      rcases List.mem_cons.mp hp with rfl | hp
      · have := hna 58 z
        omega
      · rw [List.mem_singleton.mp hp] at z
        have := hb 58 z
        omega
    · rw [ew, TL.tl_append, TL.tl_append, tl_col] at hc
      rcases List.mem_append.mp hc with hc | hc
      · rcases List.mem_append.mp hc with hc | hc
        · exact .inr (.inr (hna c hc))
        · exact .inl (List.mem_singleton.mp hc)
      · exact .inr (.inl (hb c hc))
theorem mon_free {w : Str} (h : monW w = true) : 32 ∉ TL.tl w ∧ 47 ∉ TL.tl w := by
  obtain ⟨a, b, _, _, _, _, _, hc⟩ := mon_inv h
  exact ⟨fun z => by have := hc 32 z; omega, fun z => by have := hc 47 z; omega⟩
theorem mon_of {a b : Str} (ha : nameStr a = true) (hb : dayW b = true) : monW (a ++ col ++ b) = true ∧ monD (a ++ col ++ b) = .tuple [.str a, .int (natW b)] := by
  have hn : 58 ∉ TL.tl a := fun z => by have := (name_inv ha).2.2 58 z; omega
  have e := TL.partition_app (b := b) (S := []) tl_col hn
  unfold monW monD
  rw [e]
  exact ⟨by show (nameStr a && dayW b) = true; rw [ha, hb]; rfl, rfl⟩
theorem words_of_line {x : Str} (h : x ≠ "") : wordsL x ≠ [] ∧ Txt.join spc (wordsL x) = x ∧ ∀ w ∈ wordsL x, 32 ∉ TL.tl w := by
  have e : wordsL x = Txt.split x spc := if_neg h
  have ls : spc = ⟨#[32]⟩ := by decide +kernel
  rw [e]
  have j := StrLaws.join_split x spc
  refine ⟨fun z => ?_, by rw [TL.join_eq]; exact j, fun w hw => ?_⟩
  · rw [z] at j
    exact h j.symm
  · rw [ls] at hw
    exact StrLaws.split_free x 32 w hw
theorem words_join {ws : List Str} (ne : ws ≠ []) (h : ∀ w ∈ ws, 32 ∉ TL.tl w) : Txt.split (Txt.join spc ws) spc = ws := TL.split_join (S := []) tl_spc (low256 _ (.inl tl_spc)) ne h
/-- the law's reading of a line whose words are right -/
theorem due_line {x : Str} (h : placeL true 0 (wordsL x) = none) : Txt.split x ssl = (grp (wordsL x)).map (fun g => Txt.join spc g) ∧ ∀ g ∈ grp (wordsL x), Txt.split (Txt.join spc g) spc = g ∧ g ≠ [] ∧ ∀ w ∈ g, monW w = true := by
  have hx : x ≠ "" := fun e => by rw [e] at h; exact absurd h (by decide +kernel)
  obtain ⟨e, hg⟩ := (place_none (wordsL x) 0).1 h
  obtain ⟨_, j, _⟩ := words_of_line hx
  refine ⟨split_flat (grp_ne _) (fun g hg' => ⟨(hg g hg').1, fun w hw => (mon_free ((hg g hg').2 w hw)).2⟩) ?_, fun g hg' => ⟨words_join (hg g hg').1 fun w hw => (mon_free ((hg g hg').2 w hw)).1, hg g hg'⟩⟩
  rw [← e]
  have := congrArg TL.tl j
  rw [TL.join_eq, TL.tl_join, tl_spc] at this
  exact this.symm

section
variable {P : Program} {w : World} {K : PySem.W.Frag} {mg : Str → Option Value} {base : Heap}
/-! #### the program's tests of words -/
theorem eqS_lit (x y : Str) : decide (V.str x = V.str y) = decide (x = y) := by
  rw [decide_eq_decide]
  exact ⟨V.str.inj, congrArg _⟩
theorem ok_is_integer_word (T : Top K mg) : FnOk P w K mg base CX0 1 T.a_is_integer_word T.d_is_integer_word ["word"] (spW intW) := by
  refine T.F_is_integer_word.ok sc_is_integer_word spW_len (fun cdv A outer s H vs Q E hr h => ?_)
  obtain ⟨x, rfl, few, ht, q⟩ := h
  refine ⟨_, (pss_cons (ps_set (i := 1) sc_is_integer_word.nd rfl (.inl rfl) (pe_m1 PySem.F.slot_str_removeprefix PySem.F.type_str_removeprefix mt_removeprefix (pv 0) pe_str)) (pss_cons (ps_if (PW.pt (pw_or (pt_not (pt_val (pe_m0 PySem.F.slot_str_isascii PySem.F.type_str_isascii mt_isascii (pv 1)))) (pw_or1 (pt_not (pt_val (pe_m0 PySem.F.slot_str_isdigit PySem.F.type_str_isdigit mt_isdigit (pv 1))))))) (pss_one (ps_ret pe_bl)) pss_nil) (pss_one (ps_ret (pe_or (pe_cmpR op_eq (pv 0) pe_str (by rfl)) (pe_one (pe_not (pe_m1 PySem.F.slot_str_startswith PySem.F.type_str_startswith mt_startswith (pv 1) pe_str)))))))), ?_⟩
  refine ev_setN (K := K) 0 (· = .str (Txt.removeprefix x mns)) (ev_remove (m1 := 0) (m2 := 0) (ev_var (i := 0) rfl (.str x) rfl) (ev_str rfl) (by omega)) (Nat.zero_le _) fun H1 v1 d1 s1 hd1 e1 => ?_
  subst e1
  cases hd1
  have er : TL.tl (Txt.removeprefix x mns) = stripm (TL.tl x) := remove_one x
  generalize Txt.removeprefix x mns = y at er ⊢
  have ad := ascdig y
  rw [er] at ad
  refine if_b (b := !Txt.isascii y || !Txt.isdigit y) (evb_or (evb_not (evb_test (K := K) (m := 0) (ev_m0S (ev_var (i := 1) rfl (.str y) rfl)) (Nat.zero_le _))) fun _ => evb_not (evb_test (K := K) (m := 0) (ev_m0S (ev_var (i := 1) rfl (.str y) rfl)) (Nat.zero_le _))) (fun hb H2 s2 => ?_) (fun hb H2 s2 => ?_)
  · have e : intW x = false := by
      have z : (Txt.isascii y && Txt.isdigit y) = false := by
        cases h1 : Txt.isascii y <;> cases h2 : Txt.isdigit y <;> rw [h1, h2] at hb <;> first | rfl | exact nomatch hb
      rw [z] at ad
      unfold intW intL
      rw [← Bool.and_assoc, ← ad, Bool.false_and]
    rw [e] at q
    exact q H2 (s1.trans s2)
  · have e : intW x = (decide (x = zer) || !Txt.startswith y zer) := by
      have z : (Txt.isascii y && Txt.isdigit y) = true := by
        cases h1 : Txt.isascii y <;> cases h2 : Txt.isdigit y <;> rw [h1, h2] at hb <;> first | rfl | exact nomatch hb
      rw [z] at ad
      unfold intW intL
      rw [← Bool.and_assoc, ← ad, Bool.true_and, starts_zer, er]
      congr 1
      rw [decide_eq_decide]
      exact (zer_iff x).symm
    rw [e] at q
    exact ev_retN (K := K) 0 (· = .bool (decide (x = zer) || !Txt.startswith y zer)) (ev_orC (m1 := 0) (m2 := 0) (ev_eqS (m1 := 0) (m2 := 0) (ev_var (i := 0) rfl (.str x) rfl) (ev_str rfl) rfl) fun _ => ev_notC (ev_starts (m1 := 0) (m2 := 0) (ev_var (i := 1) rfl (.str y) rfl) (ev_str rfl))) (Nat.zero_le _) fun H3 v3 d3 s3 hd3 e3 => by
      subst e3
      cases hd3
      exact q H3 (s1.trans (s2.trans s3))
end

section
variable {P : Program} {w : World} {K : PySem.W.Frag} {mg : Str → Option Value} {base : Heap}
/-! #### integers read -/
theorem val_zeros : ∀ (k : Nat) (l : List Nat), NumText.digitsVal (List.replicate k 48 ++ l) = NumText.digitsVal l
  | 0, _ => rfl
  | k + 1, l => by
    have ih := val_zeros k l
    unfold NumText.digitsVal at ih ⊢
    rw [List.replicate_succ, List.cons_append, List.foldl_cons]
    exact ih
theorem foldl_one (k c : Nat) : ∀ acc : Array Nat, ((List.replicate k (#[c] : Array Nat)).foldl (· ++ ·) acc).toList = acc.toList ++ List.replicate k c := by
  induction k with
  | zero =>
    intro acc
    simp
  | succ k ih =>
    intro acc
    rw [List.replicate_succ, List.foldl_cons, ih, Array.toList_append, List.replicate_succ, List.append_assoc]
    rfl
theorem tl_mul_zer (k : Int) (h0 : 0 ≤ k) : TL.tl (Txt.mul zer k) = List.replicate k.toNat 48 := by
  rw [lit_zer]
  unfold Txt.mul
  by_cases h1 : k < 1
  · rw [if_pos h1]
    have : k = 0 := by omega
    subst this
    rfl
  · rw [if_neg h1]
    by_cases h2 : k = 1
    · subst h2
      rfl
    · rw [if_neg (by
        show ¬ ((k == 1) || ((1 : Nat) == 0)) = true
        simp [h2])]
      show ((List.replicate k.toNat (#[48] : Array Nat)).foldl (· ++ ·) #[]).toList = _
      rw [foldl_one]
      rfl
theorem mulOk_zer {k : Int} (h0 : 0 ≤ k) (h1 : k < 1000) : MulOk zer k := by
  have l1 : zer.length = 1 := by decide +kernel
  refine ⟨?_, fun h _ => ?_, fun h _ => ?_⟩
  · rw [decide_eq_false (by omega), decide_eq_false (by omega)]
    rfl
  · rw [l1]
    intro z
    have hk : 0 < k := by omega
    have : (1 : Int) ≤ (2 ^ 63 - 1) / k := (Int.le_ediv_iff_mul_le hk).mpr (by omega)
    omega
  · rw [l1]
    exact short24 (by omega)
def spInt : Sp := fun vs H Q _ => ∃ x : Str, vs = [.str x] ∧ x.length ≤ 64 ∧ intW x = true ∧ ∀ H', Same H H' → Q (.int (ivalW x)) H'
theorem spInt_len : ∀ vs H Q E, spInt vs H Q E → vs.length = 1 := fun vs H Q E ⟨x, e, _⟩ => by rw [e]; rfl
def spInt0 : Sp := fun vs H Q E => spInt vs H Q E ∧ ∀ x, vs = [.str x] → (TL.tl x).head? ≠ some 45
theorem ivalW0 {x : Str} (h : (TL.tl x).head? ≠ some 45) : ivalW x = ((NumText.digitsVal (TL.tl x) : Nat) : Int) := ivalL_of fun r e => h (by rw [e]; rfl)
theorem intW0 {x : Str} (h : (TL.tl x).head? ≠ some 45) (hi : intW x = true) : TL.tl x ≠ [] ∧ NumText.AllDigits (TL.tl x) := by
  unfold intW intL at hi
  rw [stripm_of fun r e => h (by rw [e]; rfl)] at hi
  obtain ⟨h1, h2⟩ := Bool.and_eq_true_iff.mp hi
  obtain ⟨h2, _⟩ := Bool.and_eq_true_iff.mp h2
  refine ⟨fun e => ?_, digL_iff.mp h2⟩
  rw [e] at h1
  cases h1
theorem rg64 : RgC 0 64 64 1 := ⟨by decide, by decide, by decide +kernel, by decide +kernel⟩
/-- the digits, filled up to 64 -/
theorem fill64 {x : Str} (hne : TL.tl x ≠ []) (hd : NumText.AllDigits (TL.tl x)) (few : x.length ≤ 64) : ∃ k : Int, 0 ≤ k ∧ k < 64 ∧ (-(x.length : Int)) % 64 = k ∧ (Txt.mul zer k ++ x).length = 64 ∧ NumText.AllDigits (TL.tl (Txt.mul zer k ++ x)) ∧ NumText.digitsVal (TL.tl (Txt.mul zer k ++ x)) = NumText.digitsVal (TL.tl x) := by
  have pos : 0 < x.length := by
    rw [TL.len_tl]
    exact List.length_pos_iff.mpr hne
  refine ⟨64 - (x.length : Int), by omega, by omega, by omega, ?_, ?_, ?_⟩
  · rw [TL.len_tl, TL.tl_append, tl_mul_zer _ (by omega), List.length_append, List.length_replicate, ← TL.len_tl]
    omega
  · rw [TL.tl_append, tl_mul_zer _ (by omega)]
    intro c hc
    rcases List.mem_append.mp hc with hc | hc
    · rw [(List.mem_replicate.mp hc).2]
      omega
    · exact hd c hc
  · rw [TL.tl_append, tl_mul_zer _ (by omega)]
    exact val_zeros _ _
set_option maxHeartbeats 4000000 in
theorem ok_read_integer0 (T : Top K mg) : FnOk P w K mg base CX0 1 T.a_read_integer T.d_read_integer ["word"] spInt0 := by
  refine T.F_read_integer.ok sc_read_integer (fun vs H Q E h => spInt_len vs H Q E h.1) (fun cdv A outer s H vs Q E hr h => ?_)
  obtain ⟨⟨x, rfl, few, hi, q⟩, hx⟩ := h
  have hx := hx x rfl
  refine ⟨_, (pss_cons (ps_if (pt_val (pe_m1 PySem.F.slot_str_startswith PySem.F.type_str_startswith mt_startswith (pv 0) pe_str)) pss_never pss_nil) (pss_cons (ps_set (i := 1) sc_read_integer.nd rfl (.inr rfl) (pe_op op_add_str (pe_op op_mulS pe_str (pe_op op_mod (pe_un un_neg (pe_callB call_len_str (by rfl) T.n_len PySem.boot_len (pa_cons (pv 0) pa_nil))) (pe_gc (v := .int 64) (by rfl) (let ⟨t, h⟩ := T.v_PIECE; ⟨_, h, ⟨t, rfl⟩⟩)))) (pv 0))) (pss_cons (ps_set (i := 2) sc_read_integer.nd rfl (.inr rfl) (pe_lc (own := [("at", 4)]) (g := gName 4) (tt := tYes) (by rfl) sc_read_integer.nd (pi_range3 rfl T.n_range (pa_cons pe_int (pa_cons (pe_callB call_len_str (by rfl) T.n_len PySem.boot_len (pa_cons (pv 1) pa_nil)) (pa_cons (pe_gc (v := .int 64) (by rfl) (let ⟨t, h⟩ := T.v_PIECE; ⟨_, h, ⟨t, rfl⟩⟩)) pa_nil)))) (blkOk_by (own := [("at", 4)]) (N := ["word", "digits", "pieces", "end", "at"]) (sc := defScope s_read_integer) (by decide +kernel)) (fun _ _ _ _ _ => (pg_name (i := 4) sc_read_integer.nd rfl (.inl rfl))) (fun _ _ _ _ _ => pts_nil) (fun _ _ _ _ _ => (pe_callTy call_int_str (by rfl) T.n_int (by decide +kernel) (pa_cons (pe_slice sl_str (pv 1) (po_some (pv 4)) (po_some (pe_op op_add (pv 4) (pe_gc (v := .int 64) (by rfl) (let ⟨t, h⟩ := T.v_PIECE; ⟨_, h, ⟨t, rfl⟩⟩))))) pa_nil))))) (pss_cons (ps_set (i := 3) sc_read_integer.nd rfl (.inr rfl) (pe_gc (v := .int 10000000000000000000000000000000000000000000000000000000000000000) (by rfl) (let ⟨t, h⟩ := T.v_PIECE_END; ⟨_, h, ⟨t, rfl⟩⟩))) (pss_cons (ps_while PassesOwn.never (pt_cmpR op_gt (pe_callB call_len_seq (by rfl) T.n_len PySem.boot_len (pa_cons (pv 2) pa_nil)) pe_int (by rfl)) pss_never) (pss_one (ps_ret (pe_ix ix_list (pv 2) pe_int (fun _ _ => rfl))))))))), ?_⟩
  obtain ⟨hne, hdg⟩ := intW0 hx hi
  obtain ⟨k, k0, k64, ek, l64, dz, vz⟩ := fill64 hne hdg few
  refine if_b (b := false) ?_ (fun z => nomatch z) (fun _ H1 s1 => ?_)
  · have e := evb_test (K := K) (σ := start ["word", "digits", "pieces", "end", "at"] [.str x]) (H0 := H) (ev_starts (m1 := 0) (m2 := 0) (x := x) (y := mns) (ev_var (i := 0) rfl (.str x) rfl) (ev_str rfl)) (Nat.zero_le _)
    rw [starts_mns, decide_eq_false hx] at e
    exact e
  dsimp only [tNext]
  refine ev_setN (K := K) 0 (· = .str (Txt.mul zer k ++ x)) ?_ (Nat.zero_le _) fun H2 v2 d2 s2 hd2 e2 => ?_
  · refine ev_catSX (m1 := 0) (m2 := 0) (ev_mulSX (m1 := 0) (m2 := 0) (ev_str rfl) ?_ (mulOk_zer k0 (by omega))) (ev_var (i := 0) rfl (.str x) rfl) ?_
    · have e := ev_iiCX (K := K) (S := noS) (a := none) (σ := start ["word", "digits", "pieces", "end", "at"] [.str x]) (H0 := H1) (C := fun _ j => 0 < j) (f := fun i j => i % j) (m1 := 0) (m2 := 0) (ev_negX (ev_lenSX (eva_c (ev_var (i := 0) rfl (.str x) rfl) eva_n) (by omega))) (ev_int (i := 64) rfl) (by decide)
      rw [ek] at e
      exact e
    · have l := Str.length_append (Txt.mul zer k) x
      omega
  subst e2
  cases hd2
  generalize Txt.mul zer k ++ x = z at l64 dz vz ⊢
  refine ev_setN (K := K) 0 (· = .list [.int (NumText.digitsVal (TL.tl z) : Nat)]) ?_ (Nat.zero_le _) fun H3 v3 d3 s3 hd3 e3 => ?_
  · refine ev_lcR3 (lo := 0) (hi := 64) (c := 64) (N := 1) (f := fun _ => .int (NumText.digitsVal (TL.tl z) : Nat)) (eva_c (ev_int rfl) (eva_c ?_ (eva_c (ev_int rfl) eva_n))) rg64 (fun _ => rfl) (by decide) (fun D G sg i hi => ?_)
    · have e := ev_lenSX (K := K) (S := noS) (a := none) (σ := [some (.str x), some (.str z), none, none, none]) (H0 := H2) (eva_c (ev_var (i := 1) rfl (.str z) rfl) eva_n) (by omega)
      rw [l64] at e
      exact e
    · have i0 : i = 0 := by omega
      subst i0
      have hc : TL.tl (cutS z (some (0 + ((0 : Nat) : Int) * 64)) (some (0 + ((0 : Nat) : Int) * 64 + 64))) = TL.tl z := by
        rw [tl_cutS, l64]
        show ((TL.tl z).drop (HT.sIx 64 0 (some ((0 : Nat) : Int)))).take (HT.sIx 64 64 (some ((64 : Nat) : Int)) - HT.sIx 64 0 (some ((0 : Nat) : Int))) = _
        rw [HT.sIx_nat, HT.sIx_nat]
        show ((TL.tl z).drop 0).take 64 = _
        rw [List.drop_zero]
        exact List.take_of_length_le (by rw [← TL.len_tl, l64]; exact Nat.le_refl _)
      refine ev_intS (eva_c (ev_cutSX (m1 := 0) (m2 := 0) (m3 := 0) (ev_var (i := 1) rfl (.str z) rfl) (evo_X (ev_var (i := 4) rfl (.int _) rfl)) (evo_X (ev_iiX (f := fun i j => i + j) (m1 := 0) (m2 := 0) (ev_var (i := 4) rfl (.int _) rfl) (ev_int (i := 64) rfl))) (by omega)) eva_n) ?_ ?_
      · rw [← hc]
        refine intText_digits ?_ ?_ ?_
        · show NumText.AllDigits (TL.tl _)
          rw [hc]
          exact dz
        · show TL.tl _ ≠ []
          rw [hc]
          intro e
          rw [TL.len_tl, e] at l64
          exact absurd l64 (by decide)
        · rw [TL.len_tl, hc, ← TL.len_tl]
          omega
      · rw [TL.len_tl, hc, ← TL.len_tl]
        omega
  subst e3
  obtain ⟨L, vs, rfl, hL, hv⟩ := Df.lst_inv hd3
  obtain ⟨v, _, rfl, h1, h2⟩ := DfAll.c hv
  obtain rfl := DfAll.n h2
  cases h1
  refine ev_setN (K := K) 0 (· = .int 10000000000000000000000000000000000000000000000000000000000000000) (ev_int rfl) (Nat.zero_le _) fun H4 v4 d4 s4 hd4 e4 => ?_
  subst e4
  cases hd4
  have hL4 := Same.seq s4 hL
  refine ⟨fun m σ' H' => σ' = [some (.str x), some (.str z), some (.ref L), some (.int 10000000000000000000000000000000000000000000000000000000000000000), none] ∧ H' = H4, ⟨0, rfl, rfl⟩, fun m σ' H' ⟨e1, e2⟩ => ?_⟩
  subst e1 e2
  refine ⟨.ref L, rfl, L, _, rfl, .inl hL4, 1, 1, rfl, rfl, _, rfl, iteF ?_⟩
  rw [vz, ← ivalW0 hx] at hL4
  exact ⟨.ref L, rfl, L, _, 0, .int (ivalW x), rfl, rfl, hL4, rfl, q H' (s1.trans (s2.trans (s3.trans s4)))⟩
end

section
variable {P : Program} {w : World} {K : PySem.W.Frag} {mg : Str → Option Value} {base : Heap}
def spIntN : Sp := fun vs H Q E => spInt vs H Q E ∧ ∀ x, vs = [.str x] → (TL.tl x).head? = some 45
theorem ok_read_integerN (T : Top K mg) : FnOk P w K mg base CX0 2 T.a_read_integer T.d_read_integer ["word"] spIntN := by
  have G_read_integer : FnOk P w K mg base CX0 1 T.a_read_integer T.d_read_integer ["word"] spInt0 := ok_read_integer0 T
  refine T.F_read_integer.ok sc_read_integer (fun vs H Q E h => spInt_len vs H Q E h.1) (fun cdv A outer s H vs Q E hr h => ?_)
  obtain ⟨⟨x, rfl, few, hi, q⟩, hx⟩ := h
  have hx := hx x rfl
  have hr1 : Room 1 _ := hr
  refine ⟨_, (pss_cons (ps_if (pt_val (pe_m1 PySem.F.slot_str_startswith PySem.F.type_str_startswith mt_startswith (pv 0) pe_str)) (pss_one (ps_ret (pe_un un_neg (pe_call G_read_integer hr1 (by rfl) T.m_read_integer T.F_read_integer.kp T.b_read_integer .nil pass0 (pa_cons (pe_m1 PySem.F.slot_str_removeprefix PySem.F.type_str_removeprefix mt_removeprefix (pv 0) pe_str) pa_nil))))) pss_nil) pss_never), ?_⟩
  refine if_b (b := true) ?_ (fun _ H1 s1 => ?_) (fun z => nomatch z)
  · have e := evb_test (K := K) (σ := start ["word", "digits", "pieces", "end", "at"] [.str x]) (H0 := H) (ev_starts (m1 := 0) (m2 := 0) (x := x) (y := mns) (ev_var (i := 0) rfl (.str x) rfl) (ev_str rfl)) (Nat.zero_le _)
    rw [starts_mns, decide_eq_true hx] at e
    exact e
  have ty := remove_one x
  have ly : (Txt.removeprefix x mns).length ≤ 64 := by
    rw [TL.len_tl, ty]
    have := TL.len_tl x
    unfold stripm
    split
    · rename_i r e
      rw [e, List.length_cons] at this
      omega
    · omega
  obtain ⟨y, ey⟩ : ∃ y, Txt.removeprefix x mns = y := ⟨_, rfl⟩
  rw [ey] at ty ly
  obtain ⟨r, er⟩ : ∃ r, TL.tl x = 45 :: r := by
    cases e : TL.tl x with
    | nil => rw [e] at hx; cases hx
    | cons c r => rw [e] at hx; cases hx; exact ⟨r, rfl⟩
  rw [er] at ty
  have ty : TL.tl y = r := ty
  unfold intW intL at hi
  rw [er] at hi
  obtain ⟨h1, h2⟩ := Bool.and_eq_true_iff.mp (show (!r.isEmpty && (digL r && (decide (45 :: r = [48]) || !decide (r.head? = some 48)))) = true from hi)
  obtain ⟨h2, h3⟩ := Bool.and_eq_true_iff.mp h2
  rw [decide_eq_false (by simp), Bool.false_or] at h3
  have hy : (TL.tl y).head? ≠ some 45 := by
    rw [ty]
    cases r with
    | nil => exact fun z => nomatch z
    | cons c r =>
      intro z
      cases z
      exact nomatch h2
  have iy : intW y = true := by
    unfold intW intL
    rw [stripm_of fun r' e => hy (by rw [e]; rfl), ty, h1, h2, h3, Bool.or_true]
    rfl
  have vy : ivalW x = -ivalW y := by
    rw [ivalW0 hy, ty]
    unfold ivalW
    rw [er]
    rfl
  rw [vy] at q
  subst ey
  exact ⟨.str x, rfl, ⟨x, rfl⟩, x, mns, rfl, rfl, Nat.le_trans (by omega : x.length ≤ 1000000) line20, ⟨⟨_, rfl, ly, iy, fun H2 s2 => ⟨_, rfl, q H2 (s1.trans s2)⟩⟩, fun x' e => by cases e; exact hy⟩⟩
theorem ok_read_integer (T : Top K mg) : FnOk P w K mg base CX0 2 T.a_read_integer T.d_read_integer ["word"] spInt :=
  (FnOk.or ((ok_read_integer0 T).mono (by decide)) (ok_read_integerN T)).imp fun vs H Q E h => by
    obtain ⟨x, rfl, few, hi, q⟩ := id h
    by_cases hx : (TL.tl x).head? = some 45
    · exact .inr ⟨h, fun x' e => by cases e; exact hx⟩
    · exact .inl ⟨h, fun x' e => by cases e; exact hx⟩
theorem ok_is_day_word (T : Top K mg) : FnOk P w K mg base CX0 3 T.a_is_day_word T.d_is_day_word ["word"] (spW dayW) := by
  obtain ⟨t6, m6⟩ := T.v_MOST_DAYS
  have G_is_integer_word : FnOk P w K mg base CX0 1 T.a_is_integer_word T.d_is_integer_word ["word"] (spW intW) := ok_is_integer_word T
  have G_read_integer : FnOk P w K mg base CX0 2 T.a_read_integer T.d_read_integer ["word"] spInt := ok_read_integer T
  refine T.F_is_day_word.ok sc_is_day_word spW_len (fun cdv A outer s H vs Q E hr h => ?_)
  obtain ⟨x, rfl, few, ht, q⟩ := h
  have hr1 : Room 1 _ := hr.mono (by decide)
  refine ⟨_, (pss_one (ps_ret (pe_and (pe_call G_is_integer_word hr1 (by rfl) T.m_is_integer_word T.F_is_integer_word.kp T.b_is_integer_word .nil pass0 (pa_cons (pv 0) pa_nil)) (pe_one (pe_chain op_le op_le pe_int (pe_call G_read_integer hr (by rfl) T.m_read_integer T.F_read_integer.kp T.b_read_integer .nil pass0 (pa_cons (pv 0) pa_nil)) (pe_gc (v := .int 60) (by rfl) (let ⟨t, h⟩ := T.v_MOST_DAYS; ⟨_, h, ⟨t, rfl⟩⟩))))))), ?_⟩
  have e := dayW_eq x
  refine ⟨.str x, rfl, x, rfl, few, ht, fun H1 s1 => ⟨_, rfl, ite2 (fun h1 => ?_) (fun h1 => ?_)⟩⟩
  · rw [h1, Bool.true_and] at e
    refine ⟨.str x, rfl, x, rfl, few, h1, fun H2 s2 => ⟨1, ivalW x, rfl, rfl, _, rfl, ite2 (fun h2 => ⟨ivalW x, 60, rfl, rfl, ?_⟩) (fun h2 => ?_)⟩⟩
    · have h3 : 1 ≤ ivalW x := of_decide_eq_true h2
      have e2 : dayW x = decide (ivalW x ≤ 60) := by
        rw [← e, decide_eq_decide]
        omega
      rw [e2] at q
      exact q H2 (s1.trans s2)
    · have h3 : ¬ 1 ≤ ivalW x := fun z => h2 (decide_eq_true z)
      rw [← e, decide_eq_false (by omega)] at q
      exact q H2 (s1.trans s2)
  · rw [Bool.eq_false_iff.mpr h1, Bool.false_and] at e
    rw [← e] at q
    exact q H1 s1
theorem tidy_parts {w : Str} (h : tidy w = true) : tidy (Txt.partition w col).1 = true ∧ tidy (Txt.partition w col).2.2 = true ∧ (Txt.partition w col).1.length ≤ w.length ∧ (Txt.partition w col).2.2.length ≤ w.length := by
  rcases part_cases w with ⟨_, e⟩ | ⟨a, b, ew, ha, e⟩
  · rw [e]
    exact ⟨h, (by decide +kernel : tidy Str.empty = true), Nat.le_refl _, Nat.zero_le _⟩
  · rw [e]
    have l1 : w.length = a.length + col.length + b.length := by rw [ew, Str.length_append, Str.length_append]
    rw [tidy_iff] at h
    have hm : ∀ c, c ∈ TL.tl a ∨ c ∈ TL.tl b → c ∈ TL.tl w := fun c hc => by
      rw [ew, TL.tl_append, TL.tl_append]
      rcases hc with hc | hc
      · exact List.mem_append_left _ (List.mem_append_left _ hc)
      · exact List.mem_append_right _ hc
    exact ⟨tidy_iff.mpr fun c hc => h c (hm c (.inl hc)), tidy_iff.mpr fun c hc => h c (hm c (.inr hc)), by show a.length ≤ _; omega, by show b.length ≤ _; omega⟩
theorem good_str {x : Str} (h : tidy x = true) (few : x.length ≤ 2000) : Good 900000 50 (.str x) := ⟨h, by show 10 * x.length + 4 ≤ _; omega, Nat.zero_le _⟩
theorem ok_is_month_word (T : Top K mg) : FnOk P w K mg base CX0 4 T.a_is_month_word T.d_is_month_word ["word"] (spW monW) := by
  have G_is_name : FnOk P w K mg base CX0 1 T.a_is_name T.d_is_name ["thing"] (spB K isName) := ok_is_name T
  have G_is_day_word : FnOk P w K mg base CX0 3 T.a_is_day_word T.d_is_day_word ["word"] (spW dayW) := ok_is_day_word T
  refine T.F_is_month_word.ok sc_is_month_word spW_len (fun cdv A outer s H vs Q E hr h => ?_)
  obtain ⟨x, rfl, few, ht, q⟩ := h
  have hr1 : Room 1 _ := hr.mono (by decide)
  refine ⟨_, (pss_cons (ps_asg (pe_partition (pv 0) pe_str) (pg_tup rfl (pgs_cons (pg_name (i := 1) sc_is_month_word.nd rfl (.inl rfl)) (pgs_cons (pg_name (i := 2) sc_is_month_word.nd rfl (.inl rfl)) (pgs_cons (pg_name (i := 3) sc_is_month_word.nd rfl (.inl rfl)) pgs_nil))))) (pss_one (ps_ret (pe_and (pe_call G_is_name hr1 (by rfl) T.m_is_name T.F_is_name.kp T.b_is_name .nil pass0 (pa_cons (pv 1) pa_nil)) (pe_one (pe_call G_is_day_word hr (by rfl) T.m_is_day_word T.F_is_day_word.kp T.b_is_day_word .nil pass0 (pa_cons (pv 3) pa_nil))))))), ?_⟩
  obtain ⟨t1, t2, l1, l2⟩ := tidy_parts ht
  refine ⟨.str x, rfl, ⟨x, rfl⟩, x, col, rfl, rfl, by decide +kernel, Nat.le_trans (by omega : x.length ≤ 1000000) line20, fun p np => ?_⟩
  have hT : SqT K (upd H p (.tup [.str (Txt.partition x col).1, .str (Txt.partition x col).2.1, .str (Txt.partition x col).2.2])) p [.str (Txt.partition x col).1, .str (Txt.partition x col).2.1, .str (Txt.partition x col).2.2] := SqT.of upd_same
  have sp : Same H (upd H p (.tup [.str (Txt.partition x col).1, .str (Txt.partition x col).2.1, .str (Txt.partition x col).2.2])) := same_new np
  generalize upd H p (.tup [.str (Txt.partition x col).1, .str (Txt.partition x col).2.1, .str (Txt.partition x col).2.2]) = H1 at hT sp ⊢
  have q' : ∀ H', Same H H' → Q (.bl (nameStr (Txt.partition x col).1 && dayW (Txt.partition x col).2.2)) H' := q
  generalize Txt.partition x col = z at *
  refine ⟨p, _, rfl, hT, rfl, .str z.1, [.str z.2.1, .str z.2.2], rfl, .str z.2.1, [.str z.2.2], rfl, .str z.2.2, [], rfl, rfl, ?_⟩
  refine ⟨.str z.1, rfl, .str z.1, .str z.1, rfl, .str z.1, good_str t1 (by omega), fun H2 s2 => ⟨_, rfl, ite2 (fun h1 => ?_) (fun h1 => ?_)⟩⟩
  · have h1 : nameStr z.1 = true := h1
    rw [h1, Bool.true_and] at q'
    exact ⟨.str z.2.2, rfl, z.2.2, rfl, by omega, t2, fun H3 s3 => q' H3 (sp.trans (s2.trans s3))⟩
  · have h1 : nameStr z.1 = false := Bool.eq_false_iff.mpr h1
    rw [h1, Bool.false_and] at q'
    exact q' H2 (sp.trans s2)
end

section
variable {P : Program} {w : World} {K : PySem.W.Frag} {mg : Str → Option Value} {base : Heap}
/-! #### the words of a text; the words of a rule -/
theorem wordsL_len (x : Str) : (wordsL x).length ≤ x.length + 2 := by
  unfold wordsL
  split
  · exact Nat.zero_le _
  · exact split_le x spc
def spWordsOf (K : PySem.W.Frag) (CT : Addr) : Sp := fun vs H Q E => ∃ v d, vs = [v] ∧ Df K H v d ∧ Good 900000 50 d ∧
  (∀ x, d = .str x → ∀ H' v', Same H H' → Df K H' v' (.list ((wordsL x).map PyData.str)) → Q v' H') ∧
  (isKstr d = false → ∀ H' dd, Same H H' → H' dd = none → E (.ref CT) (some dd) (upd H' dd (.xd [("place", .int (-1))])))
theorem ok_words_of (T : Top K mg) : FnOk P w K mg base (L2.CX P w) 3 T.a_words_of T.d_words_of ["text"] (spWordsOf K T.C_NoText) := by
  refine T.F_words_of.okX sc_words_of (fun vs H Q E h => by obtain ⟨_, _, rfl, _⟩ := h; rfl) (fun cdv A outer s H vs Q E hr h => ?_)
  obtain ⟨v, d, rfl, hd, g, q, qE⟩ := h
  have hr2 : Room 2 _ := hr
  refine ⟨_, (pss_cons (ps_if (pt_not (pt_val (pe_callB call_isiD (by rfl) T.n_isinstance (by decide +kernel) (pa_cons (pv 0) (pa_cons (pe_bltn (v := .ty "str") (by rfl) T.n_str (by decide +kernel) rfl) pa_nil))))) (pss_one (ps_raise rfl (takes_of rfl rfl rfl rfl) (pmk_oex T.X_NoText.o T.X_NoText.iC T.X_NoText.tI (ok_init_NoText T) hr2 T.X_NoText.b .nil pass0 (by rfl) T.X_NoText.g (pa_cons (pe_un un_neg pe_int) pa_nil)))) pss_nil) (pss_one (ps_ret (pe_ifExp (pt_cmpR op_ne (pv 0) pe_str (by rfl)) (pe_split (pv 0) pe_str) (pe_lst pa_nil))))), ?_⟩
  refine ⟨v, rfl, v, d, "str", _, rfl, hd, kit_str d g.fin, _, rfl, ite2 (fun z => ?_) (fun z => ?_)⟩
  · have z : isKstr d = false := by cases h : isKstr d <;> rw [h] at z <;> first | rfl | exact nomatch z
    exact mkO_goE (v := .int (-1)) (fun Q k => ⟨1, rfl, k H (Same.refl H)⟩) fun H1 dd s1 hdd => qE z H1 dd s1 hdd
  · have z : isKstr d = true := by cases h : isKstr d <;> rw [h] at z <;> first | rfl | exact absurd rfl z
    obtain ⟨x, rfl⟩ : ∃ x, d = .str x := by
      cases d <;> first | exact ⟨_, rfl⟩ | exact nomatch z
    cases hd
    have few : 10 * x.length + 4 ≤ 900000 := g.wt
    have q := q x rfl
    dsimp only [tNext]
    refine ⟨.str x, rfl, rfl, _, rfl, ?_⟩
    by_cases hx : x = ""
    · rw [eqS_lit, decide_eq_true hx]
      refine iteF ⟨Nat.zero_le _, fun p np => q _ _ (same_new np) ?_⟩
      have e : wordsL x = [] := if_pos hx
      rw [e]
      exact .lst (.inl (.inl upd_same)) .nil
    · rw [eqS_lit, decide_eq_false hx]
      refine iteT ⟨.str x, rfl, ⟨x, rfl⟩, x, spc, rfl, rfl, by decide +kernel, Nat.le_trans (by omega : x.length + 2 ≤ 1000000) line20, fun p np => q _ _ (same_new np) ?_⟩
      have e : wordsL x = Txt.split x spc := if_neg hx
      rw [e]
      exact .lst (.inl (.inl upd_same)) dp_ofStrs
/-- words as the readers have them -/
def Words (ws : List Str) : Prop := ws.length ≤ 1000 ∧ ∀ w ∈ ws, w.length ≤ 64 ∧ tidy w = true
def spCheck (K : PySem.W.Frag) (CT : Addr) : Sp := fun vs H Q E => ∃ (v : V) (ws : List Str) (at' : Nat), vs = [v, .int (at' : Nat)] ∧ Df K H v (.list (ws.map PyData.str)) ∧ Words ws ∧ at' ≤ ws.length ∧
  (placeL true at' (ws.drop at') = none → ∀ H', Same H H' → Q .non H') ∧
  (∀ k, placeL true at' (ws.drop at') = some k → ∀ H' dd, Same H H' → H' dd = none → E (.ref CT) (some dd) (upd H' dd (.xd [("place", .int (k : Nat))])))
theorem atI_strs {ws : List Str} {i : Nat} {x : Str} (h : ws[i]? = some x) : atI (ws.map PyData.str) (i : Int) = some (.str x) := atI_nat (by rw [List.getElem?_map, h]; rfl)
theorem ok_check_rule_words (T : Top K mg) : FnOk P w K mg base (L2.CX P w) 5 T.a_check_rule_words T.d_check_rule_words ["words", "at"] (spCheck K T.C_NoText) := by
  have G_is_month_word : FnOk P w K mg base CX0 4 T.a_is_month_word T.d_is_month_word ["word"] (spW monW) := ok_is_month_word T
  refine T.F_check_rule_words.okX sc_check_rule_words (fun vs H Q E h => by obtain ⟨_, _, _, rfl, _⟩ := h; rfl) (fun cdv A outer s H vs Q E hr h => ?_)
  obtain ⟨v, ws, at', rfl, hd, ⟨few, hws⟩, hat, q, qE⟩ := h
  have hr2 : Room 2 _ := hr.mono (by decide)
  refine ⟨_, (pss_cons (ps_set (i := 2) sc_check_rule_words.nd rfl (.inl rfl) pe_bl) (pss_cons (ps_for PassesOwn.leaving rfl (pi_range2 rfl T.n_range (pa_cons (pv 1) (pa_cons (pe_callB call_len_seq (by rfl) T.n_len PySem.boot_len (pa_cons (pv 0) pa_nil)) pa_nil))) (pg_name (i := 3) sc_check_rule_words.nd rfl (.inl rfl)) (pss_one (ps_if (PW.pt (pw_and (pt_cmpR op_eq (pe_ix ix_list (pv 0) (pv 3) (fun _ _ => rfl)) pe_str (by rfl)) (pw_and1 (pt_not (pt_val (pv 2)))))) (pss_one (ps_set (i := 2) sc_check_rule_words.nd rfl (.inl rfl) pe_bl)) (pss_one (ps_if (pt_val (pe_call G_is_month_word hr (by rfl) T.m_is_month_word T.F_is_month_word.kp T.b_is_month_word .nil pass0 (pa_cons (pe_ix ix_list (pv 0) (pv 3) (fun _ _ => rfl)) pa_nil))) (pss_one (ps_set (i := 2) sc_check_rule_words.nd rfl (.inl rfl) pe_bl)) (pss_one (ps_raise rfl (takes_of rfl rfl rfl rfl) (pmk_oex T.X_NoText.o T.X_NoText.iC T.X_NoText.tI (ok_init_NoText T) hr2 T.X_NoText.b .nil pass0 (by rfl) T.X_NoText.g (pa_cons (pv 3) pa_nil))))))))) (pss_one (ps_if (pt_val (pv 2)) (pss_one (ps_raise rfl (takes_of rfl rfl rfl rfl) (pmk_oex T.X_NoText.o T.X_NoText.iC T.X_NoText.tI (ok_init_NoText T) hr2 T.X_NoText.b .nil pass0 (by rfl) T.X_NoText.g (pa_cons (pe_callB call_len_seq (by rfl) T.n_len PySem.boot_len (pa_cons (pv 0) pa_nil)) pa_nil)))) pss_nil)))), ?_⟩
  refine ev_setN (K := K) 0 (· = .bool true) (ev_bl rfl) (Nat.zero_le _) fun H1 v1 d1 s1 hd1 e1 => ?_
  subst e1
  cases hd1
  have hN : (at' : Int) + ((ws.length - at' : Nat) : Int) = (ws.length : Int) := by omega
  refine ev_forR2 (K := K) (S := noS) (a := none) (m := 0) (n := 0) (at' : Int) (ws.length - at') rn_no (by decide) ?_ (by omega) (by omega) (by omega) fun H2 k2 r2 => ?_
  · rw [hN]
    refine eva_c (ev_var (i := 1) rfl (.int _) rfl) (eva_c ?_ eva_n)
    have e := ev_lenX (K := K) (S := noS) (a := none) (m := 0) (σ := [some v, some (.int (at' : Nat)), some (.bl true), none]) (H0 := H1) (es := ws.map PyData.str) (eva_c (ev_var (i := 0) rfl (dp_no (Df.to hd s1)) rfl) eva_n)
    rw [List.length_map] at e
    exact e
  have s2 := keeps_no k2
  refine ⟨fun j σ' H' => ∃ o x3, σ' = [some v, some (.int (at' : Nat)), some (.bl o), x3] ∧ Same H H' ∧ placeL true at' (ws.drop at') = placeL o (at' + j) (ws.drop (at' + j)), ⟨true, _, rfl, s1.trans s2, rfl⟩, ?_, ?_⟩
  · rintro j σ' H' hj ⟨o, x3, rfl, s3, ep⟩
    dsimp only [List.set]
    have hlt : at' + j < ws.length := by omega
    obtain ⟨x, hx⟩ : ∃ x, ws[at' + j]? = some x := ⟨_, List.getElem?_eq_getElem hlt⟩
    have edrop : ws.drop (at' + j) = x :: ws.drop (at' + j + 1) := by
      rw [List.drop_eq_getElem_cons hlt]
      rw [List.getElem?_eq_getElem hlt] at hx
      rw [Option.some.inj hx]
    obtain ⟨fx, tx⟩ := hws x (List.mem_of_getElem? hx)
    have hd3 : Df K H' v (.list (ws.map PyData.str)) := Df.to hd s3
    have ix : ∀ (S : Addr → Bool) (a : Option Addr) (G : Hp), Df K (hid S G) v (.list (ws.map PyData.str)) → Ev K S a [some v, some (.int (at' : Nat)), some (.bl o), some (.int ((at' : Int) + (j : Nat)))] G (tOp (rIxL K) (tVar 0) (tVar 3)) 0 (· = .str x) := fun S a G h =>
      ev_ixLX (m1 := 0) (m2 := 0) (ev_var (i := 0) rfl h rfl) (ev_var (i := 3) rfl (.int _) rfl) (by rw [show ((at' : Int) + (j : Nat)) = ((at' + j : Nat) : Int) by omega]; exact atI_strs hx)
    rw [edrop] at ep
    have ep' : placeL true at' (ws.drop at') = if x = sla ∧ o = false then placeL true (at' + (j + 1)) (ws.drop (at' + (j + 1))) else if monW x = true then placeL false (at' + (j + 1)) (ws.drop (at' + (j + 1))) else some (at' + j) := ep
    refine if_b (b := decide (x = sla) && !o) ?_ (fun hb H4 s4 => ?_) (fun hb H4 s4 => ?_)
    · refine evb_and (evb_val (K := K) (m := 0) (ev_eqS (m1 := 0) (m2 := 0) (ix _ _ _ (dp_no hd3)) (ev_str rfl) rfl) (Nat.zero_le _)) fun _ => evb_not (evb_test (K := K) (m := 0) (ev_var (i := 2) rfl (.bl o) rfl) (Nat.zero_le _))
    · obtain ⟨b1, b2⟩ := Bool.and_eq_true_iff.mp hb
      have b1 := of_decide_eq_true b1
      have b2 : o = false := by cases o <;> first | rfl | exact nomatch b2
      rw [if_pos ⟨b1, b2⟩] at ep'
      exact ⟨true, _, rfl, s3.trans s4, ep'⟩
    · have nb : ¬ (x = sla ∧ o = false) := fun z => by
        rw [decide_eq_true z.1, z.2] at hb
        exact nomatch hb
      rw [if_neg nb] at ep'
      have hd4 := Df.to hd3 s4
      refine if_b (b := monW x) (evb_test (K := K) (m := 0) (ev_callW (eva_c (ix _ _ _ (dp_no hd4)) eva_n) fx tx) (Nat.zero_le _)) (fun hm H5 s5 => ?_) (fun hm H5 s5 => ?_)
      · rw [if_pos hm] at ep'
        exact ⟨false, _, rfl, s3.trans (s4.trans s5), ep'⟩
      · rw [if_neg (by rw [hm]; exact Bool.false_ne_true)] at ep'
        refine mkO_go (i := 3) rfl fun dd hdd => ?_
        have := qE _ ep' H5 dd (s3.trans (s4.trans s5)) hdd
        rw [show ((at' + j : Nat) : Int) = (at' : Int) + (j : Nat) by omega] at this
        exact this
  · rintro σ' H' ⟨o, x3, rfl, s3, ep⟩
    dsimp only
    rw [show at' + (ws.length - at') = ws.length by omega, List.drop_length] at ep
    have ep : placeL true at' (ws.drop at') = if o = true then some ws.length else none := ep
    refine if_b (b := o) (evb_test (K := K) (m := 0) (ev_var (i := 2) rfl (.bl o) rfl) (Nat.zero_le _)) (fun ho H5 s5 => ?_) (fun ho H5 s5 => ?_)
    · rw [if_pos ho] at ep
      refine mkO_goE (v := .int (ws.length : Nat)) (fun Q k => ev_no (K := K) 0 (· = .int (ws.length : Nat)) ?_ (Nat.zero_le _) fun H6 v6 d6 s6 hd6 e6 => by subst e6; cases hd6; exact k H6 s6) fun H6 dd s6 hdd => qE _ ep H6 dd (s3.trans (s5.trans s6)) hdd
      have e := ev_lenX (K := K) (S := noS) (a := none) (m := 0) (σ := [some v, some (.int (at' : Nat)), some (.bl o), x3]) (H0 := H5) (es := ws.map PyData.str) (eva_c (ev_var (i := 0) rfl (dp_no (Df.to hd (s3.trans s5))) rfl) eva_n)
      rw [List.length_map] at e
      exact e
    · rw [if_neg (by rw [ho]; exact Bool.false_ne_true)] at ep
      exact q ep H5 (s3.trans s5)
end

section
variable {P : Program} {w : World} {K : PySem.W.Frag} {mg : Str → Option Value} {base : Heap}
/-! #### the rule that words make -/
def stp (s : List (List Str) × List Str) (w : Str) : List (List Str) × List Str := if w = sla then (s.1 ++ [s.2], []) else (s.1, s.2 ++ [w])
theorem grp_fold : ∀ (us : List Str) (s : List (List Str) × List Str), (us.foldl stp s).1 ++ [(us.foldl stp s).2] = s.1 ++ (match grp us with | f :: r => (s.2 ++ f) :: r | [] => [s.2])
  | [], s => by
    show s.1 ++ [s.2] = s.1 ++ [s.2 ++ []]
    rw [List.append_nil]
  | u :: us, s => by
    have ih := grp_fold us (stp s u)
    obtain ⟨f, r, e⟩ : ∃ f r, grp us = f :: r := by
      cases e : grp us with
      | nil => exact absurd e (grp_ne us)
      | cons f r => exact ⟨f, r, rfl⟩
    rw [e] at ih
    rw [List.foldl_cons, ih]
    by_cases hu : u = sla
    · have e2 : grp (u :: us) = [] :: f :: r := by rw [grp, if_pos hu, e]
      rw [e2]
      unfold stp
      rw [if_pos hu]
      simp
    · have e2 : grp (u :: us) = (u :: f) :: r := by rw [grp, if_neg hu, e]
      rw [e2]
      unfold stp
      rw [if_neg hu]
      simp
theorem grp_of (us : List Str) : grp us = (us.foldl stp ([], [])).1 ++ [(us.foldl stp ([], [])).2] := by
  rw [grp_fold]
  cases e : grp us with
  | nil => exact absurd e (grp_ne us)
  | cons f r => rfl
theorem stp_len : ∀ (us : List Str) (s : List (List Str) × List Str), (us.foldl stp s).1.length ≤ s.1.length + us.length ∧ (us.foldl stp s).2.length ≤ s.2.length + us.length
  | [], s => ⟨Nat.le_refl _, Nat.le_refl _⟩
  | u :: us, s => by
    obtain ⟨h1, h2⟩ := stp_len us (stp s u)
    rw [List.foldl_cons, List.length_cons]
    have : (stp s u).1.length ≤ s.1.length + 1 ∧ (stp s u).2.length ≤ s.2.length + 1 := by
      unfold stp
      split
      · exact ⟨by rw [List.length_append]; exact Nat.le_refl _, Nat.zero_le _⟩
      · exact ⟨Nat.le_succ _, by show (s.2 ++ [u]).length ≤ _; rw [List.length_append]; exact Nat.le_refl _⟩
    omega
def MonV (H : Hp) (v : V) (w : Str) : Prop := ∃ p o, v = .ref p ∧ o.dict = none ∧ H p = some (.frz o (.tup [.str (Txt.partition w col).1, .int (natW (Txt.partition w col).2.2 : Nat)]))
def Row (H : Hp) (A : Addr) (g : List Str) : Prop := ∃ vs : List V, H A = some (.lst vs) ∧ vs.length = g.length ∧ ∀ (i : Nat) (v : V) (w : Str), vs[i]? = some v → g[i]? = some w → MonV H v w
def Rows (H : Hp) (As : List Addr) (gs : List (List Str)) : Prop := As.length = gs.length ∧ ∀ (i : Nat) (A : Addr) (g : List Str), As[i]? = some A → gs[i]? = some g → Row H A g
theorem MonV.other {H : Hp} {v : V} {w : Str} (h : MonV H v w) {A : Addr} {xs ys : List V} (e : H A = some (.lst xs)) : MonV (upd H A (.lst ys)) v w := by
  obtain ⟨p, o, e1, e2, e3⟩ := h
  refine ⟨p, o, e1, e2, ?_⟩
  rw [upd_ne (fun z => by rw [z, e] at e3; cases e3)]
  exact e3
theorem MonV.same {H H' : Hp} {v : V} {w : Str} (h : MonV H v w) (s : Same H H') : MonV H' v w := by
  obtain ⟨p, o, e1, e2, e3⟩ := h
  exact ⟨p, o, e1, e2, s _ _ e3⟩
theorem Row.same {H H' : Hp} {A : Addr} {g : List Str} (h : Row H A g) (s : Same H H') : Row H' A g := by
  obtain ⟨vs, e, l, h⟩ := h
  exact ⟨vs, s _ _ e, l, fun i v w a b => (h i v w a b).same s⟩
theorem Row.other {H : Hp} {A B : Addr} {g : List Str} {xs ys : List V} (h : Row H A g) (n : A ≠ B) (e : H B = some (.lst xs)) : Row (upd H B (.lst ys)) A g := by
  obtain ⟨vs, e2, l, h⟩ := h
  exact ⟨vs, by rw [upd_ne n]; exact e2, l, fun i v w a b => (h i v w a b).other e⟩
theorem Row.more {H : Hp} {A : Addr} {g : List Str} {xs : List V} {v : V} {w : Str} (h : Row H A g) (e : H A = some (.lst xs)) (hv : MonV H v w) : Row (upd H A (.lst (xs ++ [v]))) A (g ++ [w]) := by
  obtain ⟨vs, e2, l, h⟩ := h
  rw [e] at e2
  cases e2
  refine ⟨_, upd_same, by rw [List.length_append, List.length_append, l]; rfl, fun i u z a b => ?_⟩
  by_cases hi : i < xs.length
  · rw [List.getElem?_append_left hi] at a
    rw [List.getElem?_append_left (by omega)] at b
    exact (h i u z a b).other e
  · rw [List.getElem?_append_right (by omega)] at a
    rw [List.getElem?_append_right (by omega)] at b
    have i0 : i - xs.length = 0 := by
      cases hz : i - xs.length with
      | zero => rfl
      | succ k => rw [hz] at a; simp at a
    have i1 : i - g.length = 0 := by omega
    rw [i0] at a
    rw [i1] at b
    cases a
    cases b
    exact hv.other e
theorem Rows.snoc {H : Hp} {As : List Addr} {gs : List (List Str)} {A : Addr} {g : List Str} (h : Rows H As gs) (r : Row H A g) : Rows H (As ++ [A]) (gs ++ [g]) := by
  refine ⟨by rw [List.length_append, List.length_append, h.1]; rfl, fun i B f a b => ?_⟩
  have l := h.1
  by_cases hi : i < As.length
  · rw [List.getElem?_append_left hi] at a
    rw [List.getElem?_append_left (by omega)] at b
    exact h.2 i B f a b
  · rw [List.getElem?_append_right (by omega)] at a
    rw [List.getElem?_append_right (by omega)] at b
    have i0 : i - As.length = 0 := by
      cases hz : i - As.length with
      | zero => rfl
      | succ k => rw [hz] at a; simp at a
    have i1 : i - gs.length = 0 := by omega
    rw [i0] at a
    rw [i1] at b
    cases a
    cases b
    exact r
theorem mon_dp {K : PySem.W.Frag} {H : Hp} : ∀ {vs : List V} {g : List Str}, vs.length = g.length → (∀ (i : Nat) (v : V) (w : Str), vs[i]? = some v → g[i]? = some w → MonV H v w) → DfAll K H vs (g.map monD)
  | [], [], _, _ => .nil
  | v :: vs, w :: g, l, h => by
    obtain ⟨p, o, rfl, ho, e⟩ := h 0 v w rfl rfl
    exact .cons (.tup ⟨o, ho, .inl e⟩ (.cons (.str _) (.cons (.int _) .nil))) (mon_dp (Nat.succ.inj l) fun i v' w' a b => h (i + 1) v' w' a b)
theorem rows_dp {K : PySem.W.Frag} {H : Hp} : ∀ {As : List Addr} {gs : List (List Str)}, Rows H As gs → DfAll K H (As.map V.ref) (gs.map fun g => .list (g.map monD))
  | [], [], _ => .nil
  | A :: As, g :: gs, ⟨l, h⟩ => by
    obtain ⟨vs, e, lv, hm⟩ := h 0 A g rfl rfl
    exact .cons (.lst (.inl (.inl e)) (mon_dp lv hm)) (rows_dp ⟨Nat.succ.inj l, fun i B f a b => h (i + 1) B f a b⟩)
def spMake (K : PySem.W.Frag) : Sp := fun vs H Q _ => ∃ (v : V) (ws : List Str), vs = [v] ∧ Df K H v (.list (ws.map PyData.str)) ∧ Words ws ∧ (∀ w ∈ ws, w = sla ∨ monW w = true) ∧ ∀ H' u, Same H H' → Df K H' u (ruleD ws) → Q u H'
theorem atI_end {As : List Addr} {A : Addr} : atI ((As ++ [A]).map V.ref) (-1) = some (.ref A) := by
  rw [List.map_append]
  exact atI_last _ _
set_option maxHeartbeats 4000000 in
theorem ok_make_rule (T : Top K mg) : FnOk P w K mg base CX0 1 T.a_make_rule T.d_make_rule ["words"] (spMake K) := by
  refine T.F_make_rule.ok sc_make_rule (fun vs H Q E h => by obtain ⟨_, _, rfl, _⟩ := h; rfl) (fun cdv A0 outer s H vs Q E hr h => ?_)
  obtain ⟨v, ws, rfl, hd, ⟨few, hws⟩, hm, q⟩ := h
  obtain ⟨L, vs, rfl, hL, hv⟩ := Df.lst_inv hd
  obtain rfl := dp_strs hv
  refine ⟨_, (pss_cons (ps_set (i := 1) sc_make_rule.nd rfl (.inl rfl) (pe_lst (pa_cons (pe_lst pa_nil) pa_nil))) (pss_cons (ps_for PassesOwn.never rfl (pi_list (pv 0)) (pg_name (i := 2) sc_make_rule.nd rfl (.inl rfl)) (pss_one (ps_if (pt_cmpR op_eq (pv 2) pe_str (by rfl)) (pss_one (ps_expr (pe_bm PySem.F.plainAttrs_list PySem.F.slot_list_append PySem.F.type_list_append mt_append (pv 1) (pa_cons (pe_lst pa_nil) pa_nil)))) (pss_cons (ps_asg (pe_partition (pv 2) pe_str) (pg_tup rfl (pgs_cons (pg_name (i := 3) sc_make_rule.nd rfl (.inl rfl)) (pgs_cons (pg_name (i := 4) sc_make_rule.nd rfl (.inl rfl)) (pgs_cons (pg_name (i := 5) sc_make_rule.nd rfl (.inl rfl)) pgs_nil))))) (pss_one (ps_expr (pe_bm PySem.F.plainAttrs_list PySem.F.slot_list_append PySem.F.type_list_append mt_append (pe_ix ix_list (pv 1) (pe_un un_neg pe_int) (fun _ _ => rfl)) (pa_cons (pe_tupF (pa_cons (pv 3) (pa_cons (pe_callTy call_int_str (by rfl) T.n_int (by decide +kernel) (pa_cons (pv 5) pa_nil)) pa_nil))) pa_nil)))))))) (pss_one (ps_ret (pe_callTy (call_tupF (by rfl)) (by rfl) T.n_tuple (by decide +kernel) (pa_cons (pe_lc (own := [("months", 6)]) (g := gName 6) (tt := tYes) (by rfl) sc_make_rule.nd (pi_list (pv 1)) (blkOk_by (own := [("months", 6)]) (N := ["words", "years", "word", "name", "_", "days", "months"]) (sc := defScope s_make_rule) (by decide +kernel)) (fun _ _ _ _ _ => (pg_name (i := 6) sc_make_rule.nd rfl (.inl rfl))) (fun _ _ _ _ _ => pts_nil) (fun _ _ _ _ _ => (pe_callTy (call_tupF (by rfl)) (by rfl) T.n_tuple (by decide +kernel) (pa_cons (pv 6) pa_nil)))) pa_nil)))))), ?_⟩
  refine ⟨Nat.zero_le _, fun A nA => ⟨Nat.le_trans (show _ ≤ 1000000 by exact (by decide : 1 ≤ 1000000)) line20, fun Y nY => ?_⟩⟩
  dsimp only [gName]
  have AY : A ≠ Y := fun e => by rw [← e, upd_same] at nY; cases nY
  have nY0 : H Y = none := by rw [upd_ne AY.symm] at nY; exact nY
  have hY1 : (upd (upd H A (.lst [])) Y (.lst [.ref A])) Y = some (.lst [.ref A]) := upd_same
  have hA1 : (upd (upd H A (.lst [])) Y (.lst [.ref A])) A = some (.lst []) := by rw [upd_ne AY]; exact upd_same
  have s1 : Same H (upd (upd H A (.lst [])) Y (.lst [.ref A])) := (same_new nA).trans (same_new nY)
  generalize upd (upd H A (.lst [])) Y (.lst [.ref A]) = H1 at hY1 hA1 s1 ⊢
  refine ⟨.ref L, rfl, L, rfl, ⟨_, Same.seq s1 hL⟩, ?_⟩
  refine for_list (K := K) (a := L) (xs := ws.map V.str) (fun j σ' H' => ∃ As A x2 x3 x4 x5 x6, σ' = [some (.ref L), some (.ref Y), x2, x3, x4, x5, x6] ∧ H' Y = some (.lst ((As ++ [A]).map V.ref)) ∧ Rows H' As ((ws.take j).foldl stp ([], [])).1 ∧ Row H' A ((ws.take j).foldl stp ([], [])).2 ∧ (∀ B ∈ As, B ≠ A) ∧ (∀ B ∈ As ++ [A], B ≠ Y) ∧ Same H H' ∧ H A = none) ?_ ?_ ?_ ?_
  · exact ⟨[], A, _, _, _, _, _, rfl, hY1, ⟨rfl, fun i B f a b => nomatch b⟩, ⟨[], hA1, rfl, fun i v w a b => nomatch a⟩, fun B hB => absurd hB List.not_mem_nil, fun B hB => by rw [List.mem_singleton.mp hB]; exact AY, s1, nA⟩
  · rintro j σ' H' _ ⟨As, A, x2, x3, x4, x5, x6, rfl, _, _, _, _, _, s2, _⟩
    exact Same.seq s2 hL
  · rintro j x σ' H' hx ⟨As, A, x2, x3, x4, x5, x6, rfl, eY, hRs, hR, dA, dY, s2, nA2⟩
    obtain ⟨wd, hw, rfl⟩ : ∃ wd, ws[j]? = some wd ∧ x = .str wd := by
      rw [List.getElem?_map] at hx
      cases e : ws[j]? with
      | none => rw [e] at hx; cases hx
      | some z => rw [e] at hx; exact ⟨z, rfl, (Option.some.inj hx).symm⟩
    have hj : j < ws.length := by
      by_cases h : j < ws.length
      · exact h
      · rw [List.getElem?_eq_none (by omega)] at hw
        cases hw
    obtain ⟨l1, l2⟩ := stp_len (ws.take j) ([], [])
    have lt : (ws.take j).length ≤ 1000 := by rw [List.length_take]; omega
    have l1 : ((ws.take j).foldl stp ([], [])).1.length ≤ 1000 := by
      have : ((ws.take j).foldl stp ([], [])).1.length ≤ 0 + (ws.take j).length := l1
      omega
    have l2 : ((ws.take j).foldl stp ([], [])).2.length ≤ 1000 := by
      have : ((ws.take j).foldl stp ([], [])).2.length ≤ 0 + (ws.take j).length := l2
      omega
    have est : (ws.take (j + 1)).foldl stp ([], []) = stp ((ws.take j).foldl stp ([], [])) wd := by
      rw [List.take_add_one, hw, List.foldl_append]
      rfl
    rw [est]
    generalize (ws.take j).foldl stp ([], []) = st at hRs hR l1 l2 ⊢
    have lAs : As.length = st.1.length := hRs.1
    dsimp only [gName, List.set]
    obtain ⟨fx, tx⟩ := hws wd (List.mem_of_getElem? hw)
    refine if_b (b := decide (wd = sla)) (evb_val (K := K) (m := 0) (ev_eqS (m1 := 0) (m2 := 0) (ev_var (i := 2) rfl (.str wd) rfl) (ev_str rfl) rfl) (Nat.zero_le _)) (fun hb H2 s3 => ?_) (fun hb H2 s3 => ?_)
    · have eY2 := s3 _ _ eY
      refine ⟨.ref Y, rfl, .inl ⟨rfl, _, SqL.of eY2⟩, Nat.zero_le _, fun N nN => ⟨Y, (As ++ [A]).map V.ref, .ref N, rfl, rfl, ?_, Nat.lt_of_lt_of_le (by rw [List.length_map, List.length_append, lAs]; show st.1.length + 1 < 1000000; omega) line20, ?_⟩⟩
      · rw [upd_ne (ne_of_none eY2 nN)]
        exact eY2
      have YN : Y ≠ N := ne_of_none eY2 nN
      have e1 : stp st wd = (st.1 ++ [st.2], []) := if_pos (of_decide_eq_true hb)
      rw [e1]
      have s4 : Same H2 (upd H2 N (.lst [])) := same_new nN
      have eY4 := s4 _ _ eY2
      have hall : ∀ B ∈ As ++ [A], H2 B ≠ none := fun B hB => by
        rcases List.mem_append.mp hB with hB | hB
        · obtain ⟨i, hi, rfl⟩ := List.mem_iff_getElem.mp hB
          obtain ⟨vs, e, _⟩ := (hRs.2 i _ (st.1[i]'(by omega)) (List.getElem?_eq_getElem hi) (List.getElem?_eq_getElem _)).same s3
          rw [e]
          exact fun z => nomatch z
        · rw [List.mem_singleton.mp hB]
          obtain ⟨vs, e, _⟩ := hR.same s3
          rw [e]
          exact fun z => nomatch z
      refine ⟨As ++ [A], N, _, _, _, _, _, rfl, ?_, ?_, ?_, ?_, ?_, ?_, ?_⟩
      · rw [upd_same, List.map_append (l₁ := As ++ [A])]
        rfl
      · refine Rows.snoc ⟨lAs, fun i B f a b => (((hRs.2 i B f a b).same s3).same s4).other (dY B (List.mem_append_left _ (List.mem_of_getElem? a))) eY4⟩ (((hR.same s3).same s4).other (dY A (List.mem_append_right _ (List.mem_singleton.mpr rfl))) eY4)
      · exact ⟨[], by rw [upd_ne YN.symm]; exact upd_same, rfl, fun i v w a b => nomatch a⟩
      · intro B hB e
        rw [e] at hB
        exact hall N hB nN
      · intro B hB
        rcases List.mem_append.mp hB with hB | hB
        · exact dY B hB
        · rw [List.mem_singleton.mp hB]
          exact YN.symm
      · exact fun b o e => by
          have e2 := s2 b o e
          have e3 := s4 b o (s3 b o e2)
          rw [upd_ne (ne_of_none e nY0)]
          exact e3
      · cases e : H N with
        | none => rfl
        | some o =>
          have := s3 _ _ (s2 _ _ e)
          rw [nN] at this
          cases this
    · have hns : wd ≠ sla := of_decide_eq_false hb
      have hmon : monW wd = true := (hm wd (List.mem_of_getElem? hw)).resolve_left hns
      obtain ⟨a, b, ew, ha, hbb, ep, _, _⟩ := mon_inv hmon
      have hbl : b.length ≤ 64 := by
        rw [ew, Str.length_append, Str.length_append] at fx
        omega
      obtain ⟨bne, bdig⟩ := wholeW_inv (dayW_inv hbb).1
      refine ⟨.str wd, rfl, ⟨wd, rfl⟩, wd, col, rfl, rfl, by decide +kernel, Nat.le_trans (by omega : wd.length ≤ 1000000) line20, fun p np => ?_⟩
      rw [ep]
      have s4 : Same H2 (upd H2 p (.tup [.str a, .str col, .str b])) := same_new np
      have hT : SqT K (upd H2 p (.tup [.str a, .str col, .str b])) p [.str a, .str col, .str b] := SqT.of upd_same
      generalize upd H2 p (.tup [.str a, .str col, .str b]) = H3 at s4 hT ⊢
      have s5 := s3.trans s4
      have eY3 := s5 _ _ eY
      have hR3 := hR.same s5
      obtain ⟨xs, eA, lx, _⟩ := id hR3
      refine ⟨p, _, rfl, hT, rfl, .str a, [.str col, .str b], rfl, .str col, [.str b], rfl, .str b, [], rfl, rfl, ?_⟩
      refine ⟨.ref Y, rfl, 1, rfl, Y, _, -1, .ref A, rfl, rfl, SqL.of eY3, ?_, .inl ⟨rfl, _, SqL.of eA⟩, .str a, rfl, .str b, rfl, b, ((natW b : Nat) : Int), rfl, intText_digits bdig bne (by omega), by omega, Nat.le_trans (show _ ≤ 1000000 by exact (by decide : 2 ≤ 1000000)) line20, fun t o nt ho => ⟨A, xs, .ref t, rfl, rfl, ?_, Nat.lt_of_lt_of_le (by omega : xs.length < 1000000) line20, ?_⟩⟩
      · exact atI_end
      · rw [upd_ne (ne_of_none eA nt)]
        exact eA
      have e1 : stp st wd = (st.1, st.2 ++ [wd]) := if_neg hns
      rw [e1]
      have s6 : Same H3 (upd H3 t (.frz o (.tup [.str a, .int (natW b : Nat)]))) := same_new nt
      have eA6 := s6 _ _ eA
      have hv6 : MonV (upd H3 t (.frz o (.tup [.str a, .int (natW b : Nat)]))) (.ref t) wd := ⟨t, o, rfl, ho, by rw [ep]; exact upd_same⟩
      refine ⟨As, A, _, _, _, _, _, rfl, ?_, ⟨lAs, fun i B f a b => ?_⟩, (hR3.same s6).more eA6 hv6, dA, dY, ?_, nA2⟩
      · rw [upd_ne (dY A (List.mem_append_right _ (List.mem_singleton.mpr rfl))).symm]
        exact s6 _ _ eY3
      · exact (((hRs.2 i B f a b).same s5).same s6).other (dA B (List.mem_of_getElem? a)) eA6
      · exact fun b o e => by
          rw [upd_ne (ne_of_none e nA2)]
          exact s6 b o (s5 b o (s2 b o e))
  · rintro σ' H' ⟨As, A, x2, x3, x4, x5, x6, rfl, eY, hRs, hR, dA, dY, s2, _⟩
    dsimp only
    rw [List.length_map, List.take_of_length_le (Nat.le_refl _)] at hRs hR
    have rows := rows_dp (K := K) (Rows.snoc hRs hR)
    rw [← grp_of] at rows
    have hdY : Df K H' (.ref Y) (.list ((grp ws).map fun g => .list (g.map monD))) := .lst (.inl (.inl eY)) rows
    have lg : (grp ws).length ≤ 1001 := by
      rw [grp_of, List.length_append]
      have : (ws.foldl stp ([], [])).1.length ≤ 0 + ws.length := (stp_len ws ([], [])).1
      show _ + 1 ≤ 1001
      omega
    refine ev_retN (K := K) 0 (· = ruleD ws) ?_ (Nat.zero_le _) fun H5 v5 d5 s5 hd5 e5 => by subst e5; exact q H5 v5 (s2.trans s5) hd5
    refine ev_tupL (R := (· = [.list ((grp ws).map fun g => .tuple (g.map monD))])) (eva_c ?_ eva_n) (fun ds e => ⟨_, e, rfl⟩)
    have e := ev_lcL (K := K) (S := noS) (a := none) (m1 := 0) (m := 0) (σ := [some (.ref L), some (.ref Y), x2, x3, x4, x5, x6]) (H0 := H') (tn := tVar 1) (te := tCB (rTupQ K) (tCons (tVar 6) tNil)) (vs := [6]) (slot := 6) (es := (grp ws).map fun g => .list (g.map monD)) (P := fun i e => ∀ g, (grp ws)[i]? = some g → e = .tuple (g.map monD)) (Z := (· = .list ((grp ws).map fun g => .tuple (g.map monD)))) (ev_var (i := 1) rfl (dp_no hdY) rfl) (fun _ => rfl) (by rw [List.length_map]; omega) (fun D G sg i x e he hde => ?_) (fun ds hl hp => ?_)
    · rw [Nat.mul_zero] at e
      exact e
    · rw [List.getElem?_map] at he
      obtain ⟨g, hg, rfl⟩ : ∃ g, (grp ws)[i]? = some g ∧ e = .list (g.map monD) := by
        cases h : (grp ws)[i]? with
        | none => rw [h] at he; cases he
        | some g => rw [h] at he; exact ⟨g, rfl, (Option.some.inj he).symm⟩
      exact ev_tupL (R := (· = [.list (g.map monD)])) (eva_c (ev_var (i := 6) rfl hde rfl) eva_n) (fun ds e => ⟨_, e, fun g' hg' => by rw [hg] at hg'; cases hg'; rfl⟩)
    · congr 1
      refine List.ext_getElem? fun i => ?_
      rw [List.length_map] at hl
      rw [List.getElem?_map]
      cases h : ds[i]? with
      | none =>
        have : ds.length ≤ i := List.getElem?_eq_none_iff.mp h
        rw [List.getElem?_eq_none (by omega)]
        rfl
      | some d =>
        have hi : i < ds.length := by
          by_cases z : i < ds.length
          · exact z
          · rw [List.getElem?_eq_none (by omega)] at h
            cases h
        have hg : (grp ws)[i]? = some ((grp ws)[i]'(by omega)) := List.getElem?_eq_getElem _
        rw [hg, hp i d h _ hg]
        rfl
end

section
variable {P : Program} {w : World} {K : PySem.W.Frag} {mg : Str → Option Value} {base : Heap}
/-! #### a rule read -/
theorem place_all : ∀ (ws : List Str) (o : Bool) (k : Nat), placeL o k ws = none → ∀ w ∈ ws, w = sla ∨ monW w = true
  | [], _, _, _, w, h => absurd h List.not_mem_nil
  | u :: ws, o, k, h, w, hw => by
    have h' : (if u = sla ∧ o = false then placeL true (k + 1) ws else if monW u = true then placeL false (k + 1) ws else some k) = none := h
    by_cases h1 : u = sla ∧ o = false
    · rw [if_pos h1] at h'
      rcases List.mem_cons.mp hw with rfl | hw
      · exact .inl h1.1
      · exact place_all ws _ _ h' w hw
    · rw [if_neg h1] at h'
      by_cases h2 : monW u = true
      · rw [if_pos h2] at h'
        rcases List.mem_cons.mp hw with rfl | hw
        · exact .inr h2
        · exact place_all ws _ _ h' w hw
      · rw [if_neg h2] at h'
        cases h'
theorem monD_good {w : Str} (h : monW w = true) : fine (monD w) = true ∧ wt (monD w) ≤ 396 ∧ (monD w).depth ≤ 1 := by
  obtain ⟨a, b, ew, ha, hb, ep, _, _⟩ := mon_inv h
  have n1 := name_inv ha
  have n2 := (dayW_inv hb).2
  have ta : tidy a = true := tidy_iff.mpr fun c hc => by have := n1.2.2 c hc; omega
  unfold monD
  rw [ep]
  refine ⟨?_, ?_, ?_⟩
  · show (tidy a && (decide (((natW b : Nat) : Int).natAbs < 10 ^ 80) && true)) = true
    rw [ta, decide_eq_true (Nat.lt_of_le_of_lt (by omega : ((natW b : Nat) : Int).natAbs ≤ 60) (by decide +kernel))]
    rfl
  · show 10 * a.length + 4 + 4 + (300 + 4 + 0) + 4 ≤ 396
    omega
  · show max 0 (max 0 0) + 1 ≤ 1
    decide
theorem grp_wt : ∀ (ws : List Str), (∀ w ∈ ws, w = sla ∨ monW w = true) → wtAll ((grp ws).map fun g => .tuple (g.map monD)) ≤ 8 + ws.length * 400
  | [], _ => by decide
  | w :: ws, h => by
    have ih := grp_wt ws fun v hv => h v (List.mem_cons_of_mem _ hv)
    rw [List.length_cons, Nat.succ_mul]
    by_cases hw : w = sla
    · have e : grp (w :: ws) = [] :: grp ws := by rw [grp, if_pos hw]
      rw [e]
      show 4 + 4 + wtAll ((grp ws).map fun g => .tuple (g.map monD)) ≤ _
      omega
    · have hm := (monD_good ((h w List.mem_cons_self).resolve_left hw)).2.1
      obtain ⟨f, r, e⟩ : ∃ f r, grp ws = f :: r := by
        cases e : grp ws with
        | nil => exact absurd e (grp_ne ws)
        | cons f r => exact ⟨f, r, rfl⟩
      have e2 : grp (w :: ws) = (w :: f) :: r := by rw [grp, if_neg hw, e]
      rw [e] at ih
      rw [e2]
      have i1 : wtAll (f.map monD) + 4 + 4 + wtAll (r.map fun g => .tuple (g.map monD)) ≤ 8 + ws.length * 400 := ih
      show (wt (monD w) + 4 + wtAll (f.map monD)) + 4 + 4 + wtAll (r.map fun g => .tuple (g.map monD)) ≤ _
      omega
theorem grp_mem : ∀ (ws : List Str), (∀ w ∈ ws, w = sla ∨ monW w = true) → ∀ g ∈ grp ws, ∀ w ∈ g, monW w = true
  | [], _, g, hg, w, hw => by
    have : g = [] := by simpa [grp] using hg
    rw [this] at hw
    exact absurd hw List.not_mem_nil
  | u :: ws, h, g, hg, w, hw => by
    have ih := grp_mem ws fun v hv => h v (List.mem_cons_of_mem _ hv)
    by_cases hu : u = sla
    · have e : grp (u :: ws) = [] :: grp ws := by rw [grp, if_pos hu]
      rw [e] at hg
      rcases List.mem_cons.mp hg with rfl | hg
      · exact absurd hw List.not_mem_nil
      · exact ih g hg w hw
    · obtain ⟨f, r, e⟩ : ∃ f r, grp ws = f :: r := by
        cases e : grp ws with
        | nil => exact absurd e (grp_ne ws)
        | cons f r => exact ⟨f, r, rfl⟩
      have e2 : grp (u :: ws) = (u :: f) :: r := by rw [grp, if_neg hu, e]
      rw [e2] at hg
      rw [e] at ih
      rcases List.mem_cons.mp hg with rfl | hg
      · rcases List.mem_cons.mp hw with rfl | hw
        · exact (h _ List.mem_cons_self).resolve_left hu
        · exact ih f List.mem_cons_self w hw
      · exact ih g (List.mem_cons_of_mem _ hg) w hw
theorem ruleD_good {ws : List Str} (few : ws.length ≤ 1000) (h : ∀ w ∈ ws, w = sla ∨ monW w = true) : Good 900000 50 (ruleD ws) := by
  have hm := grp_mem ws h
  have w1 := grp_wt ws h
  refine ⟨?_, ?_, ?_⟩
  · refine fineAllB_iff.mpr fun y hy => ?_
    obtain ⟨g, hg, rfl⟩ := List.mem_map.mp hy
    refine fineAllB_iff.mpr fun m hm' => ?_
    obtain ⟨x, hx, rfl⟩ := List.mem_map.mp hm'
    exact (monD_good (hm g hg x hx)).1
  · show wtAll _ + 4 ≤ 900000
    omega
  · have : PyData.depthAll ((grp ws).map fun g => .tuple (g.map monD)) ≤ 2 := depthAll_le fun y hy => by
      obtain ⟨g, hg, rfl⟩ := List.mem_map.mp hy
      have : PyData.depthAll (g.map monD) ≤ 1 := depthAll_le fun m hm' => by
        obtain ⟨x, hx, rfl⟩ := List.mem_map.mp hm'
        exact (monD_good (hm g hg x hx)).2.2
      show PyData.depthAll (g.map monD) + 1 ≤ 2
      omega
    show PyData.depthAll _ + 1 ≤ 50
    omega
/-- what read_rule gives: the place, or the rule -/
def readL (x : Str) : Nat ⊕ PyData := match placeL true 0 (wordsL x) with
  | some k => .inl k
  | none => if isRule (ruleD (wordsL x)) = true then .inr (ruleD (wordsL x)) else .inl (wordsL x).length
def spRead (K : PySem.W.Frag) (CT : Addr) : Sp := fun vs H Q E => ∃ v d, vs = [v] ∧ Df K H v d ∧ Good 900000 50 d ∧ (∀ x, d = .str x → Words (wordsL x)) ∧
  (∀ x y, d = .str x → readL x = .inr y → ∀ H' v', Same H H' → Df K H' v' y → Q v' H') ∧
  (∀ x k, d = .str x → readL x = .inl k → ∀ H' dd, Same H H' → H' dd = none → E (.ref CT) (some dd) (upd H' dd (.xd [("place", .int (k : Nat))]))) ∧
  (isKstr d = false → ∀ H' dd, Same H H' → H' dd = none → E (.ref CT) (some dd) (upd H' dd (.xd [("place", .int (-1))])))
theorem ok_read_rule (T : Top K mg) : FnOk P w K mg base (L2.CX P w) 6 T.a_read_rule T.d_read_rule ["text"] (spRead K T.C_NoText) := by
  have G_words_of : FnOk P w K mg base (L2.CX P w) 3 T.a_words_of T.d_words_of ["text"] (spWordsOf K T.C_NoText) := ok_words_of T
  have G_check_rule_words : FnOk P w K mg base (L2.CX P w) 5 T.a_check_rule_words T.d_check_rule_words ["words", "at"] (spCheck K T.C_NoText) := ok_check_rule_words T
  have G_make_rule : FnOk P w K mg base CX0 1 T.a_make_rule T.d_make_rule ["words"] (spMake K) := ok_make_rule T
  have G_is_rule : FnOk P w K mg base CX0 5 T.a_is_rule T.d_is_rule ["thing"] (spB K isRule) := ok_is_rule T
  refine T.F_read_rule.okX sc_read_rule (fun vs H Q E h => by obtain ⟨_, _, rfl, _⟩ := h; rfl) (fun cdv A outer s H vs Q E hr h => ?_)
  obtain ⟨v, d, rfl, hd, g, hw, q, qE, qN⟩ := h
  have hr1 : Room 1 _ := hr.mono (by decide)
  have hr2 : Room 2 _ := hr.mono (by decide)
  have hr3 : Room 3 _ := hr.mono (by decide)
  refine ⟨_, (pss_cons (ps_set (i := 1) sc_read_rule.nd rfl (.inl rfl) (pe_call G_words_of hr3 (by rfl) T.m_words_of T.F_words_of.kp T.b_words_of .nil (passes_call (takes_of rfl rfl rfl rfl) (fun _ _ _ _ z => z)) (pa_cons (pv 0) pa_nil))) (pss_cons (ps_expr (pe_call G_check_rule_words hr (by rfl) T.m_check_rule_words T.F_check_rule_words.kp T.b_check_rule_words .nil (passes_call (takes_of rfl rfl rfl rfl) (fun _ _ _ _ z => z)) (pa_cons (pv 1) (pa_cons pe_int pa_nil)))) (pss_cons (ps_set (i := 2) sc_read_rule.nd rfl (.inl rfl) (pe_call G_make_rule hr1 (by rfl) T.m_make_rule T.F_make_rule.kp T.b_make_rule .nil pass0 (pa_cons (pv 1) pa_nil))) (pss_cons (ps_if (pt_not (pt_val (pe_call G_is_rule hr (by rfl) T.m_is_rule T.F_is_rule.kp T.b_is_rule .nil pass0 (pa_cons (pv 2) pa_nil)))) (pss_one (ps_raise rfl (takes_of rfl rfl rfl rfl) (pmk_oex T.X_NoText.o T.X_NoText.iC T.X_NoText.tI (ok_init_NoText T) hr2 T.X_NoText.b .nil pass0 (by rfl) T.X_NoText.g (pa_cons (pe_callB call_len_seq (by rfl) T.n_len PySem.boot_len (pa_cons (pv 1) pa_nil)) pa_nil)))) pss_nil) (pss_one (ps_ret (pv 2))))))), ?_⟩
  refine ⟨v, rfl, v, d, rfl, hd, g, fun x ex H1 v1 s1 hd1 => ?_, fun z H1 dd s1 hdd => qN z H1 dd s1 hdd⟩
  have q := fun y => q x y ex
  have qE := fun k => qE x k ex
  obtain ⟨few, hws⟩ := hw x ex
  unfold readL at q qE
  generalize wordsL x = ws at *
  dsimp only [gName, List.set]
  refine ⟨v1, rfl, v1, ws, 0, rfl, hd1, ⟨few, hws⟩, Nat.zero_le _, fun ep H2 s2 => ?_, fun k ep H2 dd s2 hdd => ?_⟩
  · rw [List.drop_zero] at ep
    rw [ep] at q qE
    have hall := place_all ws _ _ ep
    refine ⟨v1, rfl, v1, ws, rfl, Df.to hd1 s2, ⟨few, hws⟩, hall, fun H3 v3 s3 hd3 => ?_⟩
    dsimp only [gName, List.set]
    have gR := ruleD_good few hall
    refine if_b (b := !isRule (ruleD ws)) (evb_not (evb_test (K := K) (m := 0) (ev_callB (R := (· = [ruleD ws])) (eva_c (ev_var (i := 2) rfl (dp_no hd3) rfl) eva_n) (fun l e => ⟨_, e, gR, rfl⟩)) (Nat.zero_le _))) (fun hb H4 s4 => ?_) (fun hb H4 s4 => ?_)
    · have hb : isRule (ruleD ws) = false := by cases h : isRule (ruleD ws) <;> rw [h] at hb <;> first | rfl | exact nomatch hb
      have qE := qE ws.length (by show (if isRule (ruleD ws) = true then _ else _) = _; rw [hb]; rfl)
      have s14 := s1.trans (s2.trans (s3.trans s4))
      refine mkO_goE (v := .int (ws.length : Nat)) (fun Q k => ev_no (K := K) 0 (· = .int (ws.length : Nat)) ?_ (Nat.zero_le _) fun H6 v6 d6 s6 hd6 e6 => by subst e6; cases hd6; exact k H6 s6) fun H6 dd s6 hdd => qE H6 dd (s14.trans s6) hdd
      have e := ev_lenX (K := K) (S := noS) (a := none) (m := 0) (σ := [some v, some v1, some v3]) (H0 := H4) (es := ws.map PyData.str) (eva_c (ev_var (i := 1) rfl (dp_no (Df.to hd1 (s2.trans (s3.trans s4)))) rfl) eva_n)
      rw [List.length_map] at e
      exact e
    · have hb : isRule (ruleD ws) = true := by cases h : isRule (ruleD ws) <;> rw [h] at hb <;> first | rfl | exact nomatch hb
      have q := q (ruleD ws) (by show (if isRule (ruleD ws) = true then _ else _) = _; rw [hb]; rfl)
      exact ⟨v3, rfl, q H4 v3 (s1.trans (s2.trans (s3.trans s4))) (Df.to hd3 s4)⟩
  · rw [List.drop_zero] at ep
    rw [ep] at qE
    exact qE k rfl H2 dd (s1.trans s2) hdd
end

section
variable {P : Program} {w : World} {K : PySem.W.Frag} {mg : Str → Option Value} {base : Heap}
/-! #### a rule shown -/
abbrev cs_show_rule : Scope := { kind := .function, names := [(".0", .local), ("months", .local)], isGenerator := false, isCoroutine := false }
def monS : PyData → Str
  | .tuple [.str s, .int i] => s ++ col ++ (toString i : String)
  | _ => ""
def yearS : PyData → Str
  | .tuple ms => Txt.join spc (ms.map monS)
  | _ => ""
def ruleS : PyData → Str
  | .tuple ys => Txt.join ssl (ys.map yearS)
  | _ => ""
theorem year_shape {y : PyData} (h : isYear y = true) : ∃ ms : List PyData, y = .tuple ms ∧ ms.length ≤ 13 ∧ ∀ m ∈ ms, ∃ s i, m = .tuple [.str s, .int i] ∧ nameStr s = true ∧ 1 ≤ i ∧ i ≤ 60 := by
  cases y with
  | tuple ms =>
    obtain ⟨h1, h2⟩ := Bool.and_eq_true_iff.mp (show (decide (1 ≤ ms.length ∧ ms.length ≤ 13) && (ms.all isMonth && decide (ms.map nameIn).Nodup)) = true from h)
    obtain ⟨h2, _⟩ := Bool.and_eq_true_iff.mp h2
    exact ⟨ms, rfl, (of_decide_eq_true h1).2, fun m hm => by
      obtain ⟨s, i, e, i1, i2, hs⟩ := isMonth_inv (List.all_eq_true.mp h2 m hm)
      exact ⟨s, i, e, hs, i1, i2⟩⟩
  | _ => exact nomatch h
theorem int_len {i : Int} (h1 : 1 ≤ i) (h2 : i ≤ 60) : (Str.ofString (toString i)).length ≤ 2 := by
  obtain ⟨n, rfl⟩ : ∃ n : Nat, i = n := ⟨i.toNat, by omega⟩
  rw [TL.len_tl, TL.tl_num]
  exact TL.numL_len (by decide) (by omega)
theorem monS_len {s : Str} {i : Int} (hs : nameStr s = true) (h1 : 1 ≤ i) (h2 : i ≤ 60) : (monS (.tuple [.str s, .int i])).length ≤ 100 := by
  have := (name_inv hs).2.1
  have := int_len h1 h2
  show (s ++ col ++ Str.ofString (toString i)).length ≤ 100
  rw [Str.length_append, Str.length_append, show col.length = 1 by decide +kernel]
  omega
theorem yearS_len {ms : List PyData} (l : ms.length ≤ 13) (h : ∀ m ∈ ms, ∃ s i, m = .tuple [.str s, .int i] ∧ nameStr s = true ∧ 1 ≤ i ∧ i ≤ 60) : (yearS (.tuple ms)).length ≤ 2000 := by
  show (Txt.join spc (ms.map monS)).length ≤ 2000
  rw [TL.join_eq]
  have h1 := StrLaws.join_length_le spc (ms.map monS)
  have h2 := StrLaws.sumLen_le (B := 100) (ms.map monS) fun z hz => by
    obtain ⟨m, hm, rfl⟩ := List.mem_map.mp hz
    obtain ⟨s, i, rfl, hs, i1, i60⟩ := h m hm
    exact monS_len hs i1 i60
  rw [List.length_map] at h1 h2
  rw [show spc.length = 1 by decide +kernel] at h1
  omega
def spShow (K : PySem.W.Frag) (CR : Addr) : Sp := fun vs H Q E => ∃ v d, vs = [v] ∧ Df K H v d ∧ Good 900000 50 d ∧
  (isRule d = true → ∀ H', Same H H' → Q (.str (ruleS d)) H') ∧
  (isRule d = false → ∀ H' dd, Same H H' → H' dd = none → E (.ref CR) (some dd) (upd H' dd (.xd [("rule", v)])))
theorem ok_show_rule (T : Top K mg) : FnOk P w K mg base (L2.CX P w) 6 T.a_show_rule T.d_show_rule ["rule"] (spShow K T.C_NoRule) := by
  have G_is_rule : FnOk P w K mg base CX0 5 T.a_is_rule T.d_is_rule ["thing"] (spB K isRule) := ok_is_rule T
  refine T.F_show_rule.okX sc_show_rule (fun vs H Q E h => by obtain ⟨_, _, rfl, _⟩ := h; rfl) (fun cdv A outer s H vs Q E hr h => ?_)
  obtain ⟨v, d, rfl, hd, g, q, qE⟩ := h
  have hr2 : Room 2 _ := hr.mono (by decide)
  refine ⟨_, (pss_cons (ps_if (pt_not (pt_val (pe_call G_is_rule hr (by rfl) T.m_is_rule T.F_is_rule.kp T.b_is_rule .nil pass0 (pa_cons (pv 0) pa_nil)))) (pss_one (ps_raise rfl (takes_of rfl rfl rfl rfl) (pmk_oex T.X_NoRule.o T.X_NoRule.iC T.X_NoRule.tI (ok_init_NoRule T) hr2 T.X_NoRule.b .nil pass0 (by rfl) T.X_NoRule.g (pa_cons (pv 0) pa_nil)))) pss_nil) (pss_cons (ps_setLc (i := 1) (own := [("months", 2)]) (g := gName 2) (tt := tYes) (by rfl) sc_show_rule.nd rfl rfl (by rfl) (pi_tup (pv 0)) (blkOk_by (own := [("months", 2)]) (N := ["rule", "years", "months", "name", "days"]) (sc := defScope s_show_rule) (by decide +kernel)) (fun _ _ _ _ _ => (pg_name (i := 2) sc_show_rule.nd rfl (.inl rfl))) (fun _ _ _ _ _ => pts_nil) (fun _ _ _ _ _ => (pe_m1 PySem.F.slot_str_join PySem.F.type_str_join (mt_joinK (by rfl)) pe_str (pe_lc (own := [("name", 3), ("days", 4)]) (g := gTup K 2 (gCons (gName 3) (gCons (gName 4) gNil))) (tt := tYes) (by rfl) sc_show_rule.nd (pi_tupK (by rfl) (pv 2)) (blkOk_by (own := [("name", 3), ("days", 4)]) (N := ["rule", "years", "months", "name", "days"]) (sc := cs_show_rule) (by decide +kernel)) (fun _ _ _ _ _ => (pg_tup rfl (pgs_cons (pg_name (i := 3) sc_show_rule.nd rfl (.inl rfl)) (pgs_cons (pg_name (i := 4) sc_show_rule.nd rfl (.inl rfl)) pgs_nil)))) (fun _ _ _ _ _ => pts_nil) (fun _ _ _ _ _ => (pe_joined (PJ.cons (pe_fmt (pv 3)) (PJ.cons pe_str (PJ.cons (pe_fmt (pv 4)) PJ.nil))))))))) (pss_one (ps_ret (pe_join pe_str (pv 1)))))), ?_⟩
  refine if_b (b := !isRule d) (evb_not (evb_test (K := K) (m := 0) (ev_callB (R := (· = [d])) (eva_c (ev_var (i := 0) rfl (dp_no hd) rfl) eva_n) (fun l e => ⟨_, e, g, rfl⟩)) (Nat.zero_le _))) (fun hb H1 s1 => ?_) (fun hb H1 s1 => ?_)
  · have hb : isRule d = false := by cases h : isRule d <;> rw [h] at hb <;> first | rfl | exact nomatch hb
    exact mkO_go (i := 0) rfl fun dd hdd => qE hb H1 dd s1 hdd
  have hb : isRule d = true := by cases h : isRule d <;> rw [h] at hb <;> first | rfl | exact nomatch hb
  obtain ⟨ys, rfl, l1, l20, hys⟩ := isRule_inv hb
  dsimp only [tNext]
  have hY : ∀ y ∈ ys, ∃ ms : List PyData, y = .tuple ms ∧ ms.length ≤ 13 ∧ ∀ m ∈ ms, ∃ s i, m = .tuple [.str s, .int i] ∧ nameStr s = true ∧ 1 ≤ i ∧ i ≤ 60 := fun y hy => year_shape (hys y hy)
  refine ev_setN (K := K) 0 (· = .list ((ys.map yearS).map PyData.str)) ?_ (Nat.zero_le _) fun H2 v2 d2 s2 hd2 e2 => ?_
  · have e := ev_lcT (K := K) (S := noS) (a := none) (m1 := 0) (m := 0) (σ := [some v, none, none, none, none]) (H0 := H1) (tn := tVar 0) (te := tM1 (rJoinQ K) (tC (.str " ")) (tLc (iTup K (tVar 2)) (gTup K 2 (gCons (gName 3) (gCons (gName 4) gNil))) tYes (fun σ H Q => tJs [tFmt (tVar 3), tC (.str ":"), tFmt (tVar 4)] Str.empty σ H fun out H1 => Q (.str out) H1) [3, 4])) (vs := [2]) (slot := 2) (es := ys) (P := fun i e => ∀ y, ys[i]? = some y → e = .str (yearS y)) (Z := (· = .list ((ys.map yearS).map PyData.str))) (ev_var (i := 0) rfl (dp_no (Df.to hd s1)) rfl) (fun _ => rfl) (by omega) (fun D G sg i x e he hde => ?_) (fun ds hl hp => ?_)
    · rw [Nat.mul_zero] at e
      exact e
    · obtain ⟨ms, rfl, l13, hms⟩ := hY e (List.mem_of_getElem? he)
      refine ev_joinS (P2 := (· = .list ((ms.map monS).map PyData.str))) ?_ (fun d e => ⟨_, e, ?_, fun y hy => by rw [he] at hy; cases hy; rfl⟩)
      · have e := ev_lcTP (K := K) (S := plusA noS D) (a := none) (m1 := 0) (m := 0) (σ := [some v, none, some x, none, none]) (H0 := G) (tn := tVar 2) (te := fun σ H Q => tJs [tFmt (tVar 3), tC (.str ":"), tFmt (tVar 4)] Str.empty σ H fun out H1 => Q (.str out) H1) (vs := [3, 4]) (si := 3) (sj := 4) (es := ms) (P := fun i e => ∀ m, ms[i]? = some m → e = .str (monS m)) (Z := (· = .list ((ms.map monS).map PyData.str))) (ev_var (i := 2) rfl hde rfl) (fun _ _ => rfl) (by omega) (fun m hm => by obtain ⟨s, i, e, _⟩ := hms m hm; exact ⟨_, _, e⟩) (fun D2 G2 sg2 j x1 x2 p q hpq h1 h2 => ?_) (fun ds hl hp => ?_)
        · rw [Nat.mul_zero] at e
          exact e
        · obtain ⟨s, i, e, hs, i1, i60⟩ := hms _ (List.mem_of_getElem? hpq)
          cases e
          have e := ev_joined (K := K) (S := plusA (plusA noS D) D2) (a := none) (σ := [some v, none, some x, some x1, some x2]) (H0 := G2) (ts := [tFmt (tVar 3), tC (.str ":"), tFmt (tVar 4)]) (ys := [s, col, (toString i : String)]) ⟨ev_fmtS (ev_var (i := 3) rfl h1 rfl) (by have := (name_inv hs).2.1; omega), ev_str rfl, ev_fmtI (ev_var (i := 4) rfl h2 rfl) (Nat.lt_of_le_of_lt (by omega : i.natAbs ≤ 60) (by decide +kernel)), trivial⟩ (by
            have := (name_inv hs).2.1
            have l2 := int_len i1 i60
            show s.length + (col.length + ((Str.ofString (toString i)).length + 0)) ≤ 100000
            rw [show col.length = 1 by decide +kernel]
            omega)
          refine e.mono fun d' e' m hm => ?_
          rw [hpq] at hm
          cases hm
          rw [e']
          show PyData.str (((Str.empty ++ s) ++ col) ++ _) = _
          rw [Str.empty_append]
          rfl
        · congr 1
          rw [List.map_map]
          exact list_by ms ds hl fun i e m h1 h2 => hp i e h1 m h2
      · have hl : ∀ z ∈ ms.map monS, z.length ≤ 100 := fun z hz => by
          obtain ⟨m, hm, rfl⟩ := List.mem_map.mp hz
          obtain ⟨s, i, rfl, hs, i1, i60⟩ := hms m hm
          exact monS_len hs i1 i60
        have := StrLaws.sumLen_le (B := 100) (ms.map monS) hl
        rw [List.length_map] at this ⊢
        rw [show spc.length = 1 by decide +kernel]
        omega
    · congr 1
      rw [List.map_map]
      exact list_by ys ds hl fun i e m h1 h2 => hp i e h1 m h2
  subst e2
  refine ev_retN (K := K) 0 (· = .str (ruleS (.tuple ys))) (ev_joinS (P2 := (· = .list ((ys.map yearS).map PyData.str))) (ev_var (i := 1) rfl (dp_no hd2) rfl) fun d e => ⟨_, e, ?_, rfl⟩) (Nat.zero_le _) fun H3 v3 d3 s3 hd3 e3 => by subst e3; cases hd3; exact q hb H3 (s1.trans (s2.trans s3))
  have hl : ∀ z ∈ ys.map yearS, z.length ≤ 2000 := fun z hz => by
    obtain ⟨y, hy, rfl⟩ := List.mem_map.mp hz
    obtain ⟨ms, rfl, l13, hms⟩ := hY y hy
    exact yearS_len l13 hms
  have := StrLaws.sumLen_le (B := 2000) (ys.map yearS) hl
  rw [List.length_map] at this ⊢
  rw [show ssl.length = 3 by decide +kernel]
  omega
end

section
variable {P : Program} {w : World} {K : PySem.W.Frag} {mg : Str → Option Value} {base : Heap}
/-! #### the law's own tests -/
theorem ok_whole (T : Top K mg) : FnOk P w K mg base CX0 1 T.a__law_whole T.d__law_whole ["_law_value"] (spB K isInt) := by
  refine T.F__law_whole.ok sc__law_whole spB_len (fun cdv A outer s H vs Q E hr h => ?_)
  obtain ⟨v, d, rfl, hd, g, q⟩ := h
  refine ⟨_, pss_one (ps_ret (pe_and
    (pe_callB call_isiD (by rfl) T.n_isinstance (by decide +kernel) (pa_cons (pv 0) (pa_cons (pe_bltn (v := .ty "int") (by rfl) T.n_int (by decide +kernel) rfl) pa_nil)))
    (pe_one (pe_not (pe_callB call_isiD (by rfl) T.n_isinstance (by decide +kernel) (pa_cons (pv 0) (pa_cons (pe_bltn (v := .ty "bool") (by rfl) T.n_bool (by decide +kernel) rfl) pa_nil))))))), ?_⟩
  refine ⟨v, rfl, v, d, "int", _, rfl, hd, kit_int d g.fin, _, rfl, ite2 (fun h1 => ?_) (fun h1 => ?_)⟩
  · refine ⟨v, rfl, v, d, "bool", _, rfl, hd, kit_bool d g.fin, _, rfl, ?_⟩
    have e := isInt_eq d
    rw [h1, Bool.true_and] at e
    rw [← e]
    exact q H (Same.refl H)
  · have e := isInt_eq d
    rw [Bool.eq_false_iff.mpr h1, Bool.false_and] at e
    rw [← e]
    exact q H (Same.refl H)
theorem abc_mem (c : Nat) : decide (c ∈ (Str.ofString "abcdefghijklmnopqrstuvwxyz").cps.toList) = decide (97 ≤ c ∧ c ≤ 122) := by
  have e : (Str.ofString "abcdefghijklmnopqrstuvwxyz").cps.toList = List.range' 97 26 := by decide +kernel
  rw [e, decide_eq_decide, List.mem_range'_1]
  omega
theorem ok_lname (T : Top K mg) : FnOk P w K mg base CX0 1 T.a__law_is_name T.d__law_is_name ["_law_value"] (spB K isName) := by
  refine T.F__law_is_name.ok sc__law_is_name spB_len (fun cdv A outer s H vs Q E hr h => ?_)
  obtain ⟨v, d, rfl, hd, g, q⟩ := h
  refine ⟨_, pss_cons (ps_if (PW.pt (pw_or
      (pt_not (pt_val (pe_callB call_isiD (by rfl) T.n_isinstance (by decide +kernel) (pa_cons (pv 0) (pa_cons (pe_bltn (v := .ty "str") (by rfl) T.n_str (by decide +kernel) rfl) pa_nil)))))
      (pw_or1 (pt_not (pt_chain op_le op_le pe_int (pe_callB call_len (by rfl) T.n_len PySem.boot_len (pa_cons (pv 0) pa_nil)) pe_int)))))
      (pss_one (ps_ret pe_bl)) pss_nil)
    (pss_one (ps_ret (pe_callB (cr_all rfl) (by rfl) T.n_all (by decide +kernel) (pa_cons
      (pe_lc (own := [("_law_sign", 1)]) (g := gName 1) (tt := tYes) (by rfl) sc__law_is_name.nd (pi_str (pv 0)) (blkOk_by (own := [("_law_sign", 1)]) (N := ["_law_value", "_law_sign"]) (sc := defScope s__law_is_name) (by decide +kernel))
        (fun _ _ _ _ _ => pg_name (i := 1) sc__law_is_name.nd rfl (Or.inl rfl)) (fun _ _ _ _ _ => pts_nil) (fun _ _ _ _ _ => pe_cmpR op_in_sign (pv 1) pe_str (by rfl))) pa_nil)))), ?_⟩
  refine ⟨v, rfl, v, d, "str", _, rfl, hd, kit_str d g.fin, _, rfl, ?_⟩
  cases d with
  | str x =>
    cases hd
    have hx : 10 * x.length + 4 ≤ 900000 := g.wt
    have hl : x.length ≤ sizeLine := Nat.le_trans (by omega) line20
    refine iteF ⟨.str x, rfl, .str x, x.length, rfl, ⟨hl, rfl⟩, 1, (x.length : Int), rfl, rfl, _, rfl, ite2 (fun h1 => ?_) (fun h1 => ?_)⟩
    · have h1' : (1 : Int) ≤ x.length := of_decide_eq_true h1
      refine ⟨(x.length : Int), 8, rfl, rfl, _, rfl, ite2 (fun h2 => ?_) (fun h2 => ?_)⟩
      · have h2' : ¬ ((x.length : Int) ≤ 8) := by simpa using h2
        have e : isName (.str x) = false := by
          show (decide (1 ≤ x.length ∧ x.length ≤ 8) && lowAZ x) = false
          rw [decide_eq_false (by omega), Bool.false_and]
        rw [e] at q
        exact q H (Same.refl H)
      · have h2' : (x.length : Int) ≤ 8 := by simpa using h2
        have e : isName (.str x) = lowAZ x := by
          show (decide (1 ≤ x.length ∧ x.length ≤ 8) && lowAZ x) = lowAZ x
          rw [decide_eq_true (by omega), Bool.true_and]
        rw [e] at q
        dsimp only [tNext]
        refine ev_retN (K := K) (0 + x.length * 0) (fun d => d = .bool (lowAZ x)) ?_ (by rw [Nat.mul_zero]; exact Nat.zero_le _) fun H1 v1 d1 s1 hd1 e1 => by subst e1; cases hd1; exact q H1 s1
        refine ev_all (R := fun l => l = [.list ((x.cps.toList.map fun c => decide (97 ≤ c ∧ c ≤ 122)).map PyData.bool)]) (eva_cons (m1 := 0 + x.length * 0) (m2 := 0) (P := fun d => d = .list ((x.cps.toList.map fun c => decide (97 ≤ c ∧ c ≤ 122)).map PyData.bool)) (R1 := (· = [])) ?_ eva_n (fun d l e1 e2 => by rw [e1, e2])) (fun l e => ⟨_, e, ?_⟩)
        · refine ev_lcS (s := x) (P := fun i e => ∀ c, x.cps[i]? = some c → e = .bool (decide (97 ≤ c ∧ c ≤ 122))) (ev_var (i := 0) rfl (.str x) rfl) (fun _ => rfl) (by omega) (fun D H1 s1 i c hc => ?_) (fun ds hl hp => ?_)
          · refine ev_inSign (m1 := 0) (m2 := 0) (P1 := (· = .str ⟨#[c]⟩)) (P2 := (· = .str "abcdefghijklmnopqrstuvwxyz")) (ev_var (i := 1) rfl (.str _) rfl) (ev_str rfl) (fun d e q1 q2 => ⟨c, _, q1, q2, fun c' h => ?_⟩)
            rw [hc] at h
            cases h
            rw [abc_mem]
          · congr 1
            rw [List.map_map]
            refine list_by x.cps.toList ds (by rw [hl, Array.length_toList]; rfl) fun i e c h1 h2 => ?_
            exact hp i e h1 c (by rw [← Array.getElem?_toList]; exact h2)
        · show PyData.bool _ = PyData.bool (x.cps.all _)
          rw [all_list, List.all_map]
          rfl
    · have e : isName (.str x) = false := by
        have : ¬ ((1 : Int) ≤ x.length) := fun z => h1 (decide_eq_true z)
        show (decide (1 ≤ x.length ∧ x.length ≤ 8) && lowAZ x) = false
        rw [decide_eq_false (by omega), Bool.false_and]
      rw [e] at q
      refine ⟨_, rfl, ?_⟩
      exact q H (Same.refl H)
  | none => exact iteT (q H (Same.refl H))
  | bool b => exact iteT (q H (Same.refl H))
  | int i => exact iteT (q H (Same.refl H))
  | list xs => exact iteT (q H (Same.refl H))
  | tuple xs => exact iteT (q H (Same.refl H))
  | dict kvs => exact nomatch g.fin
end

section
variable {P : Program} {w : World} {K : PySem.W.Frag} {mg : Str → Option Value} {base : Heap}
/-! #### the law's own tests of rules -/
theorem isDayMi (i : Int) : isDayM (.int i) = decide (1 ≤ i ∧ i ≤ 60) := rfl
theorem ok_lmonth (T : Top K mg) : FnOk P w K mg base CX0 2 T.a__law_is_month T.d__law_is_month ["_law_value"] (spB K isMonth) := by
  have GI : FnOk P w K mg base CX0 1 T.a__law_whole T.d__law_whole ["_law_value"] (spB K isInt) := ok_whole T
  have GN : FnOk P w K mg base CX0 1 T.a__law_is_name T.d__law_is_name ["_law_value"] (spB K isName) := ok_lname T
  refine T.F__law_is_month.ok sc__law_is_month spB_len (fun cdv A outer s H vs Q E hr h => ?_)
  obtain ⟨v, d, rfl, hd, g, q⟩ := h
  refine ⟨_, pss_cons (ps_if (PW.pt (pw_or
      (pt_not (pt_val (pe_callB call_isiD (by rfl) T.n_isinstance (by decide +kernel) (pa_cons (pv 0) (pa_cons (pe_bltn (v := .ty "tuple") (by rfl) T.n_tuple (by decide +kernel) rfl) pa_nil)))))
      (pw_or1 (pt_cmpR op_ne (pe_callB call_len (by rfl) T.n_len PySem.boot_len (pa_cons (pv 0) pa_nil)) pe_int (nomark _)))))
      (pss_one (ps_ret pe_bl)) pss_nil)
    (pss_one (ps_ret (pe_and (pe_call GN hr (by rfl) T.m__law_is_name T.F__law_is_name.kp T.b__law_is_name .nil pass0 (pa_cons (pe_ix ix_tup (pv 0) pe_int (fun _ _ => rfl)) pa_nil)) (pe_and (pe_call GI hr (by rfl) T.m__law_whole T.F__law_whole.kp T.b__law_whole .nil pass0 (pa_cons (pe_ix ix_tup (pv 0) pe_int (fun _ _ => rfl)) pa_nil)) (pe_one (pe_chain op_le op_le pe_int (pe_ix ix_tup (pv 0) pe_int (fun _ _ => rfl)) pe_int)))))), ?_⟩
  refine ⟨v, rfl, v, d, "tuple", _, rfl, hd, kit_tuple d g.fin, _, rfl, ?_⟩
  cases d with
  | tuple ds =>
    obtain ⟨a, vs, rfl, hT, hds⟩ := Df.tup_inv hd
    have el : vs.length = ds.length := DfAll.len hds
    refine iteF ⟨.ref a, rfl, .ref a, vs.length, rfl, .inr ⟨vs, hT, rfl⟩, rfl, _, rfl, ite2 (fun h1 => ?_) (fun h1 => ?_)⟩
    · have h2 := ne_int.mp h1
      have e := isMonth_len (ds := ds) (by omega)
      rw [e] at q
      exact q H (Same.refl H)
    · have h2 : ds.length = 2 := by
        have : ¬ (vs.length : Int) ≠ 2 := fun z => h1 (ne_int.mpr z)
        omega
      obtain ⟨d1, d2, rfl⟩ := len2 h2
      obtain ⟨v1, v2, rfl, p1, p2⟩ := DfAll.two hds
      have g1 := (g.tup_mem (d := d1) (by simp)).up (n' := 900000) (k' := 50)
      have g2 := (g.tup_mem (d := d2) (by simp)).up (n' := 900000) (k' := 50)
      have q' : ∀ H', Same H H' → Q (.bl (isName d1 && isDayM d2)) H' := q
      refine ⟨.ref a, rfl, a, _, 0, v1, rfl, rfl, hT, rfl, v1, d1, rfl, p1, g1, fun H1 s1 => ⟨_, rfl, ite2 (fun b1 => ?_) (fun b1 => ?_)⟩⟩
      · rw [b1, Bool.true_and] at q'
        refine ⟨.ref a, rfl, a, _, 1, v2, rfl, rfl, seqT_mono s1 hT, rfl, v2, d2, rfl, Df.to p2 s1, g2, fun H2 s2 => ⟨_, rfl, ite2 (fun b3 => ?_) (fun b3 => ?_)⟩⟩
        · have s12 := s1.trans s2
          cases d2 with
          | int i =>
            cases p2
            rw [isDayMi] at q'
            refine ⟨.ref a, rfl, a, _, 1, .int i, rfl, rfl, seqT_mono s12 hT, rfl, 1, i, rfl, rfl, _, rfl, ite2 (fun b4 => ?_) (fun b4 => ?_)⟩
            · have b4' : (1 : Int) ≤ i := of_decide_eq_true b4
              refine ⟨i, 60, rfl, rfl, ?_⟩
              have e : decide (1 ≤ i ∧ i ≤ 60) = decide (i ≤ 60) := by rw [decide_eq_decide]; omega
              rw [e] at q'
              exact q' H2 s12
            · have b4' : ¬ (1 : Int) ≤ i := fun z => b4 (decide_eq_true z)
              rw [decide_eq_false (by omega)] at q'
              exact q' H2 s12
          | none => exact nomatch b3
          | bool b => exact nomatch b3
          | str x => exact nomatch b3
          | list xs => exact nomatch b3
          | tuple xs => exact nomatch b3
          | dict kvs => exact nomatch b3
        · have e : isDayM d2 = false := by
            cases d2 <;> first | rfl | exact absurd rfl b3
          rw [e] at q'
          exact q' H2 (s1.trans s2)
      · rw [Bool.eq_false_iff.mpr b1, Bool.false_and] at q'
        exact q' H1 s1
  | none => exact iteT (q H (Same.refl H))
  | bool b => exact iteT (q H (Same.refl H))
  | int i => exact iteT (q H (Same.refl H))
  | list xs => exact iteT (q H (Same.refl H))
  | str x => exact iteT (q H (Same.refl H))
  | dict kvs => exact nomatch g.fin
theorem names_of {ms : List PyData} (h : ms.all isMonth = true) : ∀ (i : Nat) (e m : PyData), ms[i]? = some m → (∀ m', ms[i]? = some m' → ∃ es, m' = .tuple es ∧ es[0]? = some e) → e = .str (nameIn m) := fun i e m hm hf => by
  obtain ⟨nm, k, rfl, _⟩ := isMonth_inv (List.all_eq_true.mp h m (List.mem_of_getElem? hm))
  obtain ⟨es, e1, e2⟩ := hf _ hm
  cases e1
  cases e2
  rfl
theorem ok_lyear (T : Top K mg) : FnOk P w K mg base CX0 3 T.a__law_is_year T.d__law_is_year ["_law_value"] (spB K isYear) := by
  have GM : FnOk P w K mg base CX0 2 T.a__law_is_month T.d__law_is_month ["_law_value"] (spB K isMonth) := ok_lmonth T
  refine T.F__law_is_year.ok sc__law_is_year spB_len (fun cdv A outer s H vs Q E hr h => ?_)
  obtain ⟨v, d, rfl, hd, g, q⟩ := h
  refine ⟨_, pss_cons (ps_if (PW.pt (pw_or
      (pt_not (pt_val (pe_callB call_isiD (by rfl) T.n_isinstance (by decide +kernel) (pa_cons (pv 0) (pa_cons (pe_bltn (v := .ty "tuple") (by rfl) T.n_tuple (by decide +kernel) rfl) pa_nil)))))
      (pw_or (pt_not (pt_chain op_le op_le pe_int (pe_callB call_len (by rfl) T.n_len PySem.boot_len (pa_cons (pv 0) pa_nil)) pe_int))
      (pw_or1 (pt_not (pt_val (pe_callB (cr_all rfl) (by rfl) T.n_all (by decide +kernel) (pa_cons (pe_lc (own := [("_law_one", 2)]) (g := gName 2) (tt := tYes) (by rfl) sc__law_is_year.nd (pi_tup (pv 0)) (blkOk_by (own := [("_law_one", 2)]) (N := ["_law_value", "_law_names", "_law_one", "_law_name"]) (sc := defScope s__law_is_year) (by decide +kernel)) (fun _ _ _ _ _ => pg_name (i := 2) sc__law_is_year.nd rfl (Or.inl rfl)) (fun _ _ _ _ _ => pts_nil) (fun _ _ _ _ _ => (pe_call GM hr (by rfl) T.m__law_is_month T.F__law_is_month.kp T.b__law_is_month .nil pass0 (pa_cons (pv 2) pa_nil)))) pa_nil))))))))
      (pss_one (ps_ret pe_bl)) pss_nil)
    (pss_cons (ps_set (i := 1) sc__law_is_year.nd rfl (.inr rfl) (pe_lc (own := [("_law_one", 2)]) (te := tOp (rIxT K) (tVar 2) (tC (.int 0))) (g := gName 2) (tt := tYes) (by rfl) sc__law_is_year.nd (pi_tup (pv 0)) (blkOk_by (own := [("_law_one", 2)]) (N := ["_law_value", "_law_names", "_law_one", "_law_name"]) (sc := defScope s__law_is_year) (by decide +kernel)) (fun _ _ _ _ _ => pg_name (i := 2) sc__law_is_year.nd rfl (Or.inl rfl)) (fun _ _ _ _ _ => pts_nil) (fun _ _ _ _ _ => (pe_ix ix_tup (pv 2) pe_int (fun _ _ => rfl)))))
    (pss_one (ps_ret (pe_callB (cr_all rfl) (by rfl) T.n_all (by decide +kernel) (pa_cons (pe_lc (own := [("_law_name", 3)]) (te := tOp rEq (tBM K "list" (rCntS K) (tVar 1) (tCons (tVar 3) tNil)) (tC (.int 1))) (g := gName 3) (tt := tYes) (by rfl) sc__law_is_year.nd (pi_list (pv 1)) (blkOk_by (own := [("_law_name", 3)]) (N := ["_law_value", "_law_names", "_law_one", "_law_name"]) (sc := defScope s__law_is_year) (by decide +kernel)) (fun _ _ _ _ _ => pg_name (i := 3) sc__law_is_year.nd rfl (Or.inl rfl)) (fun _ _ _ _ _ => pts_nil) (fun _ _ _ _ _ => (pe_cmpR op_eq (pe_bm PySem.F.plainAttrs_list PySem.F.slot_list_count PySem.F.type_list_count mt_countS (pv 1) (pa_cons (pv 3) pa_nil)) pe_int (nomark _)))) pa_nil))))), ?_⟩
  refine ⟨v, rfl, v, d, "tuple", _, rfl, hd, kit_tuple d g.fin, _, rfl, ?_⟩
  cases d with
  | tuple ms =>
    obtain ⟨a, vs, rfl, hT, hds⟩ := Df.tup_inv hd
    have el : vs.length = ms.length := DfAll.len hds
    refine iteF ⟨.ref a, rfl, .ref a, vs.length, rfl, .inr ⟨vs, hT, rfl⟩, 1, (vs.length : Int), rfl, rfl, _, rfl, ite2 (fun h1 => ?_) (fun h1 => ?_)⟩
    · have h1' : (1 : Int) ≤ vs.length := of_decide_eq_true h1
      refine ⟨(vs.length : Int), 13, rfl, rfl, _, rfl, ite2 (fun h2 => ?_) (fun h2 => ?_)⟩
      · have h2' : ¬ ((vs.length : Int) ≤ 13) := by simpa using h2
        have e : isYear (.tuple ms) = false := by
          show (decide (1 ≤ ms.length ∧ ms.length ≤ 13) && _) = false
          rw [decide_eq_false (by omega), Bool.false_and]
        rw [e] at q
        exact q H (Same.refl H)
      · have h2' : (vs.length : Int) ≤ 13 := by simpa using h2
        have e : isYear (.tuple ms) = (ms.all isMonth && decide (ms.map nameIn).Nodup) := by
          show (decide (1 ≤ ms.length ∧ ms.length ≤ 13) && _) = _
          rw [decide_eq_true (by omega), Bool.true_and]
        rw [e] at q
        have hg : ∀ m ∈ ms, Good 900000 50 m := fun m hm => (g.tup_mem hm).up
        refine ev_no (K := K) (0 + ms.length * 0 + 0) (· = .bool (ms.all isMonth)) (ev_allT (i := 0) (slot := 2) (v := .ref a) (r := isMonth) rfl (dp_no hd) hg (by omega) (fun _ => rfl) (fun _ => rfl)) (by rw [Nat.mul_zero]; exact Nat.zero_le _) fun H1 v1 d1 s1 hd1 e1 => ?_
        subst e1
        cases hd1
        cases hb : ms.all isMonth with
        | false =>
          rw [hb, Bool.false_and] at q
          exact ⟨_, rfl, iteT (q H1 s1)⟩
        | true =>
          rw [hb, Bool.true_and] at q
          refine ⟨_, rfl, iteF ?_⟩
          have hd1 := Df.to hd s1
          dsimp only [tNext]
          refine ev_setN (K := K) (0 + ms.length * 0) (· = .list ((ms.map nameIn).map PyData.str)) ?_ (by rw [Nat.mul_zero]; exact Nat.zero_le _) fun H2 v2 d2 s2 hd2 e2 => ?_
          · refine ev_lcT (es := ms) (P := fun i e => ∀ m, ms[i]? = some m → ∃ es, m = .tuple es ∧ es[0]? = some e) (ev_var (i := 0) rfl (dp_no hd1) rfl) (fun _ => rfl) (by omega) (fun D G s i x e he hde => ?_) (fun ds hl hp => ?_)
            · obtain ⟨nm, k, rfl, _⟩ := isMonth_inv (List.all_eq_true.mp hb e (List.mem_of_getElem? he))
              refine ev_ixT (m1 := 0) (m2 := 0) (P1 := (· = .tuple [.str nm, .int k])) (P2 := (· = .int 0)) (ev_var rfl hde rfl) (ev_int rfl) (fun d f q1 q2 => ⟨_, 0, .str nm, q1, q2, rfl, fun m hm => ?_⟩)
              rw [he] at hm
              cases hm
              exact ⟨_, rfl, rfl⟩
            · congr 1
              rw [List.map_map]
              exact list_by ms ds hl fun i e m h1 h2 => names_of hb i e m h2 (hp i e h1)
          subst e2
          have ln : (ms.map nameIn).length = ms.length := List.length_map _
          refine ev_retN (K := K) (0 + ((ms.map nameIn).map PyData.str).length * 0 + 0) (· = .bool (decide (ms.map nameIn).Nodup)) ?_ (by rw [Nat.mul_zero]; exact Nat.zero_le _) fun H3 v3 d3 s3 hd3 e3 => by subst e3; cases hd3; exact q H3 (s1.trans (s2.trans s3))
          refine ev_all (R := fun l => l = [.list (((ms.map nameIn).map fun x => decide ((((ms.map nameIn).count x : Nat) : Int) = 1)).map PyData.bool)]) (eva_cons (P := fun d => d = .list (((ms.map nameIn).map fun x => decide ((((ms.map nameIn).count x : Nat) : Int) = 1)).map PyData.bool)) (R1 := (· = [])) ?_ eva_n (fun d l e1 e2 => by rw [e1, e2])) (fun l e => ⟨_, e, ?_⟩)
          · refine ev_lcL (es := (ms.map nameIn).map PyData.str) (P := fun i e => ∀ x, (ms.map nameIn)[i]? = some x → e = .bool (decide ((((ms.map nameIn).count x : Nat) : Int) = 1))) (ev_var (i := 1) rfl (dp_no hd2) rfl) (fun _ => rfl) (by rw [List.length_map, ln]; omega) (fun D G s i x e he hde => ?_) (fun ds hl hp => ?_)
            · rw [List.getElem?_map] at he
              obtain ⟨nm, hnm, rfl⟩ := Option.map_eq_some_iff.mp he
              refine ev_eqIx (m1 := 0) (m2 := 0) (q1 := (· = (((ms.map nameIn).count nm : Nat) : Int))) (q2 := (· = 1)) (ev_cntS (m1 := 0) (m2 := 0) (ys := ms.map nameIn) (R := (· = [.str nm])) (ev_var (i := 1) rfl (Df.to (dp_no hd2) s) rfl) (eva_c (ev_var rfl hde rfl) eva_n) (fun ds e => ⟨nm, e, _, rfl, rfl⟩)) (ev_intE rfl) (fun i' j' q1 q2 y hy => ?_)
              rw [hnm] at hy
              cases hy
              rw [q1, q2]
            · congr 1
              rw [List.map_map]
              refine list_by (ms.map nameIn) ds (by rw [hl, List.length_map]) fun i e x h1 h2 => hp i e h1 x h2
          · rw [List.all_map]
            exact congrArg PyData.bool (nodup_cnt (ms.map nameIn))
    · have e : isYear (.tuple ms) = false := by
        have : ¬ ((1 : Int) ≤ vs.length) := fun z => h1 (decide_eq_true z)
        show (decide (1 ≤ ms.length ∧ ms.length ≤ 13) && _) = false
        rw [decide_eq_false (by omega), Bool.false_and]
      rw [e] at q
      exact ⟨_, rfl, q H (Same.refl H)⟩
  | none => exact iteT (q H (Same.refl H))
  | bool b => exact iteT (q H (Same.refl H))
  | int i => exact iteT (q H (Same.refl H))
  | list xs => exact iteT (q H (Same.refl H))
  | str x => exact iteT (q H (Same.refl H))
  | dict kvs => exact nomatch g.fin
theorem ok_lrule (T : Top K mg) : FnOk P w K mg base CX0 4 T.a__law_is_rule T.d__law_is_rule ["_law_value"] (spB K isRule) := by
  have GY : FnOk P w K mg base CX0 3 T.a__law_is_year T.d__law_is_year ["_law_value"] (spB K isYear) := ok_lyear T
  refine T.F__law_is_rule.ok sc__law_is_rule spB_len (fun cdv A outer s H vs Q E hr h => ?_)
  obtain ⟨v, d, rfl, hd, g, q⟩ := h
  refine ⟨_, (pss_one (ps_ret (pe_and (pe_callB call_isiD (by rfl) T.n_isinstance (by decide +kernel) (pa_cons (pv 0) (pa_cons (pe_bltn (v := .ty "tuple") (by rfl) T.n_tuple (by decide +kernel) rfl) pa_nil))) (pe_and (pe_chain op_le op_le pe_int (pe_callB call_len (by rfl) T.n_len PySem.boot_len (pa_cons (pv 0) pa_nil)) pe_int) (pe_one (pe_callB (cr_all rfl) (by rfl) T.n_all (by decide +kernel) (pa_cons (pe_lc (own := [("_law_one", 1)]) (g := gName 1) (tt := tYes) (by rfl) sc__law_is_rule.nd (pi_tup (pv 0)) (blkOk_by (own := [("_law_one", 1)]) (N := ["_law_value", "_law_one"]) (sc := defScope s__law_is_rule) (by decide +kernel)) (fun _ _ _ _ _ => pg_name (i := 1) sc__law_is_rule.nd rfl (Or.inl rfl)) (fun _ _ _ _ _ => pts_nil) (fun _ _ _ _ _ => (pe_call GY hr (by rfl) T.m__law_is_year T.F__law_is_year.kp T.b__law_is_year .nil pass0 (pa_cons (pv 1) pa_nil)))) pa_nil))))))), ?_⟩
  refine ⟨v, rfl, v, d, "tuple", _, rfl, hd, kit_tuple d g.fin, _, rfl, ?_⟩
  cases d with
  | tuple ms =>
    obtain ⟨a, vs, rfl, hT, hds⟩ := Df.tup_inv hd
    have el : vs.length = ms.length := DfAll.len hds
    refine iteT ⟨.ref a, rfl, .ref a, vs.length, rfl, .inr ⟨vs, hT, rfl⟩, 1, (vs.length : Int), rfl, rfl, _, rfl, ite2 (fun h1 => ?_) (fun h1 => ?_)⟩
    · have h1' : (1 : Int) ≤ vs.length := of_decide_eq_true h1
      refine ⟨(vs.length : Int), 20, rfl, rfl, _, rfl, ite2 (fun h2 => ?_) (fun h2 => ?_)⟩
      · have h2' : (vs.length : Int) ≤ 20 := of_decide_eq_true h2
        have e : isRule (.tuple ms) = ms.all isYear := by
          show (decide (1 ≤ ms.length ∧ ms.length ≤ 20) && _) = _
          rw [decide_eq_true (by omega), Bool.true_and]
        rw [e] at q
        have hg : ∀ m ∈ ms, Good 900000 50 m := fun m hm => (g.tup_mem hm).up
        exact ev_no (K := K) (0 + ms.length * 0 + 0) (· = .bool (ms.all isYear)) (ev_allT (i := 0) (slot := 1) (v := .ref a) (r := isYear) rfl (dp_no hd) hg (by omega) (fun _ => rfl) (fun _ => rfl)) (by rw [Nat.mul_zero]; exact Nat.zero_le _) fun H1 v1 d1 s1 hd1 e1 => by subst e1; cases hd1; exact q H1 s1
      · have h2' : ¬ (vs.length : Int) ≤ 20 := fun z => h2 (decide_eq_true z)
        have e : isRule (.tuple ms) = false := by
          show (decide (1 ≤ ms.length ∧ ms.length ≤ 20) && _) = false
          rw [decide_eq_false (by omega), Bool.false_and]
        rw [e] at q
        exact q H (Same.refl H)
    · have e : isRule (.tuple ms) = false := by
        have : ¬ ((1 : Int) ≤ vs.length) := fun z => h1 (decide_eq_true z)
        show (decide (1 ≤ ms.length ∧ ms.length ≤ 20) && _) = false
        rw [decide_eq_false (by omega), Bool.false_and]
      rw [e] at q
      exact ⟨_, rfl, q H (Same.refl H)⟩
  | none => exact iteF (q H (Same.refl H))
  | bool b => exact iteF (q H (Same.refl H))
  | int i => exact iteF (q H (Same.refl H))
  | list xs => exact iteF (q H (Same.refl H))
  | str x => exact iteF (q H (Same.refl H))
  | dict kvs => exact nomatch g.fin
end

section
variable {P : Program} {w : World} {K : PySem.W.Frag} {mg : Str → Option Value} {base : Heap}
def isDate : PyData → Bool
  | .tuple [a, b, c] => isInt a && (isName b && isDayM c)
  | _ => false
theorem isDate_len {ds : List PyData} (h : ds.length ≠ 3) : isDate (.tuple ds) = false := by
  match ds, h with
  | [], _ => rfl
  | [_], _ => rfl
  | [_, _], _ => rfl
  | [_, _, _], h => exact absurd rfl h
  | _ :: _ :: _ :: _ :: _, _ => rfl
theorem ok_is_date (T : Top K mg) : FnOk P w K mg base CX0 3 T.a_is_date T.d_is_date ["thing"] (spB K isDate) := by
  have GI : FnOk P w K mg base CX0 1 T.a_is_int T.d_is_int ["thing"] (spB K isInt) := ok_is_int T
  have GN : FnOk P w K mg base CX0 1 T.a_is_name T.d_is_name ["thing"] (spB K isName) := ok_is_name T
  have GD : FnOk P w K mg base CX0 2 T.a_is_day_of_month T.d_is_day_of_month ["thing"] (spB K isDayM) := ok_is_day_of_month T
  refine T.F_is_date.ok sc_is_date spB_len (fun cdv A outer s H vs Q E hr h => ?_)
  obtain ⟨v, d, rfl, hd, g, q⟩ := h
  have hr1 : Room 1 _ := hr.mono (by decide)
  refine ⟨_, pss_cons (ps_if (PW.pt (pw_or
      (pt_not (pt_val (pe_callB call_isiD (by rfl) T.n_isinstance (by decide +kernel) (pa_cons (pv 0) (pa_cons (pe_bltn (v := .ty "tuple") (by rfl) T.n_tuple (by decide +kernel) rfl) pa_nil)))))
      (pw_or1 (pt_cmpR op_ne (pe_callB call_len (by rfl) T.n_len PySem.boot_len (pa_cons (pv 0) pa_nil)) pe_int (nomark _)))))
      (pss_one (ps_ret pe_bl)) pss_nil)
    (pss_one (ps_ret (pe_and (pe_call GI hr1 (by rfl) T.m_is_int T.F_is_int.kp T.b_is_int .nil pass0 (pa_cons (pe_ix ix_tup (pv 0) pe_int (fun _ _ => rfl)) pa_nil))
      (pe_and (pe_call GN hr1 (by rfl) T.m_is_name T.F_is_name.kp T.b_is_name .nil pass0 (pa_cons (pe_ix ix_tup (pv 0) pe_int (fun _ _ => rfl)) pa_nil))
        (pe_one (pe_call GD hr (by rfl) T.m_is_day_of_month T.F_is_day_of_month.kp T.b_is_day_of_month .nil pass0 (pa_cons (pe_ix ix_tup (pv 0) pe_int (fun _ _ => rfl)) pa_nil))))))), ?_⟩
  refine ⟨v, rfl, v, d, "tuple", _, rfl, hd, kit_tuple d g.fin, _, rfl, ?_⟩
  cases d with
  | tuple ds =>
    obtain ⟨a, vs, rfl, hT, hds⟩ := Df.tup_inv hd
    have el : vs.length = ds.length := DfAll.len hds
    refine iteF ⟨.ref a, rfl, .ref a, vs.length, rfl, .inr ⟨vs, hT, rfl⟩, rfl, _, rfl, ite2 (fun h1 => ?_) (fun h1 => ?_)⟩
    · have h2 := ne_int.mp h1
      have e := isDate_len (ds := ds) (by omega)
      rw [e] at q
      exact q H (Same.refl H)
    · have h2 : ds.length = 3 := by
        have : ¬ (vs.length : Int) ≠ 3 := fun z => h1 (ne_int.mpr z)
        omega
      obtain ⟨d1, d2, d3, rfl⟩ := len3 h2
      obtain ⟨v1, v2, v3, rfl, p1, p2, p3⟩ := DfAll.three hds
      have g1 := (g.tup_mem (d := d1) (by simp)).up (n' := 900000) (k' := 50)
      have g2 := (g.tup_mem (d := d2) (by simp)).up (n' := 900000) (k' := 50)
      have g3 := (g.tup_mem (d := d3) (by simp)).up (n' := 900000) (k' := 50)
      have q' : ∀ H', Same H H' → Q (.bl (isInt d1 && (isName d2 && isDayM d3))) H' := q
      refine ⟨.ref a, rfl, a, _, 0, v1, rfl, rfl, hT, rfl, v1, d1, rfl, p1, g1, fun H1 s1 => ⟨_, rfl, ite2 (fun b1 => ?_) (fun b1 => ?_)⟩⟩
      · rw [b1, Bool.true_and] at q'
        refine ⟨.ref a, rfl, a, _, 1, v2, rfl, rfl, seqT_mono s1 hT, rfl, v2, d2, rfl, Df.to p2 s1, g2, fun H2 s2 => ⟨_, rfl, ite2 (fun b2 => ?_) (fun b2 => ?_)⟩⟩
        · rw [b2, Bool.true_and] at q'
          exact ⟨.ref a, rfl, a, _, 2, v3, rfl, rfl, seqT_mono (s1.trans s2) hT, rfl, v3, d3, rfl, Df.to p3 (s1.trans s2), g3, fun H3 s3 => q' H3 ((s1.trans s2).trans s3)⟩
        · rw [Bool.eq_false_iff.mpr b2, Bool.false_and] at q'
          exact q' H2 (s1.trans s2)
      · rw [Bool.eq_false_iff.mpr b1, Bool.false_and] at q'
        exact q' H1 s1
  | none => exact iteT (q H (Same.refl H))
  | bool b => exact iteT (q H (Same.refl H))
  | int i => exact iteT (q H (Same.refl H))
  | list xs => exact iteT (q H (Same.refl H))
  | str x => exact iteT (q H (Same.refl H))
  | dict kvs => exact nomatch g.fin
end

section
variable {P : Program} {w : World} {K : PySem.W.Frag} {mg : Str → Option Value} {base : Heap}
theorem isDayM_int (i : Int) : isDayM (.int i) = decide (1 ≤ i ∧ i ≤ 60) := rfl
theorem ok_ldate (T : Top K mg) : FnOk P w K mg base CX0 2 T.a__law_is_date T.d__law_is_date ["_law_value"] (spB K isDate) := by
  have GI : FnOk P w K mg base CX0 1 T.a__law_whole T.d__law_whole ["_law_value"] (spB K isInt) := ok_whole T
  have GN : FnOk P w K mg base CX0 1 T.a__law_is_name T.d__law_is_name ["_law_value"] (spB K isName) := ok_lname T
  refine T.F__law_is_date.ok sc__law_is_date spB_len (fun cdv A outer s H vs Q E hr h => ?_)
  obtain ⟨v, d, rfl, hd, g, q⟩ := h
  refine ⟨_, pss_cons (ps_if (PW.pt (pw_or
      (pt_not (pt_val (pe_callB call_isiD (by rfl) T.n_isinstance (by decide +kernel) (pa_cons (pv 0) (pa_cons (pe_bltn (v := .ty "tuple") (by rfl) T.n_tuple (by decide +kernel) rfl) pa_nil)))))
      (pw_or1 (pt_cmpR op_ne (pe_callB call_len (by rfl) T.n_len PySem.boot_len (pa_cons (pv 0) pa_nil)) pe_int (nomark _)))))
      (pss_one (ps_ret pe_bl)) pss_nil)
    (pss_one (ps_ret (pe_and (pe_call GI hr (by rfl) T.m__law_whole T.F__law_whole.kp T.b__law_whole .nil pass0 (pa_cons (pe_ix ix_tup (pv 0) pe_int (fun _ _ => rfl)) pa_nil)) (pe_and (pe_call GN hr (by rfl) T.m__law_is_name T.F__law_is_name.kp T.b__law_is_name .nil pass0 (pa_cons (pe_ix ix_tup (pv 0) pe_int (fun _ _ => rfl)) pa_nil)) (pe_and (pe_call GI hr (by rfl) T.m__law_whole T.F__law_whole.kp T.b__law_whole .nil pass0 (pa_cons (pe_ix ix_tup (pv 0) pe_int (fun _ _ => rfl)) pa_nil)) (pe_one (pe_chain op_le op_le pe_int (pe_ix ix_tup (pv 0) pe_int (fun _ _ => rfl)) pe_int))))))), ?_⟩
  refine ⟨v, rfl, v, d, "tuple", _, rfl, hd, kit_tuple d g.fin, _, rfl, ?_⟩
  cases d with
  | tuple ds =>
    obtain ⟨a, vs, rfl, hT, hds⟩ := Df.tup_inv hd
    have el : vs.length = ds.length := DfAll.len hds
    refine iteF ⟨.ref a, rfl, .ref a, vs.length, rfl, .inr ⟨vs, hT, rfl⟩, rfl, _, rfl, ite2 (fun h1 => ?_) (fun h1 => ?_)⟩
    · have h2 := ne_int.mp h1
      have e := isDate_len (ds := ds) (by omega)
      rw [e] at q
      exact q H (Same.refl H)
    · have h2 : ds.length = 3 := by
        have : ¬ (vs.length : Int) ≠ 3 := fun z => h1 (ne_int.mpr z)
        omega
      obtain ⟨d1, d2, d3, rfl⟩ := len3 h2
      obtain ⟨v1, v2, v3, rfl, p1, p2, p3⟩ := DfAll.three hds
      have g1 := (g.tup_mem (d := d1) (by simp)).up (n' := 900000) (k' := 50)
      have g2 := (g.tup_mem (d := d2) (by simp)).up (n' := 900000) (k' := 50)
      have g3 := (g.tup_mem (d := d3) (by simp)).up (n' := 900000) (k' := 50)
      have q' : ∀ H', Same H H' → Q (.bl (isInt d1 && (isName d2 && isDayM d3))) H' := q
      refine ⟨.ref a, rfl, a, _, 0, v1, rfl, rfl, hT, rfl, v1, d1, rfl, p1, g1, fun H1 s1 => ⟨_, rfl, ite2 (fun b1 => ?_) (fun b1 => ?_)⟩⟩
      · rw [b1, Bool.true_and] at q'
        refine ⟨.ref a, rfl, a, _, 1, v2, rfl, rfl, seqT_mono s1 hT, rfl, v2, d2, rfl, Df.to p2 s1, g2, fun H2 s2 => ⟨_, rfl, ite2 (fun b2 => ?_) (fun b2 => ?_)⟩⟩
        · rw [b2, Bool.true_and] at q'
          have s12 := s1.trans s2
          refine ⟨.ref a, rfl, a, _, 2, v3, rfl, rfl, seqT_mono s12 hT, rfl, v3, d3, rfl, Df.to p3 s12, g3, fun H3 s3 => ⟨_, rfl, ite2 (fun b3 => ?_) (fun b3 => ?_)⟩⟩
          · have s13 := s12.trans s3
            cases d3 with
            | int i =>
              cases p3
              rw [isDayM_int] at q'
              refine ⟨.ref a, rfl, a, _, 2, .int i, rfl, rfl, seqT_mono s13 hT, rfl, 1, i, rfl, rfl, _, rfl, ite2 (fun b4 => ?_) (fun b4 => ?_)⟩
              · have b4' : (1 : Int) ≤ i := of_decide_eq_true b4
                refine ⟨i, 60, rfl, rfl, ?_⟩
                have e : decide (1 ≤ i ∧ i ≤ 60) = decide (i ≤ 60) := by rw [decide_eq_decide]; omega
                rw [e] at q'
                exact q' H3 s13
              · have b4' : ¬ (1 : Int) ≤ i := fun z => b4 (decide_eq_true z)
                rw [decide_eq_false (by omega)] at q'
                exact q' H3 s13
            | none => exact nomatch b3
            | bool b => exact nomatch b3
            | str x => exact nomatch b3
            | list xs => exact nomatch b3
            | tuple xs => exact nomatch b3
            | dict kvs => exact nomatch b3
          · have e : isDayM d3 = false := by
              cases d3 <;> first | rfl | exact absurd rfl b3
            rw [e] at q'
            exact q' H3 (s12.trans s3)
        · rw [Bool.eq_false_iff.mpr b2, Bool.false_and] at q'
          exact q' H2 (s1.trans s2)
      · rw [Bool.eq_false_iff.mpr b1, Bool.false_and] at q'
        exact q' H1 s1
  | none => exact iteT (q H (Same.refl H))
  | bool b => exact iteT (q H (Same.refl H))
  | int i => exact iteT (q H (Same.refl H))
  | list xs => exact iteT (q H (Same.refl H))
  | str x => exact iteT (q H (Same.refl H))
  | dict kvs => exact nomatch g.fin
end

section
variable {P : Program} {w : World} {K : PySem.W.Frag} {mg : Str → Option Value} {base : Heap}
/-! #### dates of a rule -/
def fitB (s : Str) (i : Int) : PyData → Bool
  | .tuple [.str nm, .int k] => decide (nm = s) && decide (i ≤ k)
  | _ => false
def yearIn (ys : List PyData) (y : Int) : List PyData := match ys[(y % (ys.length : Int)).toNat]? with
  | some (.tuple ms) => ms
  | _ => []
def hasIn : PyData → PyData → Bool
  | .tuple ys, .tuple [.int y, .str s, .int i] => (yearIn ys y).any (fitB s i)
  | _, _ => false
def hasB (r d : PyData) : Bool := isDate d && hasIn r d
theorem isDate_inv {d : PyData} (h : isDate d = true) : ∃ y s i, d = .tuple [.int y, .str s, .int i] ∧ nameStr s = true ∧ 1 ≤ i ∧ i ≤ 60 := by
  cases d with
  | tuple ds =>
    have hl : ds.length = 3 := by
      by_cases hl : ds.length = 3
      · exact hl
      · rw [isDate_len hl] at h
        cases h
    obtain ⟨a, b, c, rfl⟩ := len3 hl
    obtain ⟨h1, h2⟩ := Bool.and_eq_true_iff.mp (show (isInt a && (isName b && isDayM c)) = true from h)
    obtain ⟨hb, hc⟩ := Bool.and_eq_true_iff.mp h2
    clear h2
    cases a with
    | int y =>
      cases b with
      | str s =>
        cases c with
        | int i =>
          have := of_decide_eq_true (show decide (1 ≤ i ∧ i ≤ 60) = true from hc)
          exact ⟨y, s, i, rfl, hb, this.1, this.2⟩
        | _ => exact nomatch hc
      | _ => exact nomatch hb
    | _ => exact nomatch h1
  | _ => exact nomatch h
theorem year_at {ys : List PyData} (y : Int) (h1 : 1 ≤ ys.length) (h : ∀ e ∈ ys, isYear e = true) : ∃ ms, atI ys (y % (ys.length : Int)) = some (.tuple ms) ∧ yearIn ys y = ms ∧ isYear (.tuple ms) = true := by
  have p0 : 0 ≤ y % (ys.length : Int) := Int.emod_nonneg _ (by omega)
  have p1 : y % (ys.length : Int) < ys.length := Int.emod_lt_of_pos _ (by omega)
  have hk : (y % (ys.length : Int)).toNat < ys.length := by omega
  have e1 : ys[(y % (ys.length : Int)).toNat]? = some ys[(y % (ys.length : Int)).toNat] := List.getElem?_eq_getElem hk
  have hy := h _ (List.getElem_mem hk)
  obtain ⟨ms, e, _⟩ := isYear_inv hy
  rw [e] at e1 hy
  have e2 := atI_nat e1
  rw [Int.toNat_of_nonneg p0] at e2
  exact ⟨ms, e2, by unfold yearIn; rw [e1], hy⟩
def IncPre (ds : List PyData) : Prop := ∃ d1 d2, ds = [d1, d2] ∧ isRule d1 = true ∧ isDate d2 = true
def IncPost (ds : List PyData) (d : PyData) : Prop := ∀ d1 d2, ds = [d1, d2] → d = .bool (hasIn d1 d2)
theorem ok_includes (T : Top K mg) : FnOk P w K mg base CX0 1 T.a_includes T.d_includes ["rule", "date"] (spP K IncPre IncPost) := by
  refine T.F_includes.ok sc_includes (spP_len (j := 2) fun ds ⟨_, _, e, _⟩ => by rw [e]; rfl) (fun cdv A outer s H vs Q E hr h => ?_)
  obtain ⟨ds, hds, ⟨d1, d2, rfl, ir, id⟩, q⟩ := h
  obtain ⟨v1, v2, rfl, h1, h2⟩ := DfAll.two hds
  obtain ⟨y0, s0, i0, rfl, _⟩ := isDate_inv id
  obtain ⟨ys, rfl, l1, l20, hys⟩ := isRule_inv ir
  obtain ⟨ms, eat, eyr, hyr⟩ := year_at y0 l1 hys
  obtain ⟨ms', ems, m1, m13, hms, _⟩ := isYear_inv hyr
  cases ems
  refine ⟨_, pss_cons (ps_asg (pv 1) (pg_tup rfl (pgs_cons (pg_name (i := 2) sc_includes.nd rfl (.inl rfl)) (pgs_cons (pg_name (i := 3) sc_includes.nd rfl (.inr rfl)) (pgs_cons (pg_name (i := 4) sc_includes.nd rfl (.inr rfl)) pgs_nil)))))
    (pss_cons (ps_set (i := 5) sc_includes.nd rfl (.inl rfl) (pe_ix ix_tup (pv 0) (pe_op op_mod (pv 2) (pe_callB call_len_seq (by rfl) T.n_len PySem.boot_len (pa_cons (pv 0) pa_nil))) (fun _ _ => rfl)))
    (pss_one (ps_ret (pe_callB (cr_any rfl) (by rfl) T.n_any (by decide +kernel) (pa_cons
      (pe_lc (own := [("name", 6), ("days", 7)]) (g := gTup K 2 (gCons (gName 6) (gCons (gName 7) gNil))) (tt := tYes) (by rfl) sc_includes.nd (pi_tup (pv 5)) (blkOk_by (own := [("name", 6), ("days", 7)]) (N := ["rule", "date", "year", "month", "day", "months", "name", "days"]) (sc := defScope s_includes) (by decide +kernel))
        (fun _ _ _ _ _ => pg_tup rfl (pgs_cons (pg_name (i := 6) sc_includes.nd rfl (Or.inl rfl)) (pgs_cons (pg_name (i := 7) sc_includes.nd rfl (Or.inl rfl)) pgs_nil))) (fun _ _ _ _ _ => pts_nil) (fun _ _ _ _ _ => pe_and (pe_cmpR op_eq (pv 6) (pv 3) (nomark _)) (pe_one (pe_cmpR op_le (pv 4) (pv 7) (nomark _))))) pa_nil))))), ?_⟩
  refine ev_set3 (K := K) (S := noS) (a := none) (n := 0) (fun x y z => x = .int y0 ∧ y = .str s0 ∧ z = .int i0) 0 rn_no (by decide) (ev_var (i := 1) rfl (dp_no h2) ⟨_, _, _, rfl, rfl, rfl, rfl⟩) fun H3 v w' t x y z k3 _ hv hw ht ⟨e1, e2, e3⟩ => ?_
  subst e1 e2 e3
  cases hv
  cases hw
  cases ht
  have s13 := keeps_no k3
  refine ev_setN (K := K) 0 (· = .tuple ms) ?_ (Nat.zero_le _) fun H4 v4 d4 s4 hd4 e4 => ?_
  · refine ev_ixT (m1 := 0) (m2 := 0) (P1 := (· = .tuple ys)) (P2 := (· = .int (y0 % (ys.length : Int)))) (ev_var (i := 0) rfl (dp_no (Df.to h1 s13)) rfl) ?_ (fun d e q1 q2 => ⟨ys, _, .tuple ms, q1, q2, eat, rfl⟩)
    exact ev_intsC (m1 := 0) (m2 := 0) (p1 := (· = y0)) (p2 := (· = (ys.length : Int))) (ev_var (i := 2) rfl (.int _) ⟨_, rfl, rfl⟩) (ev_len (eva_c (ev_var (i := 0) rfl (dp_no (Df.to h1 s13)) rfl) eva_n) (fun ds e => ⟨ys, .inr e, _, rfl, rfl⟩)) (fun a b q1 q2 => ⟨by rw [q2]; omega, by rw [q1, q2]⟩)
  subst e4
  have s14 := s13.trans s4
  refine ev_retN (K := K) (0 + ms.length * 0 + 0) (· = .bool (ms.any (fitB s0 i0))) ?_ (by rw [Nat.mul_zero]; exact Nat.zero_le _) fun H5 v5 d5 s5 hd5 e5 => ?_
  · refine ev_any (R := fun l => l = [.list ((ms.map (fitB s0 i0)).map PyData.bool)]) (eva_cons (P := fun d => d = .list ((ms.map (fitB s0 i0)).map PyData.bool)) (R1 := (· = [])) ?_ eva_n (fun d l e1 e2 => by rw [e1, e2])) (fun l e => ⟨_, e, by rw [List.any_map]; rfl⟩)
    refine ev_lcTP (es := ms) (P := fun i e => ∀ m, ms[i]? = some m → e = .bool (fitB s0 i0 m)) (ev_var (i := 5) rfl (dp_no hd4) rfl) (fun _ _ => rfl) (by omega) (fun e he => ?_) (fun D G s i x y p q' he hx hy => ?_) (fun ds hl hp => ?_)
    · obtain ⟨nm, k, rfl, _⟩ := isMonth_inv (hms e he)
      exact ⟨_, _, rfl⟩
    · obtain ⟨nm, k, em, _⟩ := isMonth_inv (hms _ (List.mem_of_getElem? he))
      cases em
      refine ev_and (m1 := 0) (m2 := 0) (x := decide (nm = s0)) (y := decide (i0 ≤ k)) (ev_eqS (m1 := 0) (m2 := 0) (ev_var (i := 6) rfl hx rfl) (ev_var (i := 3) rfl (.str _) rfl) rfl) (ev_leI (m1 := 0) (m2 := 0) (ev_var (i := 4) rfl (.int _) rfl) (ev_var (i := 7) rfl hy rfl) rfl) (fun m hm => ?_)
      rw [he] at hm
      cases hm
      rfl
    · congr 1
      rw [List.map_map]
      exact list_by ms ds hl fun i e m h1 h2 => hp i e h1 m h2
  · subst e5
    have e6 : hasIn (.tuple ys) (.tuple [.int y0, .str s0, .int i0]) = ms.any (fitB s0 i0) := by
      show (yearIn ys y0).any _ = _
      rw [eyr]
    exact q H5 v5 _ (s14.trans s5) hd5 fun d1 d2 e => by
      cases e
      rw [e6]
def spHas (K : PySem.W.Frag) : Sp := fun vs H Q _ => ∃ v1 v2 d1 d2, vs = [v1, v2] ∧ Df K H v1 d1 ∧ Df K H v2 d2 ∧ Good 900000 50 d1 ∧ Good 900000 50 d2 ∧ isRule d1 = true ∧ ∀ H', Same H H' → Q (.bl (hasB d1 d2)) H'
theorem ok_has_date (T : Top K mg) : FnOk P w K mg base CX0 6 T.a_has_date T.d_has_date ["rule", "date"] (spHas K) := by
  have GR : FnOk P w K mg base CX0 5 T.a_is_rule T.d_is_rule ["thing"] (spB K isRule) := ok_is_rule T
  have GD : FnOk P w K mg base CX0 3 T.a_is_date T.d_is_date ["thing"] (spB K isDate) := ok_is_date T
  have GI : FnOk P w K mg base CX0 1 T.a_includes T.d_includes ["rule", "date"] (spP K IncPre IncPost) := ok_includes T
  refine T.F_has_date.ok sc_has_date (fun vs H Q E h => by obtain ⟨_, _, _, _, rfl, _⟩ := h; rfl) (fun cdv A outer s H vs Q E hr h => ?_)
  obtain ⟨v1, v2, d1, d2, rfl, h1, h2, g1, g2, ir, q⟩ := h
  have hr3 : Room 3 _ := hr.mono (by decide)
  have hr1 : Room 1 _ := hr.mono (by decide)
  refine ⟨_, pss_cons (ps_if (pt_not (pt_val (pe_call GR hr (by rfl) T.m_is_rule T.F_is_rule.kp T.b_is_rule .nil pass0 (pa_cons (pv 0) pa_nil)))) (pss_one ps_never) pss_nil)
    (pss_one (ps_ret (pe_and (pe_call GD hr3 (by rfl) T.m_is_date T.F_is_date.kp T.b_is_date .nil pass0 (pa_cons (pv 1) pa_nil)) (pe_one (pe_call GI hr1 (by rfl) T.m_includes T.F_includes.kp T.b_includes .nil pass0 (pa_cons (pv 0) (pa_cons (pv 1) pa_nil))))))), ?_⟩
  refine if_notN (K := K) (b := true) 0 (ev_callB (R := (· = [d1])) (eva_c (ev_var (i := 0) rfl (dp_no h1) rfl) eva_n) (fun l e => ⟨d1, e, g1, by rw [ir]⟩)) (Nat.zero_le _) (fun b0 => nomatch b0) (fun _ H1 s1 => ?_)
  dsimp only
  refine ev_retN (K := K) (0 + 0) (· = .bool (hasB d1 d2)) ?_ (Nat.zero_le _) fun H5 v5 d5 s5 hd5 e5 => ?_
  · refine ev_andC (m1 := 0) (m2 := 0) (x := isDate d2) (y := hasIn d1 d2) (ev_callB (R := (· = [d2])) (eva_c (ev_var (i := 1) rfl (dp_no (Df.to h2 s1)) rfl) eva_n) (fun l e => ⟨d2, e, g2, rfl⟩)) (fun id => ?_)
    exact ev_callP (R := (· = [d1, d2])) (eva_c (ev_var (i := 0) rfl (dp_no (Df.to h1 s1)) rfl) (eva_c (ev_var (i := 1) rfl (dp_no (Df.to h2 s1)) rfl) eva_n)) (fun ds e => ⟨_, _, e, ir, id⟩) (fun ds d e hp => hp _ _ e)
  · subst e5
    cases hd5
    exact q H5 (s1.trans s5)
end

section
variable {P : Program} {w : World} {K : PySem.W.Frag} {mg : Str → Option Value} {base : Heap}
theorem ev_callHas {S : Addr → Bool} {a : Option Addr} {σ : L2.St} {H0 : Hp} {tr : TA} {m : Nat} {E : XK} {R : List PyData → Prop} {Pp : PyData → Prop} (h : EvA K S a σ H0 tr m R) (p : ∀ ds, R ds → ∃ d1 d2, ds = [d1, d2] ∧ Good 900000 50 d1 ∧ Good 900000 50 d2 ∧ isRule d1 = true ∧ Pp (.bool (hasB d1 d2))) : Ev K S a σ H0 (tCall (spHas K) [] E tr) m Pp := by
  intro H n Q k r b q
  refine h H n _ k r b fun H1 vs ds k1 r1 hd pd => ?_
  obtain ⟨d1, d2, rfl, g1, g2, ir, pe⟩ := p ds pd
  obtain ⟨x, y, rfl, h1, h2⟩ := DfAll.two hd
  exact ⟨x, y, d1, d2, rfl, Df.bare h1, Df.bare h2, g1, g2, ir, fun H2 s => q H2 _ _ (k1.trans (Keeps.same s)) (r1.same s) (.bl _) pe⟩
end

section
variable {P : Program} {w : World} {K : PySem.W.Frag} {mg : Str → Option Value} {base : Heap}
mutual
theorem lay_of {B : Nat} : ∀ d : PyData, fineB B d = true → d.canLay0 = true
  | .none, _ => rfl
  | .bool _, _ => rfl
  | .int _, _ => rfl
  | .str x, h => by
    show x.cps.all (· < 0x110000) = true
    have h2 : ∀ c ∈ x.cps.toList, c < 128 := tidy_iff.mp h
    rw [← Array.all_toList, List.all_eq_true]
    exact fun c hc => decide_eq_true (Nat.lt_trans (h2 c hc) (by decide))
  | .list xs, h => layAll_of xs h
  | .tuple xs, h => layAll_of xs h
  | .dict _, h => nomatch h
theorem layAll_of {B : Nat} : ∀ ds : List PyData, fineAllB B ds = true → PyData.canLayAll0 ds = true
  | [], _ => rfl
  | x :: xs, h => by
    obtain ⟨h1, h2⟩ := Bool.and_eq_true_iff.mp (show (fineB B x && fineAllB B xs) = true from h)
    show (x.canLay0 && PyData.canLayAll0 xs) = true
    rw [lay_of x h1, layAll_of xs h2]
    rfl
end
theorem shaped_of {B : Nat} {d : PyData} (h : fineB B d = true) (h2 : d.depth ≤ 60) : SeqAt.shaped d = true := by
  show (d.canLay0 && decide (d.depth ≤ 64)) = true
  rw [lay_of d h, decide_eq_true (by omega)]
  rfl
theorem blk_nofree {N : List Str} {sc sc2 scope : Scope} {own : List (Str × Nat)} (h : BlkOk N sc scope own) (nf : ∀ y ∈ scope.names, y.2 ≠ .free) : BlkOk N sc2 scope own := ⟨h.kind, h.uniq, h.ix, fun y hy e => absurd e (nf y hy), h.own⟩
end

section
variable {P : Program} {w : World} {K : PySem.W.Frag} {mg : Str → Option Value} {base : Heap}
/-! #### decrees -/
def isDay : PyData → Bool
  | .int i => decide (0 ≤ i)
  | _ => false
def isS (s : Str) : PyData → Bool
  | .str x => x == s
  | _ => false
theorem eqv_isS (s : Str) (d : PyData) : PyData.eqv d (.str s) = isS s d := by cases d <;> rfl
def ruleRest : List PyData → Bool
  | [r, x] => isRule r && hasB r x
  | _ => false
def jumpRest : List PyData → Bool
  | [x] => isDate x
  | _ => false
def renRest : List PyData → Bool
  | [a, b] => isName a && (isName b && !(PyData.eqv a b))
  | _ => false
def kindB (k : PyData) (rest : List PyData) : Bool := if isS "rule" k = true then ruleRest rest else if isS "jump" k = true then jumpRest rest else if isS "rename" k = true then renRest rest else (isS "restore" k && decide ((rest.length : Int) = 0))
def isDecree : PyData → Bool
  | .tuple (k :: m :: d :: rest) => (isDay m && isDate d) && kindB k rest
  | _ => false
theorem isDecree_len {ds : List PyData} (h : ds.length < 3) : isDecree (.tuple ds) = false := by
  match ds, h with
  | [], _ => rfl
  | [_], _ => rfl
  | [_, _], _ => rfl
theorem two_len {r : List PyData} (h : r.length = 2) : ∃ a b, r = [a, b] := by
  match r, h with
  | [a, b], _ => exact ⟨a, b, rfl⟩
theorem one_len {r : List PyData} (h : r.length = 1) : ∃ a, r = [a] := by
  match r, h with
  | [a], _ => exact ⟨a, rfl⟩
theorem ruleRest_len {r : List PyData} (h : r.length ≠ 2) : ruleRest r = false := by
  match r, h with
  | [], _ => rfl
  | [_], _ => rfl
  | [_, _], h => exact absurd rfl h
  | _ :: _ :: _ :: _, _ => rfl
theorem renRest_len {r : List PyData} (h : r.length ≠ 2) : renRest r = false := by
  match r, h with
  | [], _ => rfl
  | [_], _ => rfl
  | [_, _], h => exact absurd rfl h
  | _ :: _ :: _ :: _, _ => rfl
theorem jumpRest_len {r : List PyData} (h : r.length ≠ 1) : jumpRest r = false := by
  match r, h with
  | [], _ => rfl
  | [_], h => exact absurd rfl h
  | _ :: _ :: _, _ => rfl
theorem ok_is_day (T : Top K mg) : FnOk P w K mg base CX0 2 T.a_is_day T.d_is_day ["thing"] (spB K isDay) := by
  have GI : FnOk P w K mg base CX0 1 T.a_is_int T.d_is_int ["thing"] (spB K isInt) := ok_is_int T
  refine T.F_is_day.ok sc_is_day spB_len (fun cdv A outer s H vs Q E hr h => ?_)
  obtain ⟨v, d, rfl, hd, g, q⟩ := h
  refine ⟨_, pss_one (ps_ret (pe_and (pe_call GI hr (by rfl) T.m_is_int T.F_is_int.kp T.b_is_int .nil pass0 (pa_cons (pv 0) pa_nil))
    (pe_one (pe_cmpR op_ge (pv 0) pe_int (nomark _))))), ?_⟩
  refine ⟨v, rfl, v, d, rfl, hd, g, fun H1 s1 => ⟨_, rfl, ite2 (fun h1 => ?_) (fun h1 => ?_)⟩⟩
  · cases d with
    | int i =>
      cases hd
      exact ⟨.int i, rfl, i, 0, rfl, rfl, q H1 s1⟩
    | none => exact nomatch h1
    | bool b => exact nomatch h1
    | str x => exact nomatch h1
    | list xs => exact nomatch h1
    | tuple xs => exact nomatch h1
    | dict kvs => exact nomatch h1
  · have e : isDay d = false := by
      cases d <;> first | rfl | exact absurd rfl h1
    rw [e] at q
    exact q H1 s1
theorem ok_is_decree (T : Top K mg) : FnOk P w K mg base CX0 7 T.a_is_decree T.d_is_decree ["thing"] (spB K isDecree) := by
  have GN : FnOk P w K mg base CX0 1 T.a_is_name T.d_is_name ["thing"] (spB K isName) := ok_is_name T
  have GY : FnOk P w K mg base CX0 2 T.a_is_day T.d_is_day ["thing"] (spB K isDay) := ok_is_day T
  have GD : FnOk P w K mg base CX0 3 T.a_is_date T.d_is_date ["thing"] (spB K isDate) := ok_is_date T
  have GR : FnOk P w K mg base CX0 5 T.a_is_rule T.d_is_rule ["thing"] (spB K isRule) := ok_is_rule T
  have GH : FnOk P w K mg base CX0 6 T.a_has_date T.d_has_date ["rule", "date"] (spHas K) := ok_has_date T
  refine T.F_is_decree.ok sc_is_decree spB_len (fun cdv A outer s H vs Q E hr h => ?_)
  obtain ⟨v, d, rfl, hd, g, q⟩ := h
  have hr1 : Room 1 _ := hr.mono (by decide)
  have hr2 : Room 2 _ := hr.mono (by decide)
  have hr3 : Room 3 _ := hr.mono (by decide)
  have hr5 : Room 5 _ := hr.mono (by decide)
  refine ⟨_, (pss_cons (ps_if (PW.pt (pw_or (pt_not (pt_val (pe_callB call_isiD (by rfl) T.n_isinstance (by decide +kernel) (pa_cons (pv 0) (pa_cons (pe_bltn (v := .ty "tuple") (by rfl) T.n_tuple (by decide +kernel) rfl) pa_nil))))) (pw_or1 (pt_cmpR op_lt (pe_callB call_len (by rfl) T.n_len PySem.boot_len (pa_cons (pv 0) pa_nil)) pe_int (nomark _))))) (pss_one (ps_ret pe_bl)) pss_nil) (pss_cons (ps_asg (pv 0) (pg_star rfl (pgs_cons (pg_name (i := 1) sc_is_decree.nd rfl (.inl rfl)) (pgs_cons (pg_name (i := 2) sc_is_decree.nd rfl (.inl rfl)) (pgs_cons (pg_name (i := 3) sc_is_decree.nd rfl (.inl rfl)) (pgs_star (pg_name (i := 4) sc_is_decree.nd rfl (.inl rfl)) pgs_nil)))))) (pss_cons (ps_if (PW.pt (pw_or (pt_not (pt_val (pe_call GY hr2 (by rfl) T.m_is_day T.F_is_day.kp T.b_is_day .nil pass0 (pa_cons (pv 2) pa_nil)))) (pw_or1 (pt_not (pt_val (pe_call GD hr3 (by rfl) T.m_is_date T.F_is_date.kp T.b_is_date .nil pass0 (pa_cons (pv 3) pa_nil))))))) (pss_one (ps_ret pe_bl)) pss_nil) (pss_cons (ps_if (pt_cmpR (op_eqD hr.units) (pv 1) pe_str (nomark _)) (pss_one (ps_ret (pe_and (pe_cmpR op_eq (pe_callB call_len_seq (by rfl) T.n_len PySem.boot_len (pa_cons (pv 4) pa_nil)) pe_int (nomark _)) (pe_and (pe_call GR hr5 (by rfl) T.m_is_rule T.F_is_rule.kp T.b_is_rule .nil pass0 (pa_cons (pe_ix ix_list (pv 4) pe_int (fun _ _ => rfl)) pa_nil)) (pe_one (pe_call GH hr (by rfl) T.m_has_date T.F_has_date.kp T.b_has_date .nil pass0 (pa_cons (pe_ix ix_list (pv 4) pe_int (fun _ _ => rfl)) (pa_cons (pe_ix ix_list (pv 4) pe_int (fun _ _ => rfl)) pa_nil)))))))) pss_nil) (pss_cons (ps_if (pt_cmpR (op_eqD hr.units) (pv 1) pe_str (nomark _)) (pss_one (ps_ret (pe_and (pe_cmpR op_eq (pe_callB call_len_seq (by rfl) T.n_len PySem.boot_len (pa_cons (pv 4) pa_nil)) pe_int (nomark _)) (pe_one (pe_call GD hr3 (by rfl) T.m_is_date T.F_is_date.kp T.b_is_date .nil pass0 (pa_cons (pe_ix ix_list (pv 4) pe_int (fun _ _ => rfl)) pa_nil)))))) pss_nil) (pss_cons (ps_if (pt_cmpR (op_eqD hr.units) (pv 1) pe_str (nomark _)) (pss_one (ps_ret (pe_and (pe_cmpR op_eq (pe_callB call_len_seq (by rfl) T.n_len PySem.boot_len (pa_cons (pv 4) pa_nil)) pe_int (nomark _)) (pe_and (pe_call GN hr1 (by rfl) T.m_is_name T.F_is_name.kp T.b_is_name .nil pass0 (pa_cons (pe_ix ix_list (pv 4) pe_int (fun _ _ => rfl)) pa_nil)) (pe_and (pe_call GN hr1 (by rfl) T.m_is_name T.F_is_name.kp T.b_is_name .nil pass0 (pa_cons (pe_ix ix_list (pv 4) pe_int (fun _ _ => rfl)) pa_nil)) (pe_one (pe_cmpR (op_neD hr.units) (pe_ix ix_list (pv 4) pe_int (fun _ _ => rfl)) (pe_ix ix_list (pv 4) pe_int (fun _ _ => rfl)) (nomark _)))))))) pss_nil) (pss_one (ps_ret (pe_and (pe_cmpR (op_eqD hr.units) (pv 1) pe_str (nomark _)) (pe_one (pe_cmpR op_eq (pe_callB call_len_seq (by rfl) T.n_len PySem.boot_len (pa_cons (pv 4) pa_nil)) pe_int (nomark _)))))))))))), ?_⟩
  refine ⟨v, rfl, v, d, "tuple", _, rfl, hd, kit_tuple d g.fin, _, rfl, ?_⟩
  cases d with
  | none => exact iteT (q H (Same.refl H))
  | bool b => exact iteT (q H (Same.refl H))
  | int i => exact iteT (q H (Same.refl H))
  | list xs => exact iteT (q H (Same.refl H))
  | str x => exact iteT (q H (Same.refl H))
  | dict kvs => exact nomatch g.fin
  | tuple ds =>
    obtain ⟨a, vs, rfl, hT, hds⟩ := Df.tup_inv hd
    have el : vs.length = ds.length := DfAll.len hds
    refine iteF ⟨.ref a, rfl, .ref a, vs.length, rfl, .inr ⟨vs, hT, rfl⟩, (vs.length : Int), 3, rfl, rfl, _, rfl, ite2 (fun h1 => ?_) (fun h1 => ?_)⟩
    · have h1' : (vs.length : Int) < 3 := of_decide_eq_true h1
      have e := isDecree_len (ds := ds) (by omega)
      rw [e] at q
      exact q H (Same.refl H)
    have h1' : ¬ (vs.length : Int) < 3 := fun z => h1 (decide_eq_true z)
    obtain ⟨k, ds1, rfl⟩ : ∃ x l, ds = x :: l := by
      cases ds with
      | nil => exact absurd el (by rw [List.length_nil]; omega)
      | cons x l => exact ⟨x, l, rfl⟩
    obtain ⟨mk, ds2, rfl⟩ : ∃ x l, ds1 = x :: l := by
      cases ds1 with
      | nil => exact absurd el (by rw [List.length_cons, List.length_nil]; omega)
      | cons x l => exact ⟨x, l, rfl⟩
    obtain ⟨dt, rest, rfl⟩ : ∃ x l, ds2 = x :: l := by
      cases ds2 with
      | nil => exact absurd el (by rw [List.length_cons, List.length_cons, List.length_nil]; omega)
      | cons x l => exact ⟨x, l, rfl⟩
    obtain ⟨v1, ws, rfl, p1, hds⟩ := DfAll.c hds
    obtain ⟨v2, ws, rfl, p2, hds⟩ := DfAll.c hds
    obtain ⟨v3, ws, rfl, p3, hds⟩ := DfAll.c hds
    have gk := (g.tup_mem (d := k) (by simp)).up (n' := 900000) (k' := 50)
    have gm := (g.tup_mem (d := mk) (by simp)).up (n' := 900000) (k' := 50)
    have gd := (g.tup_mem (d := dt) (by simp)).up (n' := 900000) (k' := 50)
    have gr : ∀ e ∈ rest, Good 900000 50 e := fun e he => (g.tup_mem (d := e) (by simp [he])).up
    have shp : ∀ {e : PyData}, Good 900000 50 e → SeqAt.shaped e = true := fun ge => shaped_of ge.fin (by have := ge.dp; omega)
    have sk := shp gk
    dsimp only [tNext]
    refine ⟨.ref a, rfl, a, _, rfl, hT, by show 3 ≤ ws.length + 1 + 1 + 1; omega, fun D nD => ⟨v1, _, rfl, v2, _, rfl, v3, _, rfl, .ref D, [], rfl, rfl, ?_⟩⟩
    have sD : Same H (upd H D (.lst ws)) := same_new nD
    have hR : Df K (upd H D (.lst ws)) (.ref D) (.list rest) := .lst (SqL.of upd_same) (DfAll.to hds sD)
    have hk := Df.to p1 sD
    have hm := Df.to p2 sD
    have ht := Df.to p3 sD
    show tSeq _ _ _ [some (.ref a), some v1, some v2, some v3, some (.ref D)] (upd H D (.lst ws))
    generalize upd H D (.lst ws) = H1 at sD hR hk hm ht
    refine if_b (evb_or (evb_not (evb_val (ev_callB (R := (· = [mk])) (eva_c (ev_var (i := 2) rfl (dp_no hm) rfl) eva_n) (fun l e => ⟨_, e, gm, rfl⟩)))) (fun _ => evb_not (evb_val (ev_callB (R := (· = [dt])) (eva_c (ev_var (i := 3) rfl (dp_no ht) rfl) eva_n) (fun l e => ⟨_, e, gd, rfl⟩))))) (fun b1 H2 s2 => ?_) (fun b1 H2 s2 => ?_)
    · have e : isDecree (.tuple (k :: mk :: dt :: rest)) = false := by
        show ((isDay mk && isDate dt) && kindB k rest) = false
        revert b1
        cases isDay mk <;> cases isDate dt <;> intro b1 <;> first | rfl | exact nomatch b1
      rw [e] at q
      exact q H2 (sD.trans s2)
    have e : isDecree (.tuple (k :: mk :: dt :: rest)) = kindB k rest := by
      show ((isDay mk && isDate dt) && kindB k rest) = kindB k rest
      revert b1
      cases isDay mk <;> cases isDate dt <;> intro b1 <;> first | rfl | exact nomatch b1
    rw [e] at q
    clear e
    unfold kindB at q
    dsimp only [tNext]
    -- a rule
    refine if_b (b := isS "rule" k) (by rw [← eqv_isS]; exact evb_test (ev_eqD (m1 := 0) (m2 := 0) (ev_var (i := 1) rfl (dp_no (Df.to hk s2)) rfl) (ev_str rfl) sk (by decide +kernel))) (fun b2 H3 s3 => ?_) (fun b2 H3 s3 => ?_)
    · rw [if_pos b2] at q
      refine ev_retN (K := K) (0 + (0 + 0)) (· = .bool (ruleRest rest)) ?_ (Nat.zero_le _) fun H4 v4 d4 s4 hd4 e4 => by subst e4; cases hd4; exact q H4 (sD.trans (s2.trans (s3.trans s4)))
      refine Ev.mono (ev_andC (y := ruleRest rest) (ev_eqIx (m1 := 0) (m2 := 0) (q1 := (· = (rest.length : Int))) (q2 := (· = 2)) (ev_len (eva_c (ev_var (i := 4) rfl (dp_no (Df.to hR (s2.trans s3))) rfl) eva_n) (fun ds e => ⟨rest, .inl e, _, rfl, rfl⟩)) (ev_intE rfl) (fun i j q1 q2 => by rw [q1, q2])) fun hl => ?_) fun d e => ?_
      · obtain ⟨ra, rb, rfl⟩ := two_len (r := rest) (by have := of_decide_eq_true hl; omega)
        refine ev_andC (x := isRule ra) (y := hasB ra rb) (ev_callB (R := (· = [ra])) (eva_c (ev_ixL (m1 := 0) (m2 := 0) (P1 := (· = .list _)) (P2 := (· = .int 0)) (ev_var (i := 4) rfl (dp_no (Df.to hR (s2.trans s3))) rfl) (ev_int rfl) (fun d e q1 q2 => ⟨_, 0, _, q1, q2, rfl, rfl⟩)) eva_n) (fun l e => ⟨_, e, (gr ra (by simp)), rfl⟩)) fun ir => ?_
        exact ev_callHas (R := (· = [ra, rb])) (eva_c (ev_ixL (m1 := 0) (m2 := 0) (P1 := (· = .list _)) (P2 := (· = .int 0)) (ev_var (i := 4) rfl (dp_no (Df.to hR (s2.trans s3))) rfl) (ev_int rfl) (fun d e q1 q2 => ⟨_, 0, _, q1, q2, rfl, rfl⟩)) (eva_c (ev_ixL (m1 := 0) (m2 := 0) (P1 := (· = .list _)) (P2 := (· = .int 1)) (ev_var (i := 4) rfl (dp_no (Df.to hR (s2.trans s3))) rfl) (ev_int rfl) (fun d e q1 q2 => ⟨_, 1, _, q1, q2, rfl, rfl⟩)) eva_n)) (fun l e => ⟨_, _, e, gr ra (by simp), gr rb (by simp), ir, rfl⟩)
      · rw [e]
        by_cases hl : rest.length = 2
        · rw [decide_eq_true (by omega), Bool.true_and]
        · rw [ruleRest_len hl, Bool.and_false]
    have b2' : ¬ isS "rule" k = true := by rw [b2]; exact Bool.false_ne_true
    rw [if_neg b2'] at q
    have s23 := s2.trans s3
    dsimp only [tNext]
    -- a jump
    refine if_b (b := isS "jump" k) (by rw [← eqv_isS]; exact evb_test (ev_eqD (m1 := 0) (m2 := 0) (ev_var (i := 1) rfl (dp_no (Df.to hk s23)) rfl) (ev_str rfl) sk (by decide +kernel))) (fun b3 H4 s4 => ?_) (fun b3 H4 s4 => ?_)
    · rw [if_pos b3] at q
      refine ev_retN (K := K) (0 + 0) (· = .bool (jumpRest rest)) ?_ (Nat.zero_le _) fun H5 v4 d4 s5 hd4 e4 => by subst e4; cases hd4; exact q H5 (sD.trans (s23.trans (s4.trans s5)))
      refine Ev.mono (ev_andC (y := jumpRest rest) (ev_eqIx (m1 := 0) (m2 := 0) (q1 := (· = (rest.length : Int))) (q2 := (· = 1)) (ev_len (eva_c (ev_var (i := 4) rfl (dp_no (Df.to hR (s23.trans s4))) rfl) eva_n) (fun ds e => ⟨rest, .inl e, _, rfl, rfl⟩)) (ev_intE rfl) (fun i j q1 q2 => by rw [q1, q2])) fun hl => ?_) fun d e => ?_
      · obtain ⟨ra, rfl⟩ := one_len (r := rest) (by have := of_decide_eq_true hl; omega)
        exact (ev_callB (R := (· = [ra])) (eva_c (ev_ixL (m1 := 0) (m2 := 0) (P1 := (· = .list _)) (P2 := (· = .int 0)) (ev_var (i := 4) rfl (dp_no (Df.to hR (s23.trans s4))) rfl) (ev_int rfl) (fun d e q1 q2 => ⟨_, 0, _, q1, q2, rfl, rfl⟩)) eva_n) (fun l e => ⟨_, e, (gr ra (by simp)), rfl⟩))
      · rw [e]
        by_cases hl : rest.length = 1
        · rw [decide_eq_true (by omega), Bool.true_and]
        · rw [jumpRest_len hl, Bool.and_false]
    have b3' : ¬ isS "jump" k = true := by rw [b3]; exact Bool.false_ne_true
    rw [if_neg b3'] at q
    have s24 := s23.trans s4
    dsimp only [tNext]
    -- a rename
    refine if_b (b := isS "rename" k) (by rw [← eqv_isS]; exact evb_test (ev_eqD (m1 := 0) (m2 := 0) (ev_var (i := 1) rfl (dp_no (Df.to hk s24)) rfl) (ev_str rfl) sk (by decide +kernel))) (fun b4 H5 s5 => ?_) (fun b4 H5 s5 => ?_)
    · rw [if_pos b4] at q
      refine ev_retN (K := K) (0 + (0 + (0 + 0))) (· = .bool (renRest rest)) ?_ (Nat.zero_le _) fun H6 v4 d4 s6 hd4 e4 => by subst e4; cases hd4; exact q H6 (sD.trans (s24.trans (s5.trans s6)))
      refine Ev.mono (ev_andC (y := renRest rest) (ev_eqIx (m1 := 0) (m2 := 0) (q1 := (· = (rest.length : Int))) (q2 := (· = 2)) (ev_len (eva_c (ev_var (i := 4) rfl (dp_no (Df.to hR (s24.trans s5))) rfl) eva_n) (fun ds e => ⟨rest, .inl e, _, rfl, rfl⟩)) (ev_intE rfl) (fun i j q1 q2 => by rw [q1, q2])) fun hl => ?_) fun d e => ?_
      · obtain ⟨ra, rb, rfl⟩ := two_len (r := rest) (by have := of_decide_eq_true hl; omega)
        refine ev_andC (x := isName ra) (y := isName rb && !(PyData.eqv ra rb)) (ev_callB (R := (· = [ra])) (eva_c (ev_ixL (m1 := 0) (m2 := 0) (P1 := (· = .list _)) (P2 := (· = .int 0)) (ev_var (i := 4) rfl (dp_no (Df.to hR (s24.trans s5))) rfl) (ev_int rfl) (fun d e q1 q2 => ⟨_, 0, _, q1, q2, rfl, rfl⟩)) eva_n) (fun l e => ⟨_, e, (gr ra (by simp)), rfl⟩)) fun _ => ?_
        refine ev_andC (x := isName rb) (y := !(PyData.eqv ra rb)) (ev_callB (R := (· = [rb])) (eva_c (ev_ixL (m1 := 0) (m2 := 0) (P1 := (· = .list _)) (P2 := (· = .int 1)) (ev_var (i := 4) rfl (dp_no (Df.to hR (s24.trans s5))) rfl) (ev_int rfl) (fun d e q1 q2 => ⟨_, 1, _, q1, q2, rfl, rfl⟩)) eva_n) (fun l e => ⟨_, e, (gr rb (by simp)), rfl⟩)) fun _ => ?_
        exact ev_neD (m1 := 0) (m2 := 0) (ev_ixL (m1 := 0) (m2 := 0) (P1 := (· = .list _)) (P2 := (· = .int 0)) (ev_var (i := 4) rfl (dp_no (Df.to hR (s24.trans s5))) rfl) (ev_int rfl) (fun d e q1 q2 => ⟨_, 0, _, q1, q2, rfl, rfl⟩)) (ev_ixL (m1 := 0) (m2 := 0) (P1 := (· = .list _)) (P2 := (· = .int 1)) (ev_var (i := 4) rfl (dp_no (Df.to hR (s24.trans s5))) rfl) (ev_int rfl) (fun d e q1 q2 => ⟨_, 1, _, q1, q2, rfl, rfl⟩)) (shp (gr ra (by simp))) (shp (gr rb (by simp)))
      · rw [e]
        by_cases hl : rest.length = 2
        · rw [decide_eq_true (by omega), Bool.true_and]
        · rw [renRest_len hl, Bool.and_false]
    have b4' : ¬ isS "rename" k = true := by rw [b4]; exact Bool.false_ne_true
    rw [if_neg b4'] at q
    have s25 := s24.trans s5
    dsimp only [tNext]
    -- a restore
    refine ev_retN (K := K) (0 + 0) (· = .bool (isS "restore" k && decide ((rest.length : Int) = 0))) ?_ (Nat.zero_le _) fun H6 v4 d4 s6 hd4 e4 => by subst e4; cases hd4; exact q H6 (sD.trans (s25.trans s6))
    exact ev_andC (x := isS "restore" k) (y := decide ((rest.length : Int) = 0)) (by rw [← eqv_isS]; exact (ev_eqD (m1 := 0) (m2 := 0) (ev_var (i := 1) rfl (dp_no (Df.to hk s25)) rfl) (ev_str rfl) sk (by decide +kernel))) (fun _ => (ev_eqIx (m1 := 0) (m2 := 0) (q1 := (· = (rest.length : Int))) (q2 := (· = 0)) (ev_len (eva_c (ev_var (i := 4) rfl (dp_no (Df.to hR s25)) rfl) eva_n) (fun ds e => ⟨rest, .inl e, _, rfl, rfl⟩)) (ev_intE rfl) (fun i j q1 q2 => by rw [q1, q2])))
end

section
variable {P : Program} {w : World} {K : PySem.W.Frag} {mg : Str → Option Value} {base : Heap}
/-! #### a date of a rule, by a dict -/
def dayOf : PyData → Int
  | .tuple [_, .int k] => k
  | _ => 0
def kvsOf (ms : List PyData) : List (Key × V) := ms.map fun m => (.inr (nameIn m), .int (dayOf m))
theorem pairs_ms {H : Hp} : ∀ {ms : List PyData} {vs : List V}, DfAll K H vs ms → (∀ m ∈ ms, isMonth m = true) → ∃ ps : List Addr, vs = ps.map V.ref ∧ Paired (fun p kv => SqT K H p [kV kv.1, kv.2]) ps (kvsOf ms)
  | [], vs, h, _ => by
    have e := DfAll.n h
    subst e
    exact ⟨[], rfl, .nil⟩
  | m :: ms, vs, h, hm => by
    obtain ⟨v, r, rfl, h1, h2⟩ := DfAll.c h
    obtain ⟨ps, rfl, hp⟩ := pairs_ms h2 fun x hx => hm x (List.mem_cons_of_mem _ hx)
    obtain ⟨s, i, rfl, _⟩ := isMonth_inv (hm m List.mem_cons_self)
    obtain ⟨a, us, rfl, hT, hu⟩ := Df.tup_inv h1
    obtain ⟨x, y, rfl, hx, hy⟩ := DfAll.two hu
    cases hx
    cases hy
    exact ⟨a :: ps, rfl, .cons hT hp⟩
theorem any_out {ms : List PyData} {s : Str} {i : Int} (hm : ∀ m ∈ ms, isMonth m = true) (h : s ∉ ms.map nameIn) : ms.any (fitB s i) = false := by
  refine List.any_eq_false.mpr fun m hx => ?_
  obtain ⟨nm, k, rfl, _⟩ := isMonth_inv (hm m hx)
  have : nm ≠ s := fun e => h (List.mem_map.mpr ⟨_, hx, e⟩)
  show ¬ (decide (nm = s) && decide (i ≤ k)) = true
  rw [decide_eq_false this]
  exact Bool.false_ne_true
theorem val_ms {s : Str} {i : Int} (hi : 1 ≤ i) : ∀ {ms : List PyData}, (∀ m ∈ ms, isMonth m = true) → (ms.map nameIn).Nodup → ∃ k : Int, (valV (kvsOf ms) (.inr s)).getD (.int 0) = .int k ∧ decide (i ≤ k) = ms.any (fitB s i)
  | [], _, _ => ⟨0, rfl, decide_eq_false (by omega)⟩
  | m :: ms, hm, hn => by
    obtain ⟨h1, h2⟩ := List.nodup_cons.mp (show (nameIn m :: ms.map nameIn).Nodup from hn)
    obtain ⟨k, ek, e⟩ := val_ms hi (fun x hx => hm x (List.mem_cons_of_mem _ hx)) h2
    obtain ⟨nm, d, rfl, _⟩ := isMonth_inv (hm m List.mem_cons_self)
    by_cases h : nm = s
    · refine ⟨d, ?_, ?_⟩
      · show (valV ((Sum.inr nm, V.int d) :: kvsOf ms) (.inr s)).getD _ = _
        rw [valV_pos (congrArg Sum.inr h)]
        rfl
      · rw [List.any_cons, any_out (fun x hx => hm x (List.mem_cons_of_mem _ hx)) (show s ∉ ms.map nameIn from h ▸ h1), Bool.or_false]
        show _ = (decide (nm = s) && decide (i ≤ d))
        rw [decide_eq_true h, Bool.true_and]
    · refine ⟨k, ?_, ?_⟩
      · show (valV ((Sum.inr nm, V.int d) :: kvsOf ms) (.inr s)).getD _ = _
        rw [valV_neg (fun z => h (Sum.inr.inj z))]
        exact ek
      · rw [List.any_cons, e]
        show _ = ((decide (nm = s) && decide (i ≤ d)) || _)
        rw [decide_eq_false h, Bool.false_and, Bool.false_or]
theorem keys_ms (ms : List PyData) (hn : (ms.map nameIn).Nodup) : ((kvsOf ms).map (·.1)).Nodup := by
  have e : (kvsOf ms).map (·.1) = (ms.map nameIn).map Sum.inr := by
    show List.map _ (List.map _ ms) = _
    rw [List.map_map, List.map_map]
    rfl
  rw [e]
  exact List.Pairwise.map _ (fun a b h z => h (Sum.inr.inj z)) hn
theorem ev_setCB {σ : L2.St} {H : Hp} {ta : TA} {r : List V → Hp → VK → Prop} {D : Ends} {u : TS} {i : Nat} (m : Nat) (R : List PyData → Prop) (h : EvA K noS none σ H ta m R) (hm : m ≤ most) (q : ∀ H' vs ds, Same H H' → DfAll K H' vs ds → R ds → r vs H' fun v H2 => u D (σ.set i (some v)) H2) : tSeq (tAsg (tCB r ta) (gName i)) u D σ H :=
  h H 0 _ Keeps.rfl rn_no (by rw [Nat.zero_add]; exact hm) fun H' vs ds k _ hd p => q H' vs ds (keeps_no k) (by rw [hid_no] at hd; exact hd) p
theorem ok_lhas (T : Top K mg) : FnOk P w K mg base CX0 1 T.a__law_has T.d__law_has ["_law_plan", "_law_when"] (spP K IncPre IncPost) := by
  refine T.F__law_has.ok sc__law_has (spP_len (j := 2) fun ds ⟨_, _, e, _⟩ => by rw [e]; rfl) (fun cdv A outer s H vs Q E hr h => ?_)
  obtain ⟨ds, hds, ⟨d1, d2, rfl, ir, id⟩, q⟩ := h
  obtain ⟨v1, v2, rfl, h1, h2⟩ := DfAll.two hds
  obtain ⟨y0, s0', i0, rfl, _, i1, _⟩ := isDate_inv id
  obtain ⟨ys, rfl, l1, l20, hys⟩ := isRule_inv ir
  obtain ⟨ms, eat, eyr, hyr⟩ := year_at y0 l1 hys
  obtain ⟨ms', ems, m1, m13, hms, hnd⟩ := isYear_inv hyr
  cases ems
  refine ⟨_, (pss_cons (ps_set (i := 2) sc__law_has.nd rfl (.inl rfl) (pe_callTy (call_dictPT (by rfl) (by rfl)) (by rfl) T.n_dict (by decide +kernel) (pa_cons (pe_ix ix_tup (pv 0) (pe_op op_mod (pe_ix ix_tup (pv 1) pe_int (fun _ _ => rfl)) (pe_callB call_len_seq (by rfl) T.n_len PySem.boot_len (pa_cons (pv 0) pa_nil))) (fun _ _ => rfl)) pa_nil)))
    (pss_one (ps_ret (pe_cmpR op_ge (pe_dget2 (Nat.lt_of_le_of_lt (Nat.add_le_add_left (by decide : 1 ≤ 64) _) hr.units) (pv 2) (pe_ix ix_tup (pv 1) pe_int (fun _ _ => rfl)) pe_int ⟨rfl, by rfl, rfl, by rfl⟩) (pe_ix ix_tup (pv 1) pe_int (fun _ _ => rfl)) (by rfl))))), ?_⟩
  refine ev_setCB (K := K) 0 (· = [.tuple ms]) ?_ (by decide) fun H1 vs ds s0 hd e => ?_
  · refine eva_c (ev_ixT (m1 := 0) (m2 := 0) (P1 := (· = .tuple ys)) (P2 := (· = .int (y0 % (ys.length : Int)))) (ev_var (i := 0) rfl (dp_no h1) rfl) ?_ (fun d e q1 q2 => ⟨ys, _, .tuple ms, q1, q2, eat, rfl⟩)) eva_n
    exact ev_intsC (m1 := 0) (m2 := 0) (p1 := (· = y0)) (p2 := (· = (ys.length : Int))) (ev_ixT (m1 := 0) (m2 := 0) (P1 := (· = .tuple [.int y0, .str s0', .int i0])) (P2 := (· = .int 0)) (ev_var (i := 1) rfl (dp_no h2) rfl) (ev_int rfl) (fun d e q1 q2 => ⟨_, 0, _, q1, q2, rfl, _, rfl, rfl⟩)) (ev_len (eva_c (ev_var (i := 0) rfl (dp_no h1) rfl) eva_n) (fun ds e => ⟨ys, .inr e, _, rfl, rfl⟩)) (fun a b q1 q2 => ⟨by rw [q2]; omega, by rw [q1, q2]⟩)
  subst e
  obtain ⟨v, r, rfl, hv, hr0⟩ := DfAll.c hd
  have e0 := DfAll.n hr0
  subst e0
  obtain ⟨a, us, rfl, hT, hu⟩ := Df.tupF_inv hv
  obtain ⟨ps, rfl, hp⟩ := pairs_ms hu hms
  refine ⟨a, ps, kvsOf ms, rfl, hT, hp, fun p np => ?_⟩
  have s1 : Same H (upd H1 p (.dK (mergeK [] (kvsOf ms)))) := s0.trans (same_new np)
  have ep : (upd H1 p (.dK (mergeK [] (kvsOf ms)))) p = some (.dK (mergeK [] (kvsOf ms))) := upd_same
  obtain ⟨b, us, rfl, hT2, hu2⟩ := Df.tup_inv (Df.to h2 s1)
  obtain ⟨x1, x2, x3, rfl, g1, g2, g3⟩ := DfAll.three hu2
  cases g1
  cases g2
  cases g3
  obtain ⟨k, ek, ed⟩ := val_ms (s := s0') i1 hms hnd
  have ev : valV (mergeK [] (kvsOf ms)) (.inr s0') = valV (kvsOf ms) (.inr s0') := by
    rw [valV_merge (keys_ms ms hnd), valV_nil, Option.or_none]
  have e6 : hasIn (.tuple ys) (.tuple [.int y0, .str s0', .int i0]) = ms.any (fitB s0' i0) := by
    show (yearIn ys y0).any _ = _
    rw [eyr]
  dsimp only [tNext]
  refine ⟨.ref p, rfl, p, rfl, .inl ⟨_, .inl ep⟩, .ref b, rfl, b, _, 1, .str s0', rfl, rfl, hT2, rfl, valV (kvsOf ms) (.inr s0'), by rw [← ev]; exact DGet.k (k := .inr s0') ep, ?_⟩
  rw [ek]
  refine ⟨.ref b, rfl, b, _, 2, .int i0, rfl, rfl, hT2, rfl, k, i0, rfl, rfl, ?_⟩
  exact q _ _ (.bool (hasIn (.tuple ys) (.tuple [.int y0, .str s0', .int i0]))) s1 (by rw [e6, ← ed]; exact .bl _) fun d1 d2 e => by cases e; rfl
end

section
variable {P : Program} {w : World} {K : PySem.W.Frag} {mg : Str → Option Value} {base : Heap}
/-! #### the law's own test of decrees -/
theorem ev_orC {σ : L2.St} {H0 : Hp} {ta tb : TE} {m1 m2 : Nat} {S : Addr → Bool} {a : Option Addr} {x y : Bool} (h1 : Ev K S a σ H0 ta m1 (· = .bool x)) (h2 : x = false → Ev K S a σ H0 tb m2 (· = .bool y)) : Ev K S a σ H0 (tOrV ta tb) (m1 + m2) (· = .bool (x || y)) := by
  intro H n Q k r b q
  refine h1 H n _ k r (by omega) fun H1 v d k1 r1 hd e => ?_
  subst e
  cases hd
  cases x with
  | false =>
    refine ⟨false, rfl, iteF ?_⟩
    refine h2 rfl H1 (n + m1) _ (k.trans (keeps_one r.sa k1)) r1 (by omega) fun H2 v d k2 r2 hd e => ?_
    subst e
    exact q H2 v _ (k1.trans k2) (by rw [← Nat.add_assoc]; exact r2) hd rfl
  | true => exact ⟨true, rfl, iteT (q H1 _ _ k1 (r1.up (by omega)) (.bl true) rfl)⟩
def kinds : List Str := ["rule", "jump", "rename", "restore"]
def needLen (x : Str) : Nat := if x = "rule" then 5 else if x = "jump" then 4 else if x = "rename" then 5 else 3
theorem isS_str (s x : Str) : isS s (.str x) = decide (x = s) := by
  show (x == s) = _
  rw [Bool.eq_iff_iff]
  simp
theorem kinds_of {x : Str} (h : x ∈ kinds) : x = "rule" ∨ x = "jump" ∨ x = "rename" ∨ x = "restore" := by
  simpa [kinds] using h
theorem isDecree_no {k mk dt : PyData} {rest : List PyData} (h : kindB k rest = false) : isDecree (.tuple (k :: mk :: dt :: rest)) = false := by
  show ((isDay mk && isDate dt) && kindB k rest) = false
  rw [h, Bool.and_false]
theorem kindB_nostr {k : PyData} {rest : List PyData} (h : isKstr k = false) : kindB k rest = false := by
  cases k <;> first | rfl | exact nomatch h
theorem kindB_out {x : Str} {rest : List PyData} (h : x ∉ kinds) : kindB (.str x) rest = false := by
  unfold kindB
  have n1 : x ≠ "rule" := fun e => h (by simp [kinds, e])
  have n2 : x ≠ "jump" := fun e => h (by simp [kinds, e])
  have n3 : x ≠ "rename" := fun e => h (by simp [kinds, e])
  have n4 : x ≠ "restore" := fun e => h (by simp [kinds, e])
  rw [isS_str, isS_str, isS_str, isS_str, decide_eq_false n1, decide_eq_false n2, decide_eq_false n3, decide_eq_false n4]
  rfl
theorem kindB_rule {rest : List PyData} : kindB (.str "rule") rest = ruleRest rest := rfl
theorem kindB_jump {rest : List PyData} : kindB (.str "jump") rest = jumpRest rest := by
  unfold kindB
  rw [isS_str, isS_str, decide_eq_false (by decide +kernel), decide_eq_true rfl]
  rfl
theorem kindB_rename {rest : List PyData} : kindB (.str "rename") rest = renRest rest := by
  unfold kindB
  rw [isS_str, isS_str, isS_str, decide_eq_false (by decide +kernel), decide_eq_false (by decide +kernel), decide_eq_true rfl]
  rfl
theorem kindB_restore {rest : List PyData} : kindB (.str "restore") rest = decide ((rest.length : Int) = 0) := by
  unfold kindB
  rw [isS_str, isS_str, isS_str, isS_str, decide_eq_false (by decide +kernel), decide_eq_false (by decide +kernel), decide_eq_false (by decide +kernel), decide_eq_true rfl]
  exact Bool.true_and _
theorem need_rule : needLen "rule" = 5 := by decide +kernel
theorem need_jump : needLen "jump" = 4 := by decide +kernel
theorem need_rename : needLen "rename" = 5 := by decide +kernel
theorem need_restore : needLen "restore" = 3 := by decide +kernel
theorem kindB_len {x : Str} {rest : List PyData} (h : x ∈ kinds) (hl : rest.length + 3 ≠ needLen x) : kindB (.str x) rest = false := by
  rcases kinds_of h with rfl | rfl | rfl | rfl
  · rw [need_rule] at hl
    rw [kindB_rule, ruleRest_len (by omega)]
  · rw [need_jump] at hl
    rw [kindB_jump, jumpRest_len (by omega)]
  · rw [need_rename] at hl
    rw [kindB_rename, renRest_len (by omega)]
  · rw [need_restore] at hl
    rw [kindB_restore, decide_eq_false (by omega)]
def needs : List (Key × V) := [(.inr "rule", .int 5), (.inr "jump", .int 4), (.inr "rename", .int 5), (.inr "restore", .int 3)]
theorem needs_at {x : Str} (h : x ∈ kinds) : valV (mergeK [] needs) (.inr x) = some (.int (needLen x)) := by
  rw [valV_merge (by decide +kernel), valV_nil, Option.or_none]
  rcases kinds_of h with rfl | rfl | rfl | rfl
  · rw [need_rule]
    exact valV_pos rfl
  · rw [need_jump]
    exact (valV_neg (by decide +kernel)).trans (valV_pos rfl)
  · rw [need_rename]
    exact (valV_neg (by decide +kernel)).trans ((valV_neg (by decide +kernel)).trans (valV_pos rfl))
  · rw [need_restore]
    exact (valV_neg (by decide +kernel)).trans ((valV_neg (by decide +kernel)).trans ((valV_neg (by decide +kernel)).trans (valV_pos rfl)))
theorem in_kinds (x : Str) : inV (.str x) [.str "rule", .str "jump", .str "rename", .str "restore"] = decide (x ∈ kinds) := by
  rw [Bool.eq_iff_iff]
  show (List.any _ fun y => eqV y (.str x)) = true ↔ _
  simp only [List.any_cons, List.any_nil, eqV, Bool.or_false, Bool.or_eq_true, decide_eq_true_eq, beq_iff_eq]
  unfold kinds
  simp only [List.mem_cons, List.not_mem_nil, or_false]
  constructor
  · rintro (h | h | h | h)
    · exact .inl h.symm
    · exact .inr (.inl h.symm)
    · exact .inr (.inr (.inl h.symm))
    · exact .inr (.inr (.inr h.symm))
  · rintro (h | h | h | h)
    · exact .inl h.symm
    · exact .inr (.inl h.symm)
    · exact .inr (.inr (.inl h.symm))
    · exact .inr (.inr (.inr h.symm))
theorem ok_ldecree (T : Top K mg) : FnOk P w K mg base CX0 5 T.a__law_is_decree T.d__law_is_decree ["_law_value"] (spB K isDecree) := by
  have GI : FnOk P w K mg base CX0 1 T.a__law_whole T.d__law_whole ["_law_value"] (spB K isInt) := ok_whole T
  have GN : FnOk P w K mg base CX0 1 T.a__law_is_name T.d__law_is_name ["_law_value"] (spB K isName) := ok_lname T
  have GD : FnOk P w K mg base CX0 2 T.a__law_is_date T.d__law_is_date ["_law_value"] (spB K isDate) := ok_ldate T
  have GR : FnOk P w K mg base CX0 4 T.a__law_is_rule T.d__law_is_rule ["_law_value"] (spB K isRule) := ok_lrule T
  have GH : FnOk P w K mg base CX0 1 T.a__law_has T.d__law_has ["_law_plan", "_law_when"] (spP K IncPre IncPost) := ok_lhas T
  refine T.F__law_is_decree.ok sc__law_is_decree spB_len (fun cdv A outer s H vs Q E hr h => ?_)
  obtain ⟨v, d, rfl, hd, g, q⟩ := h
  have hr1 : Room 1 _ := hr.mono (by decide)
  have hr2 : Room 2 _ := hr.mono (by decide)
  refine ⟨_, (pss_cons (ps_if (PW.pt (pw_or (pt_not (pt_val (pe_callB call_isiD (by rfl) T.n_isinstance (by decide +kernel) (pa_cons (pv 0) (pa_cons (pe_bltn (v := .ty "tuple") (by rfl) T.n_tuple (by decide +kernel) rfl) pa_nil))))) (pw_or (pt_cmpR op_lt (pe_callB call_len (by rfl) T.n_len PySem.boot_len (pa_cons (pv 0) pa_nil)) pe_int (by rfl)) (pw_or1 (pt_not (pt_val (pe_callB call_isiD (by rfl) T.n_isinstance (by decide +kernel) (pa_cons (pe_ix ix_tup (pv 0) pe_int (fun _ _ => rfl)) (pa_cons (pe_bltn (v := .ty "str") (by rfl) T.n_str (by decide +kernel) rfl) pa_nil))))))))) (pss_one (ps_ret pe_bl)) pss_nil)
    (pss_cons (ps_if (pt_cmpR op_notIn_seq (pe_ix ix_tup (pv 0) pe_int (fun _ _ => rfl)) (pe_tupF (pa_cons pe_str (pa_cons pe_str (pa_cons pe_str (pa_cons pe_str pa_nil))))) (by rfl)) (pss_one (ps_ret pe_bl)) pss_nil)
    (pss_cons (ps_if (pt_cmpR op_ne (pe_callB call_len (by rfl) T.n_len PySem.boot_len (pa_cons (pv 0) pa_nil)) (pe_dget (Nat.lt_of_le_of_lt (Nat.add_le_add_left (by decide : 1 ≤ 64) _) hr.units) (pe_disp (pps_cons pe_str pe_int (pps_cons pe_str pe_int (pps_cons pe_str pe_int (pps_cons pe_str pe_int pps_nil)))) rfl rfl (by decide) (by decide)) (pe_ix ix_tup (pv 0) pe_int (fun _ _ => rfl)) (fun _ _ => rfl)) (by rfl)) (pss_one (ps_ret pe_bl)) pss_nil)
    (pss_cons (ps_if (PW.pt (pw_or (pt_not (pt_val (pe_call GI hr1 (by rfl) T.m__law_whole T.F__law_whole.kp T.b__law_whole .nil pass0 (pa_cons (pe_ix ix_tup (pv 0) pe_int (fun _ _ => rfl)) pa_nil)))) (pw_or (pt_cmpR op_lt (pe_ix ix_tup (pv 0) pe_int (fun _ _ => rfl)) pe_int (by rfl)) (pw_or1 (pt_not (pt_val (pe_call GD hr2 (by rfl) T.m__law_is_date T.F__law_is_date.kp T.b__law_is_date .nil pass0 (pa_cons (pe_ix ix_tup (pv 0) pe_int (fun _ _ => rfl)) pa_nil)))))))) (pss_one (ps_ret pe_bl)) pss_nil)
    (pss_cons (ps_if (pt_cmpR op_eq (pe_ix ix_tup (pv 0) pe_int (fun _ _ => rfl)) pe_str (by rfl)) (pss_one (ps_ret (pe_and (pe_call GR hr (by rfl) T.m__law_is_rule T.F__law_is_rule.kp T.b__law_is_rule .nil pass0 (pa_cons (pe_ix ix_tup (pv 0) pe_int (fun _ _ => rfl)) pa_nil)) (pe_and (pe_call GD hr2 (by rfl) T.m__law_is_date T.F__law_is_date.kp T.b__law_is_date .nil pass0 (pa_cons (pe_ix ix_tup (pv 0) pe_int (fun _ _ => rfl)) pa_nil)) (pe_one (pe_call GH hr1 (by rfl) T.m__law_has T.F__law_has.kp T.b__law_has .nil pass0 (pa_cons (pe_ix ix_tup (pv 0) pe_int (fun _ _ => rfl)) (pa_cons (pe_ix ix_tup (pv 0) pe_int (fun _ _ => rfl)) pa_nil)))))))) pss_nil)
    (pss_cons (ps_if (pt_cmpR op_eq (pe_ix ix_tup (pv 0) pe_int (fun _ _ => rfl)) pe_str (by rfl)) (pss_one (ps_ret (pe_and (pe_call GN hr1 (by rfl) T.m__law_is_name T.F__law_is_name.kp T.b__law_is_name .nil pass0 (pa_cons (pe_ix ix_tup (pv 0) pe_int (fun _ _ => rfl)) pa_nil)) (pe_and (pe_call GN hr1 (by rfl) T.m__law_is_name T.F__law_is_name.kp T.b__law_is_name .nil pass0 (pa_cons (pe_ix ix_tup (pv 0) pe_int (fun _ _ => rfl)) pa_nil)) (pe_one (pe_cmpR (op_neD hr.units) (pe_ix ix_tup (pv 0) pe_int (fun _ _ => rfl)) (pe_ix ix_tup (pv 0) pe_int (fun _ _ => rfl)) (by rfl))))))) pss_nil)
    (pss_one (ps_ret (pe_or (pe_cmpR op_eq (pe_ix ix_tup (pv 0) pe_int (fun _ _ => rfl)) pe_str (by rfl)) (pe_one (pe_call GD hr2 (by rfl) T.m__law_is_date T.F__law_is_date.kp T.b__law_is_date .nil pass0 (pa_cons (pe_ix ix_tup (pv 0) pe_int (fun _ _ => rfl)) pa_nil)))))))))))), ?_⟩
  refine ⟨v, rfl, v, d, "tuple", _, rfl, hd, kit_tuple d g.fin, _, rfl, ?_⟩
  cases d with
  | none => exact iteT (q H (Same.refl H))
  | bool b => exact iteT (q H (Same.refl H))
  | int i => exact iteT (q H (Same.refl H))
  | list xs => exact iteT (q H (Same.refl H))
  | str x => exact iteT (q H (Same.refl H))
  | dict kvs => exact nomatch g.fin
  | tuple ds =>
    obtain ⟨a, vs, rfl, hT, hds⟩ := Df.tup_inv hd
    have el : vs.length = ds.length := DfAll.len hds
    refine iteF ⟨.ref a, rfl, .ref a, vs.length, rfl, .inr ⟨vs, hT, rfl⟩, (vs.length : Int), 3, rfl, rfl, _, rfl, ite2 (fun h1 => ?_) (fun h1 => ?_)⟩
    · have h1' : (vs.length : Int) < 3 := of_decide_eq_true h1
      have e := isDecree_len (ds := ds) (by omega)
      rw [e] at q
      exact q H (Same.refl H)
    have h1' : ¬ (vs.length : Int) < 3 := fun z => h1 (decide_eq_true z)
    obtain ⟨k, ds1, rfl⟩ : ∃ x l, ds = x :: l := by
      cases ds with
      | nil => exact absurd el (by rw [List.length_nil]; omega)
      | cons x l => exact ⟨x, l, rfl⟩
    obtain ⟨mk, ds2, rfl⟩ : ∃ x l, ds1 = x :: l := by
      cases ds1 with
      | nil => exact absurd el (by rw [List.length_cons, List.length_nil]; omega)
      | cons x l => exact ⟨x, l, rfl⟩
    obtain ⟨dt, rest, rfl⟩ : ∃ x l, ds2 = x :: l := by
      cases ds2 with
      | nil => exact absurd el (by rw [List.length_cons, List.length_cons, List.length_nil]; omega)
      | cons x l => exact ⟨x, l, rfl⟩
    have gk : Good 900000 50 k := (g.tup_mem (d := k) (by simp)).up
    have gm : Good 900000 50 mk := (g.tup_mem (d := mk) (by simp)).up
    have gd : Good 900000 50 dt := (g.tup_mem (d := dt) (by simp)).up
    have gr : ∀ e ∈ rest, Good 900000 50 e := fun e he => (g.tup_mem (d := e) (by simp [he])).up
    have shp : ∀ {e : PyData}, Good 900000 50 e → SeqAt.shaped e = true := fun ge => shaped_of ge.fin (by have := ge.dp; omega)
    obtain ⟨vk, vr, rfl, hk, hvr⟩ := DfAll.c hds
    have el' : (vk :: vr).length = rest.length + 3 := el
    refine ⟨.ref a, rfl, a, _, 0, vk, rfl, rfl, hT, atI_nat (j := 0) rfl, vk, k, "str", _, rfl, hk, kit_str k gk.fin, _, rfl, ite2 (fun h2 => ?_) (fun h2 => ?_)⟩
    · rw [isDecree_no (kindB_nostr (by revert h2; cases isKstr k <;> intro h2 <;> first | rfl | exact nomatch h2))] at q
      exact q H (Same.refl H)
    cases k with
    | none => exact absurd rfl h2
    | bool b => exact absurd rfl h2
    | int i => exact absurd rfl h2
    | list xs => exact absurd rfl h2
    | tuple xs => exact absurd rfl h2
    | dict kvs => exact absurd rfl h2
    | str x =>
      cases hk
      clear h2
      dsimp only [tNext]
      refine ⟨.ref a, rfl, a, _, 0, .str x, rfl, rfl, hT, atI_nat (j := 0) rfl, Nat.le_trans (by decide) line20, fun p o np ho => ?_⟩
      have s1 : Same H (upd H p (.frz o (.tup [.str "rule", .str "jump", .str "rename", .str "restore"]))) := same_new np
      generalize hH1 : upd H p (.frz o (.tup [.str "rule", .str "jump", .str "rename", .str "restore"])) = H1 at s1 ⊢
      refine ⟨p, [.str "rule", .str "jump", .str "rename", .str "restore"], rfl, .inr (.inl (.inr ⟨o, by rw [← hH1]; exact upd_same⟩)), rfl, rfl, _, rfl, ?_⟩
      rw [in_kinds]
      refine ite2 (fun h2 => ?_) (fun h2 => ?_)
      · have hx : x ∉ kinds := fun z => by
          rw [decide_eq_true z] at h2
          exact nomatch h2
        rw [isDecree_no (kindB_out hx)] at q
        exact q H1 s1
      have hx : x ∈ kinds := by
        by_cases z : x ∈ kinds
        · exact z
        · exact absurd (by rw [decide_eq_false z]; rfl) h2
      dsimp only [tNext]
      refine ⟨.ref a, rfl, .ref a, _, rfl, .inr ⟨_, seqT_mono s1 hT, rfl⟩, fun p2 np2 => ?_⟩
      refine ⟨upd_same, needs, rfl, by decide, ?_⟩
      have s2 : Same H (upd (upd H1 p2 (.dK [])) p2 (.dK (mergeK [] needs))) := fun b z e => by
        have hb : b ≠ p2 := fun eb => by
          rw [eb] at e
          have := s1 p2 z e
          rw [np2] at this
          cases this
        rw [upd_ne hb, upd_ne hb]
        exact s1 b z e
      have e2 : (upd (upd H1 p2 (.dK [])) p2 (.dK (mergeK [] needs))) p2 = some (.dK (mergeK [] needs)) := upd_same
      generalize upd (upd H1 p2 (.dK [])) p2 (.dK (mergeK [] needs)) = H2 at s2 e2 ⊢
      refine ⟨.ref a, rfl, a, _, 0, .str x, rfl, rfl, seqT_mono s2 hT, atI_nat (j := 0) rfl, p2, .int (needLen x), rfl, by rw [← needs_at hx]; exact DGet.k (k := .inr x) e2, rfl, _, rfl, ite2 (fun h3 => ?_) (fun h3 => ?_)⟩
      · have h3' := ne_int.mp h3
        rw [isDecree_no (kindB_len hx (by omega))] at q
        exact q H2 s2
      have h3' : rest.length + 3 = needLen x := by
        have : ¬ (((.str x :: vr : List V).length : Int) ≠ (needLen x : Int)) := fun z => h3 (ne_int.mpr z)
        omega
      dsimp only [tNext]
      -- the day, the date
      have hdd : ∀ {H' : Hp}, Same H H' → Df K H' (.ref a) (.tuple (.str x :: mk :: dt :: rest)) := fun s => Df.to hd s
      refine if_b (b := !isInt mk || ((!isDay mk) || !isDate dt)) (evb_or (evb_not (evb_val (ev_callB (R := (· = [mk])) (eva_c (ev_ixT (m1 := 0) (m2 := 0) (P1 := (· = .tuple (.str x :: mk :: dt :: rest))) (P2 := (· = .int 1)) (ev_var (i := 0) rfl (dp_no (Df.to hd s2)) rfl) (ev_int rfl) (fun d e q1 q2 => ⟨_, 1, mk, q1, q2, atI_nat (j := 1) rfl, rfl⟩)) eva_n) (fun l e => ⟨_, e, gm, rfl⟩)))) fun hb => evb_or (evb_test (K := K) (m := 0 + 0) ?_) fun _ => evb_not (evb_val (ev_callB (R := (· = [dt])) (eva_c (ev_ixT (m1 := 0) (m2 := 0) (P1 := (· = .tuple (.str x :: mk :: dt :: rest))) (P2 := (· = .int 2)) (ev_var (i := 0) rfl (dp_no (Df.to hd s2)) rfl) (ev_int rfl) (fun d e q1 q2 => ⟨_, 2, dt, q1, q2, atI_nat (j := 2) rfl, rfl⟩)) eva_n) (fun l e => ⟨_, e, gd, rfl⟩)))) (fun b1 H3 s3 => ?_) (fun b1 H3 s3 => ?_)
      · have hi : isInt mk = true := by revert hb; cases isInt mk <;> intro hb <;> first | rfl | exact nomatch hb
        cases mk with
        | int i => exact ev_ltI (m1 := 0) (m2 := 0) (x := i) (y := 0) (ev_ixT (m1 := 0) (m2 := 0) (P1 := (· = .tuple (.str x :: .int i :: dt :: rest))) (P2 := (· = .int 1)) (ev_var (i := 0) rfl (dp_no (Df.to hd s2)) rfl) (ev_int rfl) (fun d e q1 q2 => ⟨_, 1, .int i, q1, q2, atI_nat (j := 1) rfl, rfl⟩)) (ev_int rfl) (by
            show PyData.bool _ = PyData.bool (!decide (0 ≤ i))
            congr 1
            rw [Bool.eq_iff_iff]
            simp)
        | none => exact nomatch hi
        | bool b => exact nomatch hi
        | str y => exact nomatch hi
        | list ys => exact nomatch hi
        | tuple ys => exact nomatch hi
        | dict kvs => exact nomatch hi
      · have e : isDecree (.tuple (.str x :: mk :: dt :: rest)) = false := by
          show ((isDay mk && isDate dt) && kindB (.str x) rest) = false
          have hI : isDay mk = true → isInt mk = true := fun z => by cases mk <;> first | rfl | exact nomatch z
          revert b1 hI
          cases isInt mk <;> cases isDay mk <;> cases isDate dt <;> intro b1 hI <;> first | rfl | (exact absurd b1 (by decide)) | (exact absurd (hI rfl) (by decide))
        rw [e] at q
        exact q H3 (s2.trans s3)
      have e : isDecree (.tuple (.str x :: mk :: dt :: rest)) = kindB (.str x) rest := by
        show ((isDay mk && isDate dt) && kindB (.str x) rest) = kindB (.str x) rest
        revert b1
        cases isInt mk <;> cases isDay mk <;> cases isDate dt <;> intro b1 <;> first | rfl | exact nomatch b1
      rw [e] at q
      clear e
      have s23 := s2.trans s3
      dsimp only [tNext]
      -- a rule
      refine if_b (b := decide (x = "rule")) (evb_test (ev_eqS (m1 := 0) (m2 := 0) (ev_ixT (m1 := 0) (m2 := 0) (P1 := (· = .tuple (.str x :: mk :: dt :: rest))) (P2 := (· = .int 0)) (ev_var (i := 0) rfl (dp_no (Df.to hd s23)) rfl) (ev_int rfl) (fun d e q1 q2 => ⟨_, 0, .str x, q1, q2, atI_nat (j := 0) rfl, rfl⟩)) (ev_str rfl) rfl)) (fun b2 H4 s4 => ?_) (fun b2 H4 s4 => ?_)
      · have ex : x = "rule" := of_decide_eq_true b2
        rw [ex, need_rule] at h3'
        obtain ⟨ra, rb, rfl⟩ := two_len (r := rest) (by omega)
        rw [ex, kindB_rule] at q
        have s24 := s23.trans s4
        refine ev_retN (K := K) (0 + (0 + 0)) (· = .bool (isRule ra && (isDate rb && hasIn ra rb))) ?_ (Nat.zero_le _) fun H5 v4 d4 s5 hd4 e4 => by subst e4; cases hd4; exact q H5 (s24.trans s5)
        refine ev_andC (x := isRule ra) (y := isDate rb && hasIn ra rb) (ev_callB (R := (· = [ra])) (eva_c (ev_ixT (m1 := 0) (m2 := 0) (P1 := (· = .tuple [.str x, mk, dt, ra, rb])) (P2 := (· = .int 3)) (ev_var (i := 0) rfl (dp_no (Df.to hd s24)) rfl) (ev_int rfl) (fun d e q1 q2 => ⟨_, 3, ra, q1, q2, atI_nat (j := 3) rfl, rfl⟩)) eva_n) (fun l e => ⟨_, e, gr ra (by simp), rfl⟩)) fun ir => ?_
        refine ev_andC (x := isDate rb) (y := hasIn ra rb) (ev_callB (R := (· = [rb])) (eva_c (ev_ixT (m1 := 0) (m2 := 0) (P1 := (· = .tuple [.str x, mk, dt, ra, rb])) (P2 := (· = .int 4)) (ev_var (i := 0) rfl (dp_no (Df.to hd s24)) rfl) (ev_int rfl) (fun d e q1 q2 => ⟨_, 4, rb, q1, q2, atI_nat (j := 4) rfl, rfl⟩)) eva_n) (fun l e => ⟨_, e, gr rb (by simp), rfl⟩)) fun id => ?_
        exact ev_callP (R := (· = [ra, rb])) (eva_c (ev_ixT (m1 := 0) (m2 := 0) (P1 := (· = .tuple [.str x, mk, dt, ra, rb])) (P2 := (· = .int 3)) (ev_var (i := 0) rfl (dp_no (Df.to hd s24)) rfl) (ev_int rfl) (fun d e q1 q2 => ⟨_, 3, ra, q1, q2, atI_nat (j := 3) rfl, rfl⟩)) (eva_c (ev_ixT (m1 := 0) (m2 := 0) (P1 := (· = .tuple [.str x, mk, dt, ra, rb])) (P2 := (· = .int 4)) (ev_var (i := 0) rfl (dp_no (Df.to hd s24)) rfl) (ev_int rfl) (fun d e q1 q2 => ⟨_, 4, rb, q1, q2, atI_nat (j := 4) rfl, rfl⟩)) eva_n)) (fun ds e => ⟨_, _, e, ir, id⟩) (fun ds d e hp => hp _ _ e)
      have n1 : x ≠ "rule" := of_decide_eq_false b2
      have s24 := s23.trans s4
      dsimp only [tNext]
      -- a rename
      refine if_b (b := decide (x = "rename")) (evb_test (ev_eqS (m1 := 0) (m2 := 0) (ev_ixT (m1 := 0) (m2 := 0) (P1 := (· = .tuple (.str x :: mk :: dt :: rest))) (P2 := (· = .int 0)) (ev_var (i := 0) rfl (dp_no (Df.to hd s24)) rfl) (ev_int rfl) (fun d e q1 q2 => ⟨_, 0, .str x, q1, q2, atI_nat (j := 0) rfl, rfl⟩)) (ev_str rfl) rfl)) (fun b3 H5 s5 => ?_) (fun b3 H5 s5 => ?_)
      · have ex : x = "rename" := of_decide_eq_true b3
        rw [ex, need_rename] at h3'
        obtain ⟨ra, rb, rfl⟩ := two_len (r := rest) (by omega)
        rw [ex, kindB_rename] at q
        have s25 := s24.trans s5
        refine ev_retN (K := K) (0 + (0 + (0 + 0))) (· = .bool (isName ra && (isName rb && !(PyData.eqv ra rb)))) ?_ (Nat.zero_le _) fun H6 v4 d4 s6 hd4 e4 => by subst e4; cases hd4; exact q H6 (s25.trans s6)
        refine ev_andC (x := isName ra) (y := isName rb && !(PyData.eqv ra rb)) (ev_callB (R := (· = [ra])) (eva_c (ev_ixT (m1 := 0) (m2 := 0) (P1 := (· = .tuple [.str x, mk, dt, ra, rb])) (P2 := (· = .int 3)) (ev_var (i := 0) rfl (dp_no (Df.to hd s25)) rfl) (ev_int rfl) (fun d e q1 q2 => ⟨_, 3, ra, q1, q2, atI_nat (j := 3) rfl, rfl⟩)) eva_n) (fun l e => ⟨_, e, gr ra (by simp), rfl⟩)) fun _ => ?_
        refine ev_andC (x := isName rb) (y := !(PyData.eqv ra rb)) (ev_callB (R := (· = [rb])) (eva_c (ev_ixT (m1 := 0) (m2 := 0) (P1 := (· = .tuple [.str x, mk, dt, ra, rb])) (P2 := (· = .int 4)) (ev_var (i := 0) rfl (dp_no (Df.to hd s25)) rfl) (ev_int rfl) (fun d e q1 q2 => ⟨_, 4, rb, q1, q2, atI_nat (j := 4) rfl, rfl⟩)) eva_n) (fun l e => ⟨_, e, gr rb (by simp), rfl⟩)) fun _ => ?_
        exact ev_neD (m1 := 0) (m2 := 0) (ev_ixT (m1 := 0) (m2 := 0) (P1 := (· = .tuple [.str x, mk, dt, ra, rb])) (P2 := (· = .int 3)) (ev_var (i := 0) rfl (dp_no (Df.to hd s25)) rfl) (ev_int rfl) (fun d e q1 q2 => ⟨_, 3, ra, q1, q2, atI_nat (j := 3) rfl, rfl⟩)) (ev_ixT (m1 := 0) (m2 := 0) (P1 := (· = .tuple [.str x, mk, dt, ra, rb])) (P2 := (· = .int 4)) (ev_var (i := 0) rfl (dp_no (Df.to hd s25)) rfl) (ev_int rfl) (fun d e q1 q2 => ⟨_, 4, rb, q1, q2, atI_nat (j := 4) rfl, rfl⟩)) (shp (gr ra (by simp))) (shp (gr rb (by simp)))
      have n2 : x ≠ "rename" := of_decide_eq_false b3
      have s25 := s24.trans s5
      dsimp only [tNext]
      -- a restore, a jump
      rcases kinds_of hx with ex | ex | ex | ex
      · exact absurd ex n1
      · rw [ex, need_jump] at h3'
        obtain ⟨ra, rfl⟩ := one_len (r := rest) (by omega)
        rw [ex, kindB_jump] at q
        have n4 : x ≠ "restore" := by rw [ex]; decide +kernel
        refine ev_retN (K := K) (0 + 0) (· = .bool (decide (x = "restore") || isDate ra)) ?_ (Nat.zero_le _) fun H6 v4 d4 s6 hd4 e4 => by subst e4; cases hd4; rw [decide_eq_false n4, Bool.false_or]; exact q H6 (s25.trans s6)
        exact ev_orC (m1 := 0) (m2 := 0) (x := decide (x = "restore")) (y := isDate ra) (ev_eqS (m1 := 0) (m2 := 0) (ev_ixT (m1 := 0) (m2 := 0) (P1 := (· = .tuple [.str x, mk, dt, ra])) (P2 := (· = .int 0)) (ev_var (i := 0) rfl (dp_no (Df.to hd s25)) rfl) (ev_int rfl) (fun d e q1 q2 => ⟨_, 0, .str x, q1, q2, atI_nat (j := 0) rfl, rfl⟩)) (ev_str rfl) rfl) fun _ => (ev_callB (R := (· = [ra])) (eva_c (ev_ixT (m1 := 0) (m2 := 0) (P1 := (· = .tuple [.str x, mk, dt, ra])) (P2 := (· = .int 3)) (ev_var (i := 0) rfl (dp_no (Df.to hd s25)) rfl) (ev_int rfl) (fun d e q1 q2 => ⟨_, 3, ra, q1, q2, atI_nat (j := 3) rfl, rfl⟩)) eva_n) (fun l e => ⟨_, e, gr ra (by simp), rfl⟩))
      · exact absurd ex n2
      · rw [ex, need_restore] at h3'
        have hr0 : rest.length = 0 := by omega
        rw [ex, kindB_restore, decide_eq_true (by omega)] at q
        refine ev_retN (K := K) (0 + 0) (· = .bool (decide (x = "restore") || true)) ?_ (Nat.zero_le _) fun H6 v4 d4 s6 hd4 e4 => by subst e4; cases hd4; rw [Bool.or_true]; exact q H6 (s25.trans s6)
        exact ev_orC (m1 := 0) (m2 := 0) (x := decide (x = "restore")) (y := true) (ev_eqS (m1 := 0) (m2 := 0) (ev_ixT (m1 := 0) (m2 := 0) (P1 := (· = .tuple (.str x :: mk :: dt :: rest))) (P2 := (· = .int 0)) (ev_var (i := 0) rfl (dp_no (Df.to hd s25)) rfl) (ev_int rfl) (fun d e q1 q2 => ⟨_, 0, .str x, q1, q2, atI_nat (j := 0) rfl, rfl⟩)) (ev_str rfl) rfl) fun z => absurd ex (of_decide_eq_false z)
end

section
variable {P : Program} {w : World} {K : PySem.W.Frag} {mg : Str → Option Value} {base : Heap}
/-! #### the program's forms of words -/
theorem cnt_eq (x : Str) : (intW x && !Txt.startswith x mns) = wholeW x := by
  rw [starts_mns]
  unfold intW wholeW
  generalize TL.tl x = l
  by_cases h : l.head? = some 45
  · rw [decide_eq_true h]
    obtain ⟨r, rfl⟩ : ∃ r, l = 45 :: r := by
      cases l with
      | nil => cases h
      | cons c r => cases h; exact ⟨r, rfl⟩
    show (_ && false) = (true && (false && _))
    rw [Bool.and_false, Bool.false_and, Bool.and_false]
  · rw [decide_eq_false h]
    have e : intL l = wholeL l := by
      unfold intL wholeL
      rw [stripm_of fun r e => h (by rw [e]; rfl)]
    rw [e]
    cases wholeL l <;> rfl
theorem ok_is_count_word (T : Top K mg) : FnOk P w K mg base CX0 2 T.a_is_count_word T.d_is_count_word ["word"] (spW wholeW) := by
  have G_is_integer_word : FnOk P w K mg base CX0 1 T.a_is_integer_word T.d_is_integer_word ["word"] (spW intW) := ok_is_integer_word T
  refine T.F_is_count_word.ok sc_is_count_word spW_len (fun cdv A outer s H vs Q E hr h => ?_)
  obtain ⟨x, rfl, few, ht, q⟩ := h
  refine ⟨_, (pss_one (ps_ret (pe_and (pe_call G_is_integer_word hr (by rfl) T.m_is_integer_word T.F_is_integer_word.kp T.b_is_integer_word .nil pass0 (pa_cons (pv 0) pa_nil)) (pe_one (pe_not (pe_m1 PySem.F.slot_str_startswith PySem.F.type_str_startswith mt_startswith (pv 0) pe_str)))))), ?_⟩
  rw [← cnt_eq x] at q
  exact ev_retN (K := K) 0 (· = .bool (intW x && !Txt.startswith x mns)) (ev_andC (m1 := 0) (m2 := 0) (ev_callW (eva_c (ev_var (i := 0) rfl (.str x) rfl) eva_n) few ht) fun _ => ev_notC (ev_starts (m1 := 0) (m2 := 0) (ev_var (i := 0) rfl (.str x) rfl) (ev_str rfl))) (Nat.zero_le _) fun H3 v3 d3 s3 hd3 e3 => by
    subst e3
    cases hd3
    exact q H3 s3
abbrev forms4 : List Str := ["made", "year", "day", "name"]
def formB (f x : Str) : Bool := if f = "made" then wholeW x else if f = "year" then intW x else if f = "day" then dayW x else nameStr x
def spForm : Sp := fun vs H Q _ => ∃ x f : Str, vs = [.str x, .str f] ∧ f ∈ forms4 ∧ x.length ≤ 64 ∧ tidy x = true ∧ ∀ H', Same H H' → Q (.bl (formB f x)) H'
theorem ev_callForm {S : Addr → Bool} {a : Option Addr} {σ : L2.St} {H0 : Hp} {tr : TA} {m : Nat} {x f : Str} {E : XK} (h : EvA K S a σ H0 tr m (· = [.str x, .str f])) (hf : f ∈ forms4) (few : x.length ≤ 64) (ht : tidy x = true) : Ev K S a σ H0 (tCall spForm [] E tr) m (· = .bool (formB f x)) := by
  intro H n Q k r' b q
  refine h H n _ k r' b fun H1 vs ds k1 r1 hd e => ?_
  subst e
  obtain ⟨u, v, rfl, h1, h2⟩ := DfAll.two hd
  cases h1
  cases h2
  exact ⟨x, f, rfl, hf, few, ht, fun H2 s => q H2 _ _ (k1.trans (Keeps.same s)) (r1.same s) (.bl _) rfl⟩
theorem eqf1 {S : Addr → Bool} {a : Option Addr} {σ : L2.St} {H0 : Hp} {f g : Str} {b : Bool} (hv : σ[1]? = some (some (.str f))) (e : decide (f = g) = b) : Ev K S a σ H0 (tOp rEq (tVar 1) (tC (.str g))) 0 (· = .bool b) := ev_eqS (m1 := 0) (m2 := 0) (ev_var (i := 1) hv (.str f) rfl) (ev_str rfl) (by rw [e])
theorem skipf1 (K : PySem.W.Frag) {σ : L2.St} {H : Hp} {t : TS} {D : Ends} {f g : Str} (hv : σ[1]? = some (some (.str f))) (e : decide (f = g) = false) (q : ∀ H1, Same H H1 → D.nx σ H1) : tIfS (tB (tOp rEq (tVar 1) (tC (.str g)))) t tNext D σ H :=
  if_b (b := false) (evb_val (K := K) (eqf1 hv e)) (fun z => nomatch z) fun _ H1 s1 => q H1 s1
theorem ok_has_form (T : Top K mg) : FnOk P w K mg base CX0 4 T.a_has_form T.d_has_form ["word", "form"] spForm := by
  have G_is_count_word : FnOk P w K mg base CX0 2 T.a_is_count_word T.d_is_count_word ["word"] (spW wholeW) := ok_is_count_word T
  have G_is_integer_word : FnOk P w K mg base CX0 1 T.a_is_integer_word T.d_is_integer_word ["word"] (spW intW) := ok_is_integer_word T
  have G_is_day_word : FnOk P w K mg base CX0 3 T.a_is_day_word T.d_is_day_word ["word"] (spW dayW) := ok_is_day_word T
  have G_is_name : FnOk P w K mg base CX0 1 T.a_is_name T.d_is_name ["thing"] (spB K isName) := ok_is_name T
  refine T.F_has_form.ok sc_has_form (fun vs H Q E ⟨x, f, e, _⟩ => by rw [e]; rfl) (fun cdv A outer s H vs Q E hr h => ?_)
  obtain ⟨x, f, rfl, hf, few, ht, q⟩ := h
  have hr1 : Room 1 _ := hr.mono (by decide)
  have hr2 : Room 2 _ := hr.mono (by decide)
  refine ⟨_, (pss_cons (ps_if (pt_cmpR op_eq (pv 1) pe_str (by rfl)) (pss_one (ps_ret (pe_call G_is_count_word hr2 (by rfl) T.m_is_count_word T.F_is_count_word.kp T.b_is_count_word .nil pass0 (pa_cons (pv 0) pa_nil)))) pss_nil) (pss_cons (ps_if (pt_cmpR op_eq (pv 1) pe_str (by rfl)) (pss_one (ps_ret (pe_call G_is_integer_word hr1 (by rfl) T.m_is_integer_word T.F_is_integer_word.kp T.b_is_integer_word .nil pass0 (pa_cons (pv 0) pa_nil)))) pss_nil) (pss_cons (ps_if (pt_cmpR op_eq (pv 1) pe_str (by rfl)) (pss_one (ps_ret (pe_call G_is_day_word hr (by rfl) T.m_is_day_word T.F_is_day_word.kp T.b_is_day_word .nil pass0 (pa_cons (pv 0) pa_nil)))) pss_nil) (pss_one (ps_ret (pe_call G_is_name hr1 (by rfl) T.m_is_name T.F_is_name.kp T.b_is_name .nil pass0 (pa_cons (pv 0) pa_nil))))))), ?_⟩
  have hf : f = "made" ∨ f = "year" ∨ f = "day" ∨ f = "name" := by simpa using hf
  have hit : ∀ {g : Str} {t : TS} {D : Ends} {G : Hp}, f = g → (∀ H1, Same G H1 → t D (start ["word", "form"] [.str x, .str f]) H1) → tIfS (tB (tOp rEq (tVar 1) (tC (.str g)))) t tNext D (start ["word", "form"] [.str x, .str f]) G := fun {g t D G} e q => if_b (b := true) (evb_val (K := K) (m := 0) (eqf1 rfl (by rw [e]; exact decide_eq_true rfl)) (Nat.zero_le _)) (fun _ H1 s1 => q H1 s1) fun z => nomatch z
  rcases hf with rfl | rfl | rfl | rfl
  · refine hit rfl fun H1 s1 => ?_
    exact ev_retN (K := K) 0 (· = .bool (wholeW x)) (ev_callW (eva_c (ev_var (i := 0) rfl (.str x) rfl) eva_n) few ht) (Nat.zero_le _) fun H3 v3 d3 s3 hd3 e3 => by subst e3; cases hd3; exact q H3 (s1.trans s3)
  · refine skipf1 K rfl (by decide +kernel) fun H1 s1 => hit rfl fun H2 s2 => ?_
    exact ev_retN (K := K) 0 (· = .bool (intW x)) (ev_callW (eva_c (ev_var (i := 0) rfl (.str x) rfl) eva_n) few ht) (Nat.zero_le _) fun H3 v3 d3 s3 hd3 e3 => by subst e3; cases hd3; exact q H3 (s1.trans (s2.trans s3))
  · refine skipf1 K rfl (by decide +kernel) fun H1 s1 => skipf1 K rfl (by decide +kernel) fun H2 s2 => hit rfl fun H3 s3 => ?_
    exact ev_retN (K := K) 0 (· = .bool (dayW x)) (ev_callW (eva_c (ev_var (i := 0) rfl (.str x) rfl) eva_n) few ht) (Nat.zero_le _) fun H4 v3 d3 s4 hd3 e3 => by subst e3; cases hd3; exact q H4 (s1.trans (s2.trans (s3.trans s4)))
  · refine skipf1 K rfl (by decide +kernel) fun H1 s1 => skipf1 K rfl (by decide +kernel) fun H2 s2 => skipf1 K rfl (by decide +kernel) fun H3 s3 => ?_
    exact ev_retN (K := K) 0 (· = .bool (nameStr x)) (ev_callB (R := (· = [.str x])) (eva_c (ev_var (i := 0) rfl (.str x) rfl) eva_n) (fun l e => ⟨_, e, good_str ht (by omega), rfl⟩)) (Nat.zero_le _) fun H4 v3 d3 s4 hd3 e3 => by subst e3; cases hd3; exact q H4 (s1.trans (s2.trans (s3.trans s4)))
/-- the place of the first word that has not its form -/
def placeF : List (Str → Bool) → Nat → List Str → Option Nat
  | [], _, _ => none
  | f :: fs, k, ws => match ws[k]? with
    | some w => if f w = true then placeF fs (k + 1) ws else some k
    | none => some k
def spCW (K : PySem.W.Frag) (CT : Addr) : Sp := fun vs H Q E => ∃ (v : V) (ws : List Str) (at' : Nat) (fa : Addr) (fs : List Str), vs = [v, .int (at' : Nat), .ref fa] ∧ Df K H v (.list (ws.map PyData.str)) ∧ Words ws ∧ at' ≤ 1000 ∧ fs.length ≤ 10 ∧ (∀ f ∈ fs, f ∈ forms4) ∧ (∀ H, SqF K H fa (fs.map V.str)) ∧
  (placeF (fs.map formB) at' ws = none → ∀ H', Same H H' → Q .non H') ∧
  (∀ k, placeF (fs.map formB) at' ws = some k → ∀ H' dd, Same H H' → H' dd = none → E (.ref CT) (some dd) (upd H' dd (.xd [("place", .int (k : Nat))])))
theorem ok_check_words (T : Top K mg) : FnOk P w K mg base (L2.CX P w) 5 T.a_check_words T.d_check_words ["words", "at", "forms"] (spCW K T.C_NoText) := by
  have G_has_form : FnOk P w K mg base CX0 4 T.a_has_form T.d_has_form ["word", "form"] spForm := ok_has_form T
  refine T.F_check_words.okX sc_check_words (fun vs H Q E h => by obtain ⟨_, _, _, _, _, rfl, _⟩ := h; rfl) (fun cdv A outer s H vs Q E hr h => ?_)
  obtain ⟨v, ws, at', fa, fs, rfl, hd, ⟨few, hws⟩, hat, lfs, hfs, hS, q, qE⟩ := h
  have hr2 : Room 2 _ := hr.mono (by decide)
  refine ⟨_, (pss_one (ps_for PassesOwn.leaving rfl (pi_enumT (by rfl) T.n_enumerate (pa_cons (pv 2) pa_nil) _ (pk_cons (pv 1) pk_nil)) (pg_tup rfl (pgs_cons (pg_name (i := 3) sc_check_words.nd rfl (.inl rfl)) (pgs_cons (pg_name (i := 4) sc_check_words.nd rfl (.inl rfl)) pgs_nil))) (pss_one (ps_if (PW.pt (pw_or (pt_cmpR op_ge (pv 3) (pe_callB call_len_seq (by rfl) T.n_len PySem.boot_len (pa_cons (pv 0) pa_nil)) (by rfl)) (pw_or1 (pt_not (pt_val (pe_call G_has_form hr (by rfl) T.m_has_form T.F_has_form.kp T.b_has_form .nil pass0 (pa_cons (pe_ix ix_list (pv 0) (pv 3) (fun _ _ => rfl)) (pa_cons (pv 4) pa_nil)))))))) (pss_one (ps_raise rfl (takes_of rfl rfl rfl rfl) (pmk_oex T.X_NoText.o T.X_NoText.iC T.X_NoText.tI (ok_init_NoText T) hr2 T.X_NoText.b .nil pass0 (by rfl) T.X_NoText.g (pa_cons (pv 3) pa_nil)))) pss_nil)))), ?_⟩
  refine ⟨.ref fa, rfl, .int at', rfl, fa, fs.map V.str, at', rfl, rfl, (hS H).sqT, by omega, by omega, ?_⟩
  refine for_en (Pv := fun j σ' H' => ∃ x3 x4, σ' = [some v, some (.int (at' : Nat)), some (.ref fa), x3, x4] ∧ Same H H' ∧ placeF (fs.map formB) at' ws = placeF ((fs.drop j).map formB) (at' + j) ws) ?_ ?_ ?_ ?_
  · exact ⟨_, _, rfl, Same.refl _, rfl⟩
  · rintro j σ' H' _ _
    exact (hS H').sqT
  · rintro j x σ' H' T' hx ⟨x3, x4, rfl, s1, ep⟩ nT
    obtain ⟨f, hf, rfl⟩ : ∃ f, fs[j]? = some f ∧ x = .str f := by
      rw [List.getElem?_map] at hx
      cases e : fs[j]? with
      | none => rw [e] at hx; cases hx
      | some z => rw [e] at hx; exact ⟨z, rfl, (Option.some.inj hx).symm⟩
    have hj : j < fs.length := (List.getElem?_eq_some_iff.mp hf).1
    have ed : fs.drop j = f :: fs.drop (j + 1) := by
      rw [List.drop_eq_getElem_cons hj]
      rw [List.getElem?_eq_getElem hj] at hf
      rw [Option.some.inj hf]
    rw [ed] at ep
    have hT : SqT K (upd H' T' (.tup [.int ((at' : Int) + (j : Nat)), .str f])) T' [.int ((at' : Int) + (j : Nat)), .str f] := SqT.of upd_same
    have s2 : Same H' (upd H' T' (.tup [.int ((at' : Int) + (j : Nat)), .str f])) := same_new nT
    generalize upd H' T' (.tup [.int ((at' : Int) + (j : Nat)), .str f]) = H2 at hT s2 ⊢
    refine ⟨T', _, rfl, hT, rfl, .int _, [.str f], rfl, .str f, [], rfl, rfl, ?_⟩
    dsimp only [gName, List.set]
    have s12 := s1.trans s2
    have eL : ∀ G, Same H2 G → Ev K noS none [some v, some (.int (at' : Nat)), some (.ref fa), some (.int ((at' : Int) + (j : Nat))), some (.str f)] G (tCB (rLenQ K) (tCons (tVar 0) tNil)) 0 (· = .int (ws.length : Nat)) := fun G s => by
      have e := ev_lenX (K := K) (S := noS) (a := none) (m := 0) (σ := [some v, some (.int (at' : Nat)), some (.ref fa), some (.int ((at' : Int) + (j : Nat))), some (.str f)]) (H0 := G) (es := ws.map PyData.str) (eva_c (ev_var (i := 0) rfl (dp_no (Df.to hd (s12.trans s))) rfl) eva_n)
      rw [List.length_map] at e
      exact e
    have hge : EvB [some v, some (.int (at' : Nat)), some (.ref fa), some (.int ((at' : Int) + (j : Nat))), some (.str f)] H2 (tB (tOp (rI0 fun i j => .bl (decide (i ≥ j))) (tVar 3) (tCB (rLenQ K) (tCons (tVar 0) tNil)))) (decide (((at' : Int) + (j : Nat)) ≥ (ws.length : Nat))) := evb_val (K := K) (m := 0) (ev_ibX (f := fun i j => decide (i ≥ j)) (m1 := 0) (m2 := 0) (ev_var (i := 3) rfl (.int _) rfl) (eL H2 (Same.refl _))) (Nat.zero_le _)
    have ep' : placeF (fs.map formB) at' ws = match ws[at' + j]? with
      | some w => if formB f w = true then placeF ((fs.drop (j + 1)).map formB) (at' + j + 1) ws else some (at' + j)
      | none => some (at' + j) := ep
    have out : placeF (fs.map formB) at' ws = some (at' + j) → ∀ G, Same H2 G → ∀ dd, G dd = none → E (.ref T.C_NoText) (some dd) (upd G dd (.xd [("place", .int ((at' : Int) + (j : Nat)))])) := fun e G s dd hdd => by
      have := qE _ e G dd (s12.trans s) hdd
      rw [show ((at' + j : Nat) : Int) = (at' : Int) + (j : Nat) by omega] at this
      exact this
    by_cases hlt : at' + j < ws.length
    · obtain ⟨x, hx⟩ : ∃ x, ws[at' + j]? = some x := ⟨_, List.getElem?_eq_getElem hlt⟩
      obtain ⟨fx, tx⟩ := hws x (List.mem_of_getElem? hx)
      rw [hx] at ep'
      dsimp only at ep'
      refine if_b (b := decide (((at' : Int) + (j : Nat)) ≥ (ws.length : Nat)) || !formB f x) (evb_or hge fun _ => evb_not (evb_test (K := K) (m := 0) (ev_callForm (eva_c (ev_ixLX (m1 := 0) (m2 := 0) (ev_var (i := 0) rfl (dp_no (Df.to hd s12)) rfl) (ev_var (i := 3) rfl (.int _) rfl) (by rw [show ((at' : Int) + (j : Nat)) = ((at' + j : Nat) : Int) by omega]; exact atI_strs hx)) (eva_c (ev_var (i := 4) rfl (.str f) rfl) eva_n)) (hfs f (List.mem_of_getElem? hf)) fx tx) (Nat.zero_le _))) (fun hb H3 s3 => ?_) (fun hb H3 s3 => ?_)
      · rw [decide_eq_false (by omega), Bool.false_or] at hb
        rw [if_neg (by rw [(Bool.not_eq_true' _).mp hb]; exact Bool.false_ne_true)] at ep'
        exact mkO_go (i := 3) rfl fun dd hdd => out ep' H3 s3 dd hdd
      · rw [decide_eq_false (by omega), Bool.false_or] at hb
        have hb : formB f x = true := by cases h : formB f x <;> rw [h] at hb <;> first | rfl | exact nomatch hb
        rw [if_pos hb] at ep'
        exact ⟨_, _, rfl, s12.trans s3, ep'⟩
    · rw [List.getElem?_eq_none (by omega)] at ep'
      refine if_b (b := true) (fun G s Q q' => ?_) (fun _ H3 s3 => mkO_go (i := 3) rfl fun dd hdd => out ep' H3 s3 dd hdd) (fun z => nomatch z)
      exact hge G s _ fun G1 s1 => by
        rw [decide_eq_true (by omega)]
        exact iteT (q' G1 s1)
  · rintro σ' H' ⟨x3, x4, rfl, s1, ep⟩
    rw [List.length_map, List.drop_length] at ep
    exact q ep H' s1
def spCE (K : PySem.W.Frag) (CT : Addr) : Sp := fun vs H Q E => ∃ (v : V) (ws : List Str) (at' : Nat), vs = [v, .int (at' : Nat)] ∧ Df K H v (.list (ws.map PyData.str)) ∧
  (ws.length ≤ at' → ∀ H', Same H H' → Q .non H') ∧ (at' < ws.length → ∀ H' dd, Same H H' → H' dd = none → E (.ref CT) (some dd) (upd H' dd (.xd [("place", .int (at' : Nat))])))
theorem ok_check_end (T : Top K mg) : FnOk P w K mg base (L2.CX P w) 3 T.a_check_end T.d_check_end ["words", "at"] (spCE K T.C_NoText) := by
  refine T.F_check_end.okX sc_check_end (fun vs H Q E h => by obtain ⟨_, _, _, rfl, _⟩ := h; rfl) (fun cdv A outer s H vs Q E hr h => ?_)
  obtain ⟨v, ws, at', rfl, hd, q, qE⟩ := h
  have hr : Room 2 _ := hr
  refine ⟨_, (pss_one (ps_if (pt_cmpR op_gt (pe_callB call_len_seq (by rfl) T.n_len PySem.boot_len (pa_cons (pv 0) pa_nil)) (pv 1) (by rfl)) (pss_one (ps_raise rfl (takes_of rfl rfl rfl rfl) (pmk_oex T.X_NoText.o T.X_NoText.iC T.X_NoText.tI (ok_init_NoText T) hr T.X_NoText.b .nil pass0 (by rfl) T.X_NoText.g (pa_cons (pv 1) pa_nil)))) pss_nil)), ?_⟩
  have e := ev_lenX (K := K) (S := noS) (a := none) (m := 0) (σ := [some v, some (.int (at' : Nat))]) (H0 := H) (es := ws.map PyData.str) (eva_c (ev_var (i := 0) rfl (dp_no hd) rfl) eva_n)
  rw [List.length_map] at e
  refine if_b (b := decide (((ws.length : Nat) : Int) > (at' : Nat))) (evb_val (K := K) (m := 0) (ev_ibX (f := fun i j => decide (i > j)) (m1 := 0) (m2 := 0) e (ev_var (i := 1) rfl (.int _) rfl)) (Nat.zero_le _)) (fun hb H3 s3 => ?_) (fun hb H3 s3 => ?_)
  · have hb := of_decide_eq_true hb
    exact mkO_go (i := 1) rfl fun dd hdd => qE (by omega) H3 dd s3 hdd
  · have hb := of_decide_eq_false hb
    exact q (by omega) H3 s3
/-- the date that three words write -/
def dateD (ws : List Str) : PyData := .tuple [.int (ivalW (ws.getD 0 "")), .str (ws.getD 1 ""), .int (natW (ws.getD 2 ""))]
end

section
variable {P : Program} {w : World} {K : PySem.W.Frag} {mg : Str → Option Value} {base : Heap}
/-! #### dates and decrees made of words -/
theorem ev_callInt {S : Addr → Bool} {a : Option Addr} {σ : L2.St} {H0 : Hp} {tr : TA} {m : Nat} {x : Str} {E : XK} (h : EvA K S a σ H0 tr m (· = [.str x])) (few : x.length ≤ 64) (hi : intW x = true) : Ev K S a σ H0 (tCall spInt [] E tr) m (· = .int (ivalW x)) := by
  intro H n Q k r' b q
  refine h H n _ k r' b fun H1 vs ds k1 r1 hd e => ?_
  subst e
  obtain ⟨v, _, rfl, h1, h2⟩ := DfAll.c hd
  obtain rfl := DfAll.n h2
  cases h1
  exact ⟨x, rfl, few, hi, fun H2 s => q H2 _ _ (k1.trans (Keeps.same s)) (r1.same s) (.int _) rfl⟩
def DateOk (ws : List Str) : Prop := ∃ a b c r, ws = a :: b :: c :: r ∧ a.length ≤ 64 ∧ intW a = true ∧ nameStr b = true ∧ c.length ≤ 64 ∧ dayW c = true
def spMD (K : PySem.W.Frag) : Sp := fun vs H Q _ => ∃ (v : V) (ws : List Str), vs = [v] ∧ Df K H v (.list (ws.map PyData.str)) ∧ DateOk ws ∧ ∀ H' u, Same H H' → Df K H' u (dateD ws) → Q u H'
theorem ok_make_date (T : Top K mg) : FnOk P w K mg base CX0 3 T.a_make_date T.d_make_date ["words"] (spMD K) := by
  have G_read_integer : FnOk P w K mg base CX0 2 T.a_read_integer T.d_read_integer ["word"] spInt := ok_read_integer T
  refine T.F_make_date.ok sc_make_date (fun vs H Q E h => by obtain ⟨_, _, rfl, _⟩ := h; rfl) (fun cdv A outer s H vs Q E hr h => ?_)
  obtain ⟨v, ws, rfl, hd, ⟨a, b, c, r, rfl, fa, ia, nb, fc, dc⟩, q⟩ := h
  refine ⟨_, (pss_cons (ps_asg (pe_slice sl_list (pv 0) po_none (po_some pe_int)) (pg_unl rfl (pgs_cons (pg_name (i := 1) sc_make_date.nd rfl (.inl rfl)) (pgs_cons (pg_name (i := 2) sc_make_date.nd rfl (.inl rfl)) (pgs_cons (pg_name (i := 3) sc_make_date.nd rfl (.inl rfl)) pgs_nil))))) (pss_one (ps_ret (pe_tupF (pa_cons (pe_call G_read_integer hr (by rfl) T.m_read_integer T.F_read_integer.kp T.b_read_integer .nil pass0 (pa_cons (pv 1) pa_nil)) (pa_cons (pv 2) (pa_cons (pe_callTy call_int_str (by rfl) T.n_int (by decide +kernel) (pa_cons (pv 3) pa_nil)) pa_nil))))))), ?_⟩
  refine ev_asgN (K := K) 0 (· = .list [.str a, .str b, .str c]) ?_ (Nat.zero_le _) fun H1 v1 d1 s1 hd1 e1 => ?_
  · have e := ev_cutLX (K := K) (S := noS) (a := none) (m1 := 0) (m2 := 0) (m3 := 0) (σ := [some v, none, none, none]) (H0 := H) (ds := (a :: b :: c :: r).map PyData.str) (lo := none) (hi := some ((3 : Nat) : Int)) (ev_var (i := 0) rfl (dp_no hd) rfl) evo_none (evo_X (ev_int (i := 3) rfl))
    rw [cutD_take] at e
    exact e
  subst e1
  obtain ⟨L, us, rfl, hL, hu⟩ := Df.lst_inv hd1
  obtain ⟨_, _, rfl, h1, hu⟩ := DfAll.c hu
  obtain ⟨_, _, rfl, h2, hu⟩ := DfAll.c hu
  obtain ⟨_, _, rfl, h3, hu⟩ := DfAll.c hu
  obtain rfl := DfAll.n hu
  cases h1
  cases h2
  cases h3
  refine ⟨L, _, rfl, hL, rfl, .str a, _, rfl, .str b, _, rfl, .str c, _, rfl, rfl, ?_⟩
  dsimp only [gName, List.set]
  refine ev_retN (K := K) 0 (· = dateD (a :: b :: c :: r)) (ev_t (eva_c (ev_callInt (eva_c (ev_var (i := 1) rfl (.str a) rfl) eva_n) fa ia) (eva_c (ev_var (i := 2) rfl (.str b) rfl) (eva_c (ev_intS (eva_c (ev_var (i := 3) rfl (.str c) rfl) eva_n) (intText_digits (wholeW_inv (dayW_inv dc).1).2 (wholeW_inv (dayW_inv dc).1).1 (by omega)) (by omega)) eva_n))) (by exact (by decide : 3 ≤ 100000))) (Nat.zero_le _) fun H3 v3 d3 s3 hd3 e3 => by subst e3; exact q H3 v3 (s1.trans s3) hd3
/-- what the words of a decree write -/
def decD (ws : List Str) : PyData :=
  if ws.getD 0 "" = "rule" then .tuple [.str "rule", .int (ivalW (ws.getD 1 "")), dateD (ws.drop 2), ruleD (ws.drop 8), dateD (ws.drop 5)]
  else if ws.getD 0 "" = "jump" then .tuple [.str "jump", .int (ivalW (ws.getD 1 "")), dateD (ws.drop 2), dateD (ws.drop 5)]
  else .tuple ([.str (ws.getD 0 ""), .int (ivalW (ws.getD 1 "")), dateD (ws.drop 2)] ++ (ws.drop 5).map PyData.str)
def DecOk (ws : List Str) : Prop := ∃ k n r, ws = k :: n :: r ∧ n.length ≤ 64 ∧ intW n = true ∧ DateOk r ∧ (k = "rule" ∨ k = "jump" → DateOk (r.drop 3)) ∧ (k = "rule" → ∀ w ∈ r.drop 6, w = sla ∨ monW w = true)
def spMK (K : PySem.W.Frag) : Sp := fun vs H Q _ => ∃ (v : V) (ws : List Str), vs = [v] ∧ Df K H v (.list (ws.map PyData.str)) ∧ Words ws ∧ DecOk ws ∧ ∀ H' u, Same H H' → Df K H' u (decD ws) → Q u H'
theorem ev_callMD {S : Addr → Bool} {σ : L2.St} {H0 : Hp} {tr : TA} {ws : List Str} {E : XK} (h : EvA K noS none σ H0 tr 0 (· = [.list (ws.map PyData.str)])) (hw : DateOk ws) : Ev K noS none σ H0 (tCall (spMD K) [] E tr) 0 (· = dateD ws) := by
  intro H n Q k r' b q
  refine h H n _ k r' b fun H1 vs ds k1 r1 hd e => ?_
  subst e
  obtain ⟨v, _, rfl, h1, h2⟩ := DfAll.c hd
  obtain rfl := DfAll.n h2
  exact ⟨v, ws, rfl, no_dp h1, hw, fun H2 u s hu => q H2 _ _ (k1.trans (Keeps.same s)) (r1.same s) (dp_no hu) rfl⟩
theorem ev_callMake {σ : L2.St} {H0 : Hp} {tr : TA} {ws : List Str} {E : XK} (h : EvA K noS none σ H0 tr 0 (· = [.list (ws.map PyData.str)])) (hw : Words ws) (hm : ∀ w ∈ ws, w = sla ∨ monW w = true) : Ev K noS none σ H0 (tCall (spMake K) [] E tr) 0 (· = ruleD ws) := by
  intro H n Q k r' b q
  refine h H n _ k r' b fun H1 vs ds k1 r1 hd e => ?_
  subst e
  obtain ⟨v, _, rfl, h1, h2⟩ := DfAll.c hd
  obtain rfl := DfAll.n h2
  exact ⟨v, ws, rfl, no_dp h1, hw, hm, fun H2 u s hu => q H2 _ _ (k1.trans (Keeps.same s)) (r1.same s) (dp_no hu) rfl⟩
theorem Words.drop {ws : List Str} (h : Words ws) (k : Nat) : Words (ws.drop k) := ⟨by rw [List.length_drop]; have := h.1; omega, fun w hw => h.2 w (List.mem_of_mem_drop hw)⟩
/-- words[k:] -/
theorem ev_from {σ : L2.St} {H0 : Hp} {te : TE} {ws : List Str} (k : Nat) (h : Ev K noS none σ H0 te 0 (· = .list (ws.map PyData.str))) : Ev K noS none σ H0 (tSl (rSlL K) te (tPart (tC (.int (k : Nat)))) tNoPart) 0 (· = .list ((ws.drop k).map PyData.str)) := by
  have e := ev_cutLX (K := K) (S := noS) (a := none) (m1 := 0) (m2 := 0) (m3 := 0) (σ := σ) (H0 := H0) (ds := ws.map PyData.str) (lo := some (k : Int)) (hi := none) h (evo_X (ev_int (i := k) rfl)) evo_none
  rw [cutD_drop, ← List.map_drop] at e
  exact e
theorem ok_make_decree (T : Top K mg) : FnOk P w K mg base CX0 4 T.a_make_decree T.d_make_decree ["words"] (spMK K) := by
  have G_read_integer : FnOk P w K mg base CX0 2 T.a_read_integer T.d_read_integer ["word"] spInt := ok_read_integer T
  have G_make_date : FnOk P w K mg base CX0 3 T.a_make_date T.d_make_date ["words"] (spMD K) := ok_make_date T
  have G_make_rule : FnOk P w K mg base CX0 1 T.a_make_rule T.d_make_rule ["words"] (spMake K) := ok_make_rule T
  refine T.F_make_decree.ok sc_make_decree (fun vs H Q E h => by obtain ⟨_, _, rfl, _⟩ := h; rfl) (fun cdv A outer s H vs Q E hr h => ?_)
  obtain ⟨v, ws, rfl, hd, hW, ⟨k, n, r, rfl, fn, ni, hdt, h2, h3⟩, q⟩ := h
  have hr1 : Room 1 _ := hr.mono (by decide)
  have hr2 : Room 2 _ := hr.mono (by decide)
  refine ⟨_, (pss_cons (ps_set (i := 1) sc_make_decree.nd rfl (.inl rfl) (pe_ix ix_list (pv 0) pe_int (fun _ _ => rfl))) (pss_cons (ps_set (i := 2) sc_make_decree.nd rfl (.inl rfl) (pe_call G_read_integer hr2 (by rfl) T.m_read_integer T.F_read_integer.kp T.b_read_integer .nil pass0 (pa_cons (pe_ix ix_list (pv 0) pe_int (fun _ _ => rfl)) pa_nil))) (pss_cons (ps_set (i := 3) sc_make_decree.nd rfl (.inl rfl) (pe_call G_make_date hr (by rfl) T.m_make_date T.F_make_date.kp T.b_make_date .nil pass0 (pa_cons (pe_slice sl_list (pv 0) (po_some pe_int) po_none) pa_nil))) (pss_cons (ps_if (pt_cmpR op_eq (pv 1) pe_str (by rfl)) (pss_one (ps_ret (pe_tupF (pa_cons (pv 1) (pa_cons (pv 2) (pa_cons (pv 3) (pa_cons (pe_call G_make_rule hr1 (by rfl) T.m_make_rule T.F_make_rule.kp T.b_make_rule .nil pass0 (pa_cons (pe_slice sl_list (pv 0) (po_some pe_int) po_none) pa_nil)) (pa_cons (pe_call G_make_date hr (by rfl) T.m_make_date T.F_make_date.kp T.b_make_date .nil pass0 (pa_cons (pe_slice sl_list (pv 0) (po_some pe_int) po_none) pa_nil)) pa_nil)))))))) pss_nil) (pss_cons (ps_if (pt_cmpR op_eq (pv 1) pe_str (by rfl)) (pss_one (ps_ret (pe_tupF (pa_cons (pv 1) (pa_cons (pv 2) (pa_cons (pv 3) (pa_cons (pe_call G_make_date hr (by rfl) T.m_make_date T.F_make_date.kp T.b_make_date .nil pass0 (pa_cons (pe_slice sl_list (pv 0) (po_some pe_int) po_none) pa_nil)) pa_nil))))))) pss_nil) (pss_one (ps_ret (pe_tupF (pa_cons (pv 1) (pa_cons (pv 2) (pa_cons (pv 3) (StX.pa_star (pe_slice sl_list (pv 0) (po_some pe_int) po_none) pa_nil)))))))))))), ?_⟩
  refine ev_setN (K := K) 0 (· = .str k) (ev_ixLX (m1 := 0) (m2 := 0) (ev_var (i := 0) rfl (dp_no hd) rfl) (ev_int (i := 0) rfl) (atI_strs (ws := k :: n :: r) (i := 0) rfl)) (Nat.zero_le _) fun H1 v1 d1 s1 hd1 e1 => ?_
  subst e1
  cases hd1
  refine ev_setN (K := K) 0 (· = .int (ivalW n)) (ev_callInt (eva_c (ev_ixLX (m1 := 0) (m2 := 0) (ev_var (i := 0) rfl (dp_no (Df.to hd s1)) rfl) (ev_int (i := 1) rfl) (atI_strs (ws := k :: n :: r) (i := 1) rfl)) eva_n) fn ni) (Nat.zero_le _) fun H2 v2 d2 s2 hd2 e2 => ?_
  subst e2
  cases hd2
  have s12 := s1.trans s2
  refine ev_setN (K := K) 0 (· = dateD r) (ev_callMD (S := noS) (eva_c (ev_from 2 (ev_var (i := 0) rfl (dp_no (Df.to hd s12)) rfl)) eva_n) hdt) (Nat.zero_le _) fun H3 v3 d3 s3 hd3 e3 => ?_
  subst e3
  have s13 := s12.trans s3
  have eq : ∀ (g : Str) (G : Hp), EvB [some v, some (.str k), some (.int (ivalW n)), some v3] G (tB (tOp rEq (tVar 1) (tC (.str g)))) (decide (k = g)) := fun g G => evb_val (K := K) (m := 0) (ev_eqS (m1 := 0) (m2 := 0) (ev_var (i := 1) rfl (.str k) rfl) (ev_str rfl) rfl) (Nat.zero_le _)
  have V0 : ∀ G, Same H3 G → Ev K noS none [some v, some (.str k), some (.int (ivalW n)), some v3] G (tVar 0) 0 (· = .list ((k :: n :: r).map PyData.str)) := fun G s => ev_var (i := 0) rfl (dp_no (Df.to hd (s13.trans s))) rfl
  have V3 : ∀ G, Same H3 G → Ev K noS none [some v, some (.str k), some (.int (ivalW n)), some v3] G (tVar 3) 0 (· = dateD r) := fun G s => ev_var (i := 3) rfl (dp_no (Df.to hd3 s)) rfl
  refine if_b (b := decide (k = "rule")) (eq _ _) (fun hb H4 s4 => ?_) (fun hb H4 s4 => ?_)
  · obtain rfl := of_decide_eq_true hb
    refine ev_retN (K := K) 0 (· = .tuple [.str "rule", .int (ivalW n), dateD r, ruleD (r.drop 6), dateD (r.drop 3)]) (ev_t (eva_c (ev_var (i := 1) rfl (.str _) rfl) (eva_c (ev_var (i := 2) rfl (.int _) rfl) (eva_c (V3 H4 s4) (eva_c (ev_callMake (eva_c (ev_from 8 (V0 H4 s4)) eva_n) (hW.drop 8) (h3 rfl)) (eva_c (ev_callMD (S := noS) (eva_c (ev_from 5 (V0 H4 s4)) eva_n) (h2 (.inl rfl))) eva_n))))) (by exact (by decide : 5 ≤ 100000))) (Nat.zero_le _) fun H5 v5 d5 s5 hd5 e5 => by subst e5; exact q H5 v5 (s13.trans (s4.trans s5)) hd5
  have hn := of_decide_eq_false hb
  refine if_b (b := decide (k = "jump")) (eq _ _) (fun hb H5 s5 => ?_) (fun hb H5 s5 => ?_)
  · obtain rfl := of_decide_eq_true hb
    have s45 := s4.trans s5
    refine ev_retN (K := K) 0 (· = .tuple [.str "jump", .int (ivalW n), dateD r, dateD (r.drop 3)]) (ev_t (eva_c (ev_var (i := 1) rfl (.str _) rfl) (eva_c (ev_var (i := 2) rfl (.int _) rfl) (eva_c (V3 H5 s45) (eva_c (ev_callMD (S := noS) (eva_c (ev_from 5 (V0 H5 s45)) eva_n) (h2 (.inr rfl))) eva_n)))) (by exact (by decide : 4 ≤ 100000))) (Nat.zero_le _) fun H6 v6 d6 s6 hd6 e6 => by subst e6; exact q H6 v6 (s13.trans (s45.trans s6)) hd6
  have hn2 := of_decide_eq_false hb
  have s45 := s4.trans s5
  have ed : decD (k :: n :: r) = .tuple ([.str k, .int (ivalW n), dateD r] ++ (r.drop 3).map PyData.str) := by
    show (if k = "rule" then _ else if k = "jump" then _ else _) = _
    rw [if_neg hn, if_neg hn2]
    rfl
  rw [ed] at q
  refine ev_retN (K := K) 0 (· = .tuple ([.str k, .int (ivalW n), dateD r] ++ (r.drop 3).map PyData.str)) (ev_t (ds := [.str k, .int (ivalW n), dateD r] ++ (r.drop 3).map PyData.str) (eva_c (ev_var (i := 1) rfl (.str _) rfl) (eva_c (ev_var (i := 2) rfl (.int _) rfl) (eva_c (V3 H5 s45) ?_))) ?_) (Nat.zero_le _) fun H6 v6 d6 s6 hd6 e6 => by subst e6; exact q H6 v6 (s13.trans (s45.trans s6)) hd6
  · have e := eva_star (ev_from 5 (V0 H5 s45)) (eva_n (K := K) (S := noS) (a := none) (σ := [some v, some (.str k), some (.int (ivalW n)), some v3]) (H0 := H5))
    rw [List.append_nil] at e
    exact e
  · rw [List.length_append, List.length_map, List.length_drop]
    have := hW.1
    rw [List.length_cons, List.length_cons] at this
    show 3 + (r.length - 3) ≤ 100000
    omega
end

section
variable {P : Program} {w : World} {K : PySem.W.Frag} {mg : Str → Option Value} {base : Heap}
/-! #### dates and decrees read -/
theorem dig_lt : ∀ (l : List Nat) (acc : Nat), NumText.AllDigits l → l.foldl (fun n c => n * 10 + (c - 48)) acc < (acc + 1) * 10 ^ l.length
  | [], acc, _ => by simp
  | c :: l, acc, h => by
    have hc := h c List.mem_cons_self
    have ih := dig_lt l (acc * 10 + (c - 48)) fun d hd => h d (List.mem_cons_of_mem _ hd)
    rw [List.foldl_cons, List.length_cons]
    refine Nat.lt_of_lt_of_le ih ?_
    rw [Nat.pow_succ, Nat.mul_comm (10 ^ l.length) 10, ← Nat.mul_assoc]
    exact Nat.mul_le_mul_right _ (by omega)
theorem digits_lt {l : List Nat} (h : NumText.AllDigits l) (few : l.length ≤ 64) : NumText.digitsVal l < 10 ^ 64 := by
  have e := dig_lt l 0 h
  unfold NumText.digitsVal
  rw [Nat.zero_add, Nat.one_mul] at e
  exact Nat.lt_of_lt_of_le e (Nat.pow_le_pow_right (by decide) few)
theorem ival_lt {x : Str} (hi : intW x = true) (few : x.length ≤ 64) : (ivalW x).natAbs < 10 ^ 64 := by
  have l := TL.len_tl x
  by_cases hx : (TL.tl x).head? = some 45
  · obtain ⟨r, er⟩ : ∃ r, TL.tl x = 45 :: r := by
      cases e : TL.tl x with
      | nil => rw [e] at hx; cases hx
      | cons c r => rw [e] at hx; cases hx; exact ⟨r, rfl⟩
    have hd : NumText.AllDigits r := by
      unfold intW intL at hi
      rw [er] at hi
      obtain ⟨_, h2⟩ := Bool.and_eq_true_iff.mp (show (!r.isEmpty && (digL r && _)) = true from hi)
      exact digL_iff.mp (Bool.and_eq_true_iff.mp h2).1
    have e : ivalW x = -((NumText.digitsVal r : Nat) : Int) := by
      unfold ivalW
      rw [er]
      rfl
    rw [er, List.length_cons] at l
    have := digits_lt hd (by omega)
    rw [e]
    omega
  · rw [ivalW0 hx]
    have := digits_lt (intW0 hx hi).2 (by omega)
    omega
theorem fine_int {i : Int} (h : i.natAbs < 10 ^ 64) : fine (.int i) = true := by
  show decide (i.natAbs < 10 ^ 80) = true
  exact decide_eq_true (Nat.lt_trans h (by decide +kernel))
theorem name_tidy {a : Str} (h : nameStr a = true) : tidy a = true := tidy_iff.mpr fun c hc => by have := (name_inv h).2.2 c hc; omega
theorem dateD_good {ws : List Str} (h : DateOk ws) : fine (dateD ws) = true ∧ wt (dateD ws) ≤ 2000 ∧ (dateD ws).depth ≤ 1 := by
  obtain ⟨a, b, c, r, rfl, fa, ia, nb, fc, dc⟩ := h
  have hb := name_inv nb
  have hc := (dayW_inv dc).2
  refine ⟨?_, ?_, by show max 0 (max 0 (max 0 0)) + 1 ≤ 1; decide⟩
  · show (fine (.int (ivalW a)) && (tidy b && (fine (.int ((natW c : Nat) : Int)) && true))) = true
    rw [fine_int (ival_lt ia fa), name_tidy nb, fine_int (Nat.lt_of_le_of_lt (by omega : ((natW c : Nat) : Int).natAbs ≤ 60) (by decide +kernel))]
    rfl
  · show 300 + 4 + (10 * b.length + 4 + 4 + (300 + 4 + 0)) + 4 ≤ 2000
    omega
theorem ruleD_good2 {ws : List Str} (few : ws.length ≤ 1000) (h : ∀ w ∈ ws, w = sla ∨ monW w = true) : fine (ruleD ws) = true ∧ wt (ruleD ws) ≤ 400100 ∧ (ruleD ws).depth ≤ 3 := by
  have g := ruleD_good few h
  have hm := grp_mem ws h
  refine ⟨g.fin, ?_, ?_⟩
  · have w1 := grp_wt ws h
    show wtAll _ + 4 ≤ 400100
    omega
  · have : PyData.depthAll ((grp ws).map fun g => .tuple (g.map monD)) ≤ 2 := depthAll_le fun y hy => by
      obtain ⟨g, hg, rfl⟩ := List.mem_map.mp hy
      have : PyData.depthAll (g.map monD) ≤ 1 := depthAll_le fun m hm' => by
        obtain ⟨x, hx, rfl⟩ := List.mem_map.mp hm'
        exact (monD_good (hm g hg x hx)).2.2
      show PyData.depthAll (g.map monD) + 1 ≤ 2
      omega
    show PyData.depthAll _ + 1 ≤ 3
    omega
theorem strs_wt : ∀ {ws : List Str}, (∀ w ∈ ws, w.length ≤ 64) → wtAll (ws.map PyData.str) ≤ ws.length * 700
  | [], _ => Nat.le_refl _
  | w :: ws, h => by
    have ih := strs_wt fun v hv => h v (List.mem_cons_of_mem _ hv)
    have := h w List.mem_cons_self
    show 10 * w.length + 4 + 4 + wtAll (ws.map PyData.str) ≤ _
    rw [List.length_cons, Nat.succ_mul]
    omega
theorem wt_app : ∀ (ds es : List PyData), wtAll (ds ++ es) = wtAll ds + wtAll es
  | [], es => by show wtAll es = 0 + wtAll es; omega
  | d :: ds, es => by
    have ih := wt_app ds es
    show wt d + 4 + wtAll (ds ++ es) = wt d + 4 + wtAll ds + wtAll es
    omega
theorem decD_good {ws : List Str} (hW : Words ws) (h : DecOk ws) (hl : (ws.drop 5).length ≤ 5 ∨ ws.getD 0 "" = "rule" ∨ ws.getD 0 "" = "jump") : Good 900000 50 (decD ws) := by
  obtain ⟨k, n, r, rfl, fn, ni, hdt, h2, h3⟩ := h
  have gd := dateD_good hdt
  have gi := fine_int (ival_lt ni fn)
  have hk := hW.2 k List.mem_cons_self
  by_cases hr : k = "rule"
  · subst hr
    have g1 := dateD_good (h2 (.inl rfl))
    have g2 := ruleD_good2 (ws := r.drop 6) (by rw [List.length_drop]; have := hW.1; simp only [List.length_cons] at this; omega) (h3 rfl)
    have e : decD ("rule" :: n :: r) = .tuple [.str "rule", .int (ivalW n), dateD r, ruleD (r.drop 6), dateD (r.drop 3)] := rfl
    rw [e]
    refine ⟨?_, ?_, ?_⟩
    · show (tidy "rule" && (fine (.int (ivalW n)) && (fine (dateD r) && (fine (ruleD (r.drop 6)) && (fine (dateD (r.drop 3)) && true))))) = true
      rw [gi, gd.1, g2.1, g1.1, show tidy "rule" = true by decide +kernel]
      rfl
    · show 10 * Str.length "rule" + 4 + 4 + (300 + 4 + (wt (dateD r) + 4 + (wt (ruleD (r.drop 6)) + 4 + (wt (dateD (r.drop 3)) + 4 + 0)))) + 4 ≤ 900000
      rw [show Str.length "rule" = 4 by decide +kernel]
      have := gd.2.1
      have := g2.2.1
      have := g1.2.1
      omega
    · show max 0 (max 0 (max (dateD r).depth (max (ruleD (r.drop 6)).depth (max (dateD (r.drop 3)).depth 0)))) + 1 ≤ 50
      have := gd.2.2
      have := g2.2.2
      have := g1.2.2
      omega
  by_cases hj : k = "jump"
  · subst hj
    have g1 := dateD_good (h2 (.inr rfl))
    have e : decD ("jump" :: n :: r) = .tuple [.str "jump", .int (ivalW n), dateD r, dateD (r.drop 3)] := rfl
    rw [e]
    refine ⟨?_, ?_, ?_⟩
    · show (tidy "jump" && (fine (.int (ivalW n)) && (fine (dateD r) && (fine (dateD (r.drop 3)) && true)))) = true
      rw [gi, gd.1, g1.1, show tidy "jump" = true by decide +kernel]
      rfl
    · show 10 * Str.length "jump" + 4 + 4 + (300 + 4 + (wt (dateD r) + 4 + (wt (dateD (r.drop 3)) + 4 + 0))) + 4 ≤ 900000
      rw [show Str.length "jump" = 4 by decide +kernel]
      have := gd.2.1
      have := g1.2.1
      omega
    · show max 0 (max 0 (max (dateD r).depth (max (dateD (r.drop 3)).depth 0))) + 1 ≤ 50
      have := gd.2.2
      have := g1.2.2
      omega
  have hl : (r.drop 3).length ≤ 5 := by
    rcases hl with h | h | h
    · exact h
    · exact absurd h hr
    · exact absurd h hj
  have hs : ∀ w ∈ r.drop 3, w.length ≤ 64 ∧ tidy w = true := fun w hw => hW.2 w (List.mem_cons_of_mem _ (List.mem_cons_of_mem _ (List.mem_of_mem_drop hw)))
  have ed : decD (k :: n :: r) = .tuple ([.str k, .int (ivalW n), dateD r] ++ (r.drop 3).map PyData.str) := by
    show (if k = "rule" then _ else if k = "jump" then _ else _) = _
    rw [if_neg hr, if_neg hj]
    rfl
  rw [ed]
  generalize r.drop 3 = z at hl hs ⊢
  refine ⟨fineAllB_iff.mpr fun y hy => ?_, ?_, ?_⟩
  · rcases List.mem_append.mp hy with hy | hy
    · rcases List.mem_cons.mp hy with rfl | hy
      · exact hk.2
      rcases List.mem_cons.mp hy with rfl | hy
      · exact gi
      rw [List.mem_singleton.mp hy]
      exact gd.1
    · obtain ⟨w, hw, rfl⟩ := List.mem_map.mp hy
      exact (hs w hw).2
  · show wtAll ([.str k, .int (ivalW n), dateD r] ++ z.map PyData.str) + 4 ≤ 900000
    rw [wt_app]
    have := strs_wt fun w hw => (hs w hw).1
    have w3 : wtAll [.str k, .int (ivalW n), dateD r] = 10 * k.length + 4 + 4 + (300 + 4 + (wt (dateD r) + 4 + 0)) := rfl
    rw [w3]
    have := gd.2.1
    have := hk.1
    omega
  · have : PyData.depthAll ([.str k, .int (ivalW n), dateD r] ++ z.map PyData.str) ≤ 1 := depthAll_le fun y hy => by
      rcases List.mem_append.mp hy with hy | hy
      · rcases List.mem_cons.mp hy with rfl | hy
        · exact Nat.zero_le _
        rcases List.mem_cons.mp hy with rfl | hy
        · exact Nat.zero_le _
        rw [List.mem_singleton.mp hy]
        exact gd.2.2
      · obtain ⟨w, hw, rfl⟩ := List.mem_map.mp hy
        exact Nat.zero_le _
    show PyData.depthAll _ + 1 ≤ 50
    omega
/-- what a reader gives: the place, or the value -/
def spReadG (K : PySem.W.Frag) (CT : Addr) (R : Str → Nat ⊕ PyData) : Sp := fun vs H Q E => ∃ v d, vs = [v] ∧ Df K H v d ∧ Good 900000 50 d ∧ (∀ x, d = .str x → Words (wordsL x)) ∧
  (∀ x y, d = .str x → R x = .inr y → ∀ H' v', Same H H' → Df K H' v' y → Q v' H') ∧
  (∀ x k, d = .str x → R x = .inl k → ∀ H' dd, Same H H' → H' dd = none → E (.ref CT) (some dd) (upd H' dd (.xd [("place", .int (k : Nat))]))) ∧
  (isKstr d = false → ∀ H' dd, Same H H' → H' dd = none → E (.ref CT) (some dd) (upd H' dd (.xd [("place", .int (-1))])))
abbrev fDate : List Str := ["year", "name", "day"]
def readDL (x : Str) : Nat ⊕ PyData := match placeF (fDate.map formB) 0 (wordsL x) with
  | some k => .inl k
  | none => if 3 < (wordsL x).length then .inl 3 else .inr (dateD (wordsL x))
theorem date_of_place {k : Nat} {ws : List Str} (hW : Words ws) (h : placeF (fDate.map formB) k ws = none) : DateOk (ws.drop k) := by
  have st : ∀ (f : Str → Bool) (fs : List (Str → Bool)) (k : Nat), placeF (f :: fs) k ws = none → ∃ w, ws[k]? = some w ∧ f w = true ∧ placeF fs (k + 1) ws = none := by
    intro f fs k h
    unfold placeF at h
    cases e : ws[k]? with
    | none => rw [e] at h; cases h
    | some w =>
      rw [e] at h
      dsimp only at h
      by_cases hf : f w = true
      · rw [if_pos hf] at h
        exact ⟨w, rfl, hf, h⟩
      · rw [if_neg hf] at h
        cases h
  obtain ⟨a, ha, fa, h⟩ := st _ _ _ h
  obtain ⟨b, hb, fb, h⟩ := st _ _ _ h
  obtain ⟨c, hc, fc, h⟩ := st _ _ _ h
  have dr : ∀ {k : Nat} {w : Str}, ws[k]? = some w → ws.drop k = w :: ws.drop (k + 1) := fun {k w} e => by
    have hl := (List.getElem?_eq_some_iff.mp e).1
    rw [List.drop_eq_getElem_cons hl]
    rw [List.getElem?_eq_getElem hl] at e
    rw [Option.some.inj e]
  exact ⟨a, b, c, ws.drop (k + 3), by rw [dr ha, dr hb, dr hc], (hW.2 a (List.mem_of_getElem? ha)).1, fa, fb, (hW.2 c (List.mem_of_getElem? hc)).1, fc⟩
theorem ok_read_date (T : Top K mg) : FnOk P w K mg base (L2.CX P w) 6 T.a_read_date T.d_read_date ["text"] (spReadG K T.C_NoText readDL) := by
  have G_words_of : FnOk P w K mg base (L2.CX P w) 3 T.a_words_of T.d_words_of ["text"] (spWordsOf K T.C_NoText) := ok_words_of T
  have G_check_words : FnOk P w K mg base (L2.CX P w) 5 T.a_check_words T.d_check_words ["words", "at", "forms"] (spCW K T.C_NoText) := ok_check_words T
  have G_check_end : FnOk P w K mg base (L2.CX P w) 3 T.a_check_end T.d_check_end ["words", "at"] (spCE K T.C_NoText) := ok_check_end T
  have G_make_date : FnOk P w K mg base CX0 3 T.a_make_date T.d_make_date ["words"] (spMD K) := ok_make_date T
  refine T.F_read_date.okX sc_read_date (fun vs H Q E h => by obtain ⟨_, _, rfl, _⟩ := h; rfl) (fun cdv A outer s H vs Q E hr h => ?_)
  obtain ⟨v, d, rfl, hd, g, hw, q, qE, qN⟩ := h
  have hr5 : Room 5 _ := hr
  have hr3 : Room 3 _ := hr.mono (by decide)
  refine ⟨_, (pss_cons (ps_set (i := 1) sc_read_date.nd rfl (.inl rfl) (pe_call G_words_of hr3 (by rfl) T.m_words_of T.F_words_of.kp T.b_words_of .nil (passes_call (takes_of rfl rfl rfl rfl) (fun _ _ _ _ z => z)) (pa_cons (pv 0) pa_nil))) (pss_cons (ps_expr (pe_call G_check_words hr5 (by rfl) T.m_check_words T.F_check_words.kp T.b_check_words .nil (passes_call (takes_of rfl rfl rfl rfl) (fun _ _ _ _ z => z)) (pa_cons (pv 1) (pa_cons pe_int (pa_cons (pe_glob (v := .ref T.A_DATE_FORMS) (by rfl) T.v_DATE_FORMS rfl) pa_nil))))) (pss_cons (ps_expr (pe_call G_check_end hr3 (by rfl) T.m_check_end T.F_check_end.kp T.b_check_end .nil (passes_call (takes_of rfl rfl rfl rfl) (fun _ _ _ _ z => z)) (pa_cons (pv 1) (pa_cons (pe_callB call_len_seq (by rfl) T.n_len PySem.boot_len (pa_cons (pe_glob (v := .ref T.A_DATE_FORMS) (by rfl) T.v_DATE_FORMS rfl) pa_nil)) pa_nil)))) (pss_one (ps_ret (pe_call G_make_date hr3 (by rfl) T.m_make_date T.F_make_date.kp T.b_make_date .nil pass0 (pa_cons (pv 1) pa_nil))))))), ?_⟩
  refine ⟨v, rfl, v, d, rfl, hd, g, fun x ex H1 v1 s1 hd1 => ?_, fun z H1 dd s1 hdd => qN z H1 dd s1 hdd⟩
  have q := fun y => q x y ex
  have qE := fun k => qE x k ex
  have hW := hw x ex
  unfold readDL at q qE
  generalize wordsL x = ws at *
  dsimp only [gName, List.set]
  refine ⟨v1, rfl, v1, ws, 0, T.A_DATE_FORMS, fDate, rfl, hd1, hW, by decide, by decide, by decide, T.t_DATE_FORMS, fun ep H2 s2 => ?_, fun k ep H2 dd s2 hdd => ?_⟩
  · rw [ep] at q qE
    dsimp only at q qE
    have s12 := s1.trans s2
    refine ⟨v1, rfl, T.A_DATE_FORMS, _, rfl, .inr (T.t_DATE_FORMS H2).sqT, v1, ws, 3, rfl, Df.to hd1 s2, fun hl H3 s3 => ?_, fun hl H3 dd s3 hdd => ?_⟩
    · rw [if_neg (by omega)] at q
      exact ⟨v1, rfl, v1, ws, rfl, Df.to hd1 (s2.trans s3), date_of_place hW ep, fun H4 u s4 hu => q _ rfl H4 u (s12.trans (s3.trans s4)) hu⟩
    · rw [if_pos hl] at qE
      exact qE 3 rfl H3 dd (s12.trans s3) hdd
  · rw [ep] at qE
    exact qE k rfl H2 dd (s1.trans s2) hdd
end

section
variable {P : Program} {w : World} {K : PySem.W.Frag} {mg : Str → Option Value} {base : Heap}
/-! #### a decree read -/
theorem placeF_cons {f : Str → Bool} {fs : List (Str → Bool)} {k : Nat} {ws : List Str} (h : placeF (f :: fs) k ws = none) : ∃ w, ws[k]? = some w ∧ f w = true ∧ placeF fs (k + 1) ws = none := by
  unfold placeF at h
  cases e : ws[k]? with
  | none => rw [e] at h; cases h
  | some w =>
    rw [e] at h
    dsimp only at h
    by_cases hf : f w = true
    · rw [if_pos hf] at h
      exact ⟨w, rfl, hf, h⟩
    · rw [if_neg hf] at h
      cases h
theorem placeF_app : ∀ {fs gs : List (Str → Bool)} {k : Nat} {ws : List Str}, placeF (fs ++ gs) k ws = none → placeF fs k ws = none ∧ placeF gs (k + fs.length) ws = none
  | [], gs, k, ws, h => ⟨rfl, h⟩
  | f :: fs, gs, k, ws, h => by
    obtain ⟨w, hw, hf, h⟩ := placeF_cons (show placeF (f :: (fs ++ gs)) k ws = none from h)
    obtain ⟨h1, h2⟩ := placeF_app h
    refine ⟨?_, by rw [List.length_cons, show k + (fs.length + 1) = k + 1 + fs.length by omega]; exact h2⟩
    unfold placeF
    rw [hw]
    dsimp only
    rw [if_pos hf]
    exact h1
theorem placeF_len : ∀ {fs : List (Str → Bool)} {k : Nat} {ws : List Str}, placeF fs k ws = none → fs = [] ∨ k + fs.length ≤ ws.length
  | [], _, _, _ => .inl rfl
  | f :: fs, k, ws, h => by
    obtain ⟨w, hw, hf, h⟩ := placeF_cons h
    have hl := (List.getElem?_eq_some_iff.mp hw).1
    rcases placeF_len h with e | e
    · subst e
      exact .inr (by rw [List.length_singleton]; omega)
    · exact .inr (by rw [List.length_cons]; omega)
abbrev f7 : List Str := ["made", "year", "name", "day", "year", "name", "day"]
abbrev f6 : List Str := ["made", "year", "name", "day", "name", "name"]
abbrev f4 : List Str := ["made", "year", "name", "day"]
def fKind (k : Str) : Option (List Str) := if k = "rule" then some f7 else if k = "jump" then some f7 else if k = "rename" then some f6 else if k = "restore" then some f4 else none
theorem tab_dec (T : Top K mg) (z : Str) : (fKind z = none ∧ tabF [("rule", T.A_DECREE_FORMS_rule), ("jump", T.A_DECREE_FORMS_jump), ("rename", T.A_DECREE_FORMS_rename), ("restore", T.A_DECREE_FORMS_restore)] z = none) ∨
    ∃ fs A, fKind z = some fs ∧ tabF [("rule", T.A_DECREE_FORMS_rule), ("jump", T.A_DECREE_FORMS_jump), ("rename", T.A_DECREE_FORMS_rename), ("restore", T.A_DECREE_FORMS_restore)] z = some A ∧ ∀ H, SqF K H A (fs.map V.str) := by
  by_cases h1 : z = "rule"
  · subst h1
    exact .inr ⟨f7, _, rfl, rfl, T.t_DECREE_FORMS_rule⟩
  by_cases h2 : z = "jump"
  · subst h2
    exact .inr ⟨f7, _, rfl, rfl, T.t_DECREE_FORMS_jump⟩
  by_cases h3 : z = "rename"
  · subst h3
    exact .inr ⟨f6, _, rfl, rfl, T.t_DECREE_FORMS_rename⟩
  by_cases h4 : z = "restore"
  · subst h4
    exact .inr ⟨f4, _, rfl, rfl, T.t_DECREE_FORMS_restore⟩
  refine .inl ⟨by unfold fKind; rw [if_neg h1, if_neg h2, if_neg h3, if_neg h4], ?_⟩
  unfold tabF
  rw [List.find?_cons_of_neg (by simpa using Ne.symm h1), List.find?_cons_of_neg (by simpa using Ne.symm h2), List.find?_cons_of_neg (by simpa using Ne.symm h3), List.find?_cons_of_neg (by simpa using Ne.symm h4)]
  rfl
def placeK (ws : List Str) : Option Nat :=
  match fKind (ws.getD 0 "") with
  | none => some 0
  | some fs => match placeF (fs.map formB) 1 ws with
    | some j => some j
    | none => if ws.getD 0 "" = "rule" then placeL true (1 + fs.length) (ws.drop (1 + fs.length)) else if 1 + fs.length < ws.length then some (1 + fs.length) else none
def readKL (x : Str) : Nat ⊕ PyData := match placeK (wordsL x) with
  | some k => .inl k
  | none => if isDecree (decD (wordsL x)) = true then .inr (decD (wordsL x)) else .inl (wordsL x).length
theorem whole_int {x : Str} (h : wholeW x = true) : intW x = true := by
  rw [← cnt_eq] at h
  exact (Bool.and_eq_true_iff.mp h).1
theorem fKind_inv {k : Str} {fs : List Str} (h : fKind k = some fs) : (k = "rule" ∧ fs = f7) ∨ (k = "jump" ∧ fs = f7) ∨ (k = "rename" ∧ fs = f6) ∨ (k = "restore" ∧ fs = f4) := by
  unfold fKind at h
  by_cases h1 : k = "rule"
  · rw [if_pos h1] at h; exact .inl ⟨h1, (Option.some.inj h).symm⟩
  rw [if_neg h1] at h
  by_cases h2 : k = "jump"
  · rw [if_pos h2] at h; exact .inr (.inl ⟨h2, (Option.some.inj h).symm⟩)
  rw [if_neg h2] at h
  by_cases h3 : k = "rename"
  · rw [if_pos h3] at h; exact .inr (.inr (.inl ⟨h3, (Option.some.inj h).symm⟩))
  rw [if_neg h3] at h
  by_cases h4 : k = "restore"
  · rw [if_pos h4] at h; exact .inr (.inr (.inr ⟨h4, (Option.some.inj h).symm⟩))
  rw [if_neg h4] at h
  cases h
/-- words that are right: as make_decree wants them -/
theorem dec_of_place {ws : List Str} (hW : Words ws) (h : placeK ws = none) : ∃ k n r fs, ws = k :: n :: r ∧ fKind k = some fs ∧ placeF (fs.map formB) 1 ws = none ∧ 1 + fs.length ≤ ws.length ∧ wholeW n = true ∧ DecOk ws ∧ ((ws.drop 5).length ≤ 5 ∨ ws.getD 0 "" = "rule" ∨ ws.getD 0 "" = "jump") ∧ (k ≠ "rule" → ws.length = 1 + fs.length) ∧ (k = "rule" → placeL true 8 (ws.drop 8) = none) := by
  unfold placeK at h
  cases ef : fKind (ws.getD 0 "") with
  | none => rw [ef] at h; cases h
  | some fs =>
    rw [ef] at h
    dsimp only at h
    cases ep : placeF (fs.map formB) 1 ws with
    | some j => rw [ep] at h; cases h
    | none =>
      rw [ep] at h
      dsimp only at h
      have inv := fKind_inv ef
      obtain ⟨gs, rfl⟩ : ∃ gs, fs = f4 ++ gs := by
        rcases inv with ⟨_, e⟩ | ⟨_, e⟩ | ⟨_, e⟩ | ⟨_, e⟩ <;> exact ⟨_, e⟩
      have hl : 1 + (f4 ++ gs).length ≤ ws.length := by
        rcases placeF_len ep with e | e
        · cases e
        · rw [List.length_map] at e
          exact e
      rw [List.map_append] at ep
      obtain ⟨e1, e2⟩ := placeF_app ep
      obtain ⟨n, hn, fn, e3⟩ := placeF_cons e1
      have fn : wholeW n = true := fn
      have d1 := date_of_place hW e3
      have l5 : 5 ≤ ws.length := by
        rw [List.length_append] at hl
        have : f4.length = 4 := rfl
        omega
      obtain ⟨k, r, rfl⟩ : ∃ k r, ws = k :: n :: r := by
        match ws, hn with
        | k :: _ :: r, e => cases e; exact ⟨k, r, rfl⟩
      have h2 : k = "rule" ∨ k = "jump" → DateOk ((k :: n :: r).drop 5) := fun z => by
        have : gs = fDate := by
          rcases inv with ⟨_, e⟩ | ⟨_, e⟩ | ⟨hk, _⟩ | ⟨hk, _⟩
          · exact List.append_cancel_left (as := f4) e
          · exact List.append_cancel_left (as := f4) e
          · have hk : k = "rename" := hk
            rw [hk] at z
            rcases z with z | z <;> exact absurd z (by decide +kernel)
          · have hk : k = "restore" := hk
            rw [hk] at z
            rcases z with z | z <;> exact absurd z (by decide +kernel)
        subst this
        exact date_of_place hW e2
      have hR : k = "rule" → placeL true 8 ((k :: n :: r).drop 8) = none := fun z => by
        subst z
        have e : gs = fDate := by
          rcases inv with ⟨_, e⟩ | ⟨hk, _⟩ | ⟨hk, _⟩ | ⟨hk, _⟩
          · exact List.append_cancel_left (as := f4) e
          · exact absurd (show ("rule" : Str) = "jump" from hk) (by decide +kernel)
          · exact absurd (show ("rule" : Str) = "rename" from hk) (by decide +kernel)
          · exact absurd (show ("rule" : Str) = "restore" from hk) (by decide +kernel)
        subst e
        exact h
      have hN : k ≠ "rule" → (k :: n :: r).length = 1 + (f4 ++ gs).length := fun z => by
        rw [if_neg (show ¬ ((k :: n :: r).getD 0 "" = "rule") from z)] at h
        by_cases hlt : 1 + (f4 ++ gs).length < (k :: n :: r).length
        · rw [if_pos hlt] at h
          cases h
        · omega
      refine ⟨k, n, r, _, rfl, ef, by rw [List.map_append]; exact ep, hl, fn, ⟨k, n, r, rfl, (hW.2 n (by simp)).1, whole_int fn, d1, h2, fun z => ?_⟩, ?_, hN, hR⟩
      · exact place_all _ _ _ (hR z)
      · by_cases z : k = "rule"
        · exact .inr (.inl z)
        have := hN z
        refine .inl ?_
        rw [List.length_drop, this]
        have : (f4 ++ gs).length ≤ 7 := by
          rcases inv with ⟨_, e⟩ | ⟨_, e⟩ | ⟨_, e⟩ | ⟨_, e⟩ <;> rw [e] <;> decide
        omega
theorem ok_read_decree (T : Top K mg) (hp : T.par = w.params) : FnOk P w K mg base (L2.CX P w) 8 T.a_read_decree T.d_read_decree ["text"] (spReadG K T.C_NoText readKL) := by
  have G_words_of : FnOk P w K mg base (L2.CX P w) 3 T.a_words_of T.d_words_of ["text"] (spWordsOf K T.C_NoText) := ok_words_of T
  have G_check_words : FnOk P w K mg base (L2.CX P w) 5 T.a_check_words T.d_check_words ["words", "at", "forms"] (spCW K T.C_NoText) := ok_check_words T
  have G_check_end : FnOk P w K mg base (L2.CX P w) 3 T.a_check_end T.d_check_end ["words", "at"] (spCE K T.C_NoText) := ok_check_end T
  have G_check_rule_words : FnOk P w K mg base (L2.CX P w) 5 T.a_check_rule_words T.d_check_rule_words ["words", "at"] (spCheck K T.C_NoText) := ok_check_rule_words T
  have G_make_decree : FnOk P w K mg base CX0 4 T.a_make_decree T.d_make_decree ["words"] (spMK K) := ok_make_decree T
  have G_is_decree : FnOk P w K mg base CX0 7 T.a_is_decree T.d_is_decree ["thing"] (spB K isDecree) := ok_is_decree T
  have tk := T.k_DECREE_FORMS
  rw [hp] at tk
  obtain ⟨es, nn, KD⟩ := tk.dict
  refine T.F_read_decree.okX sc_read_decree (fun vs H Q E h => by obtain ⟨_, _, rfl, _⟩ := h; rfl) (fun cdv A outer s H vs Q E hr h => ?_)
  obtain ⟨v, d, rfl, hd, g, hw, q, qE, qN⟩ := h
  have hr2 : Room 2 _ := hr.mono (by decide)
  have hr3 : Room 3 _ := hr.mono (by decide)
  have hr4 : Room 4 _ := hr.mono (by decide)
  have hr5 : Room 5 _ := hr.mono (by decide)
  refine ⟨_, (pss_cons (ps_set (i := 1) sc_read_decree.nd rfl (.inl rfl) (pe_call G_words_of hr3 (by rfl) T.m_words_of T.F_words_of.kp T.b_words_of .nil (passes_call (takes_of rfl rfl rfl rfl) (fun _ _ _ _ z => z)) (pa_cons (pv 0) pa_nil))) (pss_cons (ps_if (PW.pt (pw_or (pt_not (pt_truth (pv 1) (fun _ => rfl))) (pw_or1 (pt_cmpR (op_notIn_kd KD) (pe_ix ix_list (pv 1) pe_int (fun _ _ => rfl)) (pe_glob (v := .ref T.A_DECREE_FORMS) (by rfl) T.v_DECREE_FORMS rfl) (by rfl))))) (pss_one (ps_raise rfl (takes_of rfl rfl rfl rfl) (pmk_oex T.X_NoText.o T.X_NoText.iC T.X_NoText.tI (ok_init_NoText T) hr2 T.X_NoText.b .nil pass0 (by rfl) T.X_NoText.g (pa_cons pe_int pa_nil)))) pss_nil) (pss_cons (ps_set (i := 2) sc_read_decree.nd rfl (.inl rfl) (pe_ix ix_kdict (pe_glob (v := .ref T.A_DECREE_FORMS) (by rfl) T.v_DECREE_FORMS rfl) (pe_ix ix_list (pv 1) pe_int (fun _ _ => rfl)) (fun _ _ => rfl))) (pss_cons (ps_expr (pe_call G_check_words hr5 (by rfl) T.m_check_words T.F_check_words.kp T.b_check_words .nil (passes_call (takes_of rfl rfl rfl rfl) (fun _ _ _ _ z => z)) (pa_cons (pv 1) (pa_cons pe_int (pa_cons (pv 2) pa_nil))))) (pss_cons (ps_if (pt_cmpR op_eq (pe_ix ix_list (pv 1) pe_int (fun _ _ => rfl)) pe_str (by rfl)) (pss_one (ps_expr (pe_call G_check_rule_words hr5 (by rfl) T.m_check_rule_words T.F_check_rule_words.kp T.b_check_rule_words .nil (passes_call (takes_of rfl rfl rfl rfl) (fun _ _ _ _ z => z)) (pa_cons (pv 1) (pa_cons (pe_op op_add pe_int (pe_callB call_len_seq (by rfl) T.n_len PySem.boot_len (pa_cons (pv 2) pa_nil))) pa_nil))))) (pss_one (ps_expr (pe_call G_check_end hr3 (by rfl) T.m_check_end T.F_check_end.kp T.b_check_end .nil (passes_call (takes_of rfl rfl rfl rfl) (fun _ _ _ _ z => z)) (pa_cons (pv 1) (pa_cons (pe_op op_add pe_int (pe_callB call_len_seq (by rfl) T.n_len PySem.boot_len (pa_cons (pv 2) pa_nil))) pa_nil)))))) (pss_cons (ps_set (i := 3) sc_read_decree.nd rfl (.inl rfl) (pe_call G_make_decree hr4 (by rfl) T.m_make_decree T.F_make_decree.kp T.b_make_decree .nil pass0 (pa_cons (pv 1) pa_nil))) (pss_cons (ps_if (pt_not (pt_val (pe_call G_is_decree hr (by rfl) T.m_is_decree T.F_is_decree.kp T.b_is_decree .nil pass0 (pa_cons (pv 3) pa_nil)))) (pss_one (ps_raise rfl (takes_of rfl rfl rfl rfl) (pmk_oex T.X_NoText.o T.X_NoText.iC T.X_NoText.tI (ok_init_NoText T) hr2 T.X_NoText.b .nil pass0 (by rfl) T.X_NoText.g (pa_cons (pe_callB call_len_seq (by rfl) T.n_len PySem.boot_len (pa_cons (pv 1) pa_nil)) pa_nil)))) pss_nil) (pss_one (ps_ret (pv 3)))))))))), ?_⟩
  refine ⟨v, rfl, v, d, rfl, hd, g, fun x ex H1 v1 s1 hd1 => ?_, fun z H1 dd s1 hdd => qN z H1 dd s1 hdd⟩
  have q := fun y => q x y ex
  have qE := fun k => qE x k ex
  have hW := hw x ex
  unfold readKL at q qE
  generalize wordsL x = ws at *
  dsimp only [gName, List.set]
  have V1 : ∀ {y2 y3 : Option V} {G : Hp}, Same H1 G → Ev K noS none [some v, some v1, y2, y3] G (tVar 1) 0 (· = .list (ws.map PyData.str)) := fun s => ev_var (i := 1) rfl (dp_no (Df.to hd1 s)) rfl
  have I0 : ∀ {y2 y3 : Option V} {G : Hp} {k : Str} {r : List Str}, ws = k :: r → Same H1 G → Ev K noS none [some v, some v1, y2, y3] G (tOp (rIxL K) (tVar 1) (tC (.int 0))) 0 (· = .str k) := fun {y2 y3 G k r} e s => ev_ixLX (m1 := 0) (m2 := 0) (V1 s) (ev_int (i := 0) rfl) (by rw [e]; exact atI_strs (ws := k :: r) (i := 0) rfl)
  have raise0 : ∀ {G : Hp}, placeK ws = some 0 → Same H1 G → tMkO T.C_NoText (spExc T.C_NoText "place") [] (tCons (tC (.int 0)) tNil) [some v, some v1, none, none] G E := fun e s => mkO_goE (v := .int 0) (fun Q k => k _ (Same.refl _)) fun H5 dd s5 hdd => by
    rw [e] at qE
    exact qE 0 rfl H5 dd (s1.trans (s.trans s5)) hdd
  rcases ws with _ | ⟨k, r⟩
  · refine if_b (b := true || false) (evb_or (evb_empty (V1 (Same.refl _))) fun z => nomatch z) (fun _ H2 s2 => raise0 rfl s2) (fun z => nomatch z)
  rcases tab_dec T k with ⟨hk, ht⟩ | ⟨fs, A, hk, ht, hS⟩
  · have ep : placeK (k :: r) = some 0 := by
      unfold placeK
      rw [show (k :: r).getD 0 "" = k from rfl, hk]
    refine if_b (b := false || !(none : Option Addr).isSome) (evb_or (evb_empty (V1 (Same.refl _))) fun _ => by
      have e := evb_notKD tk (I0 (y2 := none) (y3 := none) rfl (Same.refl H1))
      rw [ht] at e
      exact e) (fun _ H2 s2 => raise0 ep s2) (fun z => nomatch z)
  refine if_b (b := false || !(some A).isSome) (evb_or (evb_empty (V1 (Same.refl _))) fun _ => by
    have e := evb_notKD tk (I0 (y2 := none) (y3 := none) rfl (Same.refl H1))
    rw [ht] at e
    exact e) (fun z => nomatch z) (fun _ H2 s2 => ?_)
  refine ev_setKD (I0 rfl s2) (tk.dct ht) fun H3 s3 => ?_
  have s23 := s2.trans s3
  dsimp only [List.set]
  have lfs : fs.length ≤ 10 ∧ ∀ f ∈ fs, f ∈ forms4 := by
    rcases fKind_inv hk with ⟨_, e⟩ | ⟨_, e⟩ | ⟨_, e⟩ | ⟨_, e⟩ <;> rw [e] <;> exact ⟨by decide, by decide +kernel⟩
  refine ⟨v1, rfl, .ref A, rfl, v1, k :: r, 1, A, fs, rfl, Df.to hd1 s23, hW, by decide, lfs.1, lfs.2, hS, fun ep H4 s4 => ?_, fun j ep H4 dd s4 hdd => ?_⟩
  · have s24 := s23.trans s4
    have hpl : placeK (k :: r) = if k = "rule" then placeL true (1 + fs.length) ((k :: r).drop (1 + fs.length)) else if 1 + fs.length < (k :: r).length then some (1 + fs.length) else none := by
      unfold placeK
      rw [show (k :: r).getD 0 "" = k from rfl, hk]
      dsimp only
      rw [ep]
    have hlen : 1 + fs.length ≤ (k :: r).length := by
      rcases placeF_len ep with e | e
      · have : fs = [] := List.map_eq_nil_iff.mp e
        rw [this, List.length_cons]
        show 1 + 0 ≤ _
        omega
      · rw [List.length_map] at e
        exact e
    have eI : [v1, V.int (1 + (((fs.map V.str).length : Nat) : Int))] = [v1, V.int ((1 + fs.length : Nat) : Int)] := by
      rw [List.length_map, show ((1 + fs.length : Nat) : Int) = 1 + ((fs.length : Nat) : Int) by omega]
    refine if_b (b := decide (k = "rule")) (evb_val (K := K) (m := 0) (ev_eqS (m1 := 0) (m2 := 0) (I0 rfl s24) (ev_str rfl) rfl) (Nat.zero_le _)) (fun hb H5 s5 => ?_) (fun hb H5 s5 => ?_)
    · rw [if_pos (of_decide_eq_true hb)] at hpl
      refine ⟨v1, rfl, .ref A, rfl, A, fs.map V.str, rfl, .inr (hS H5).sqT, 1, _, rfl, rfl, v1, k :: r, 1 + fs.length, eI, Df.to hd1 (s24.trans s5), hW, hlen, fun e6 H6 s6 => ?_, fun j e6 H6 dd s6 hdd => ?_⟩
      · have epn : placeK (k :: r) = none := hpl.trans e6
        have sG := s24.trans (s5.trans s6)
        obtain ⟨k', n', r', fs', e0, _, _, _, _, dok, hl, _, _⟩ := dec_of_place hW epn
        refine ⟨v1, rfl, v1, k :: r, rfl, Df.to hd1 sG, hW, dok, fun H7 u s7 hu => ?_⟩
        dsimp only [gName, List.set]
        have gD := decD_good hW dok hl
        rw [epn] at q qE
        dsimp only at q qE
        refine if_b (b := !isDecree (decD (k :: r))) (evb_not (evb_test (K := K) (m := 0) (ev_callB (R := (· = [decD (k :: r)])) (eva_c (ev_var (i := 3) rfl (dp_no hu) rfl) eva_n) (fun l e => ⟨_, e, gD, rfl⟩)) (Nat.zero_le _))) (fun hb H8 s8 => ?_) (fun hb H8 s8 => ?_)
        · have hb : isDecree (decD (k :: r)) = false := by cases h : isDecree (decD (k :: r)) <;> rw [h] at hb <;> first | rfl | exact nomatch hb
          rw [if_neg (by rw [hb]; exact Bool.false_ne_true)] at qE
          refine mkO_goE (v := .int ((k :: r).length : Nat)) (fun Q k' => ev_no (K := K) 0 (· = .int ((k :: r).length : Nat)) ?_ (Nat.zero_le _) fun H9 v9 d9 s9 hd9 e9 => by subst e9; cases hd9; exact k' H9 s9) fun H9 dd s9 hdd => qE _ rfl H9 dd (s1.trans (sG.trans (s7.trans (s8.trans s9)))) hdd
          have e := ev_lenX (K := K) (S := noS) (a := none) (m := 0) (σ := [some v, some v1, some (.ref A), some u]) (H0 := H8) (es := (k :: r).map PyData.str) (eva_c (V1 (sG.trans (s7.trans s8))) eva_n)
          rw [List.length_map] at e
          exact e
        · have hb : isDecree (decD (k :: r)) = true := by cases h : isDecree (decD (k :: r)) <;> rw [h] at hb <;> first | rfl | exact nomatch hb
          rw [if_pos hb] at q
          exact ⟨u, rfl, q _ rfl H8 u (s1.trans (sG.trans (s7.trans s8))) (Df.to hu s8)⟩
      · rw [hpl.trans e6] at qE
        exact qE j rfl H6 dd (s1.trans (s24.trans (s5.trans s6))) hdd
    · rw [if_neg (of_decide_eq_false hb)] at hpl
      refine ⟨v1, rfl, .ref A, rfl, A, fs.map V.str, rfl, .inr (hS H5).sqT, 1, _, rfl, rfl, v1, k :: r, 1 + fs.length, eI, Df.to hd1 (s24.trans s5), fun e6 H6 s6 => ?_, fun e6 H6 dd s6 hdd => ?_⟩
      · rw [if_neg (by omega)] at hpl
        have epn : placeK (k :: r) = none := hpl
        have sG := s24.trans (s5.trans s6)
        obtain ⟨k', n', r', fs', e0, _, _, _, _, dok, hl, _, _⟩ := dec_of_place hW epn
        refine ⟨v1, rfl, v1, k :: r, rfl, Df.to hd1 sG, hW, dok, fun H7 u s7 hu => ?_⟩
        dsimp only [gName, List.set]
        have gD := decD_good hW dok hl
        rw [epn] at q qE
        dsimp only at q qE
        refine if_b (b := !isDecree (decD (k :: r))) (evb_not (evb_test (K := K) (m := 0) (ev_callB (R := (· = [decD (k :: r)])) (eva_c (ev_var (i := 3) rfl (dp_no hu) rfl) eva_n) (fun l e => ⟨_, e, gD, rfl⟩)) (Nat.zero_le _))) (fun hb H8 s8 => ?_) (fun hb H8 s8 => ?_)
        · have hb : isDecree (decD (k :: r)) = false := by cases h : isDecree (decD (k :: r)) <;> rw [h] at hb <;> first | rfl | exact nomatch hb
          rw [if_neg (by rw [hb]; exact Bool.false_ne_true)] at qE
          refine mkO_goE (v := .int ((k :: r).length : Nat)) (fun Q k' => ev_no (K := K) 0 (· = .int ((k :: r).length : Nat)) ?_ (Nat.zero_le _) fun H9 v9 d9 s9 hd9 e9 => by subst e9; cases hd9; exact k' H9 s9) fun H9 dd s9 hdd => qE _ rfl H9 dd (s1.trans (sG.trans (s7.trans (s8.trans s9)))) hdd
          have e := ev_lenX (K := K) (S := noS) (a := none) (m := 0) (σ := [some v, some v1, some (.ref A), some u]) (H0 := H8) (es := (k :: r).map PyData.str) (eva_c (V1 (sG.trans (s7.trans s8))) eva_n)
          rw [List.length_map] at e
          exact e
        · have hb : isDecree (decD (k :: r)) = true := by cases h : isDecree (decD (k :: r)) <;> rw [h] at hb <;> first | rfl | exact nomatch hb
          rw [if_pos hb] at q
          exact ⟨u, rfl, q _ rfl H8 u (s1.trans (sG.trans (s7.trans s8))) (Df.to hu s8)⟩
      · rw [if_pos e6] at hpl
        rw [hpl] at qE
        exact qE _ rfl H6 dd (s1.trans (s24.trans (s5.trans s6))) hdd
  · have e : placeK (k :: r) = some j := by
      unfold placeK
      rw [show (k :: r).getD 0 "" = k from rfl, hk]
      dsimp only
      rw [ep]
    rw [e] at qE
    exact qE j rfl H4 dd (s1.trans (s23.trans s4)) hdd
end

section
variable {P : Program} {w : World} {K : PySem.W.Frag} {mg : Str → Option Value} {base : Heap}
/-! #### integers, dates and decrees written -/
theorem EvB.now {σ : L2.St} {H : Hp} {tt : TT} {b : Bool} {Q : Bool → Hp → Prop} (h : EvB σ H tt b) (q : ∀ H', Same H H' → Q b H') : tt σ H Q := h H (Same.refl _) Q q
theorem num_whole {x : Str} (h : wholeW x = true) : TL.numL (natW x) = TL.tl x := by
  obtain ⟨ne, dg⟩ := wholeW_inv h
  have h2 : decide (TL.tl x = [48]) = true ∨ (!decide ((TL.tl x).head? = some 48)) = true := by
    obtain ⟨_, h2⟩ := Bool.and_eq_true_iff.mp (show (!(TL.tl x).isEmpty && (digL (TL.tl x) && (decide (TL.tl x = [48]) || !decide ((TL.tl x).head? = some 48)))) = true from h)
    exact (Bool.or_eq_true _ _).mp (Bool.and_eq_true_iff.mp h2).2
  unfold natW
  generalize TL.tl x = l at ne dg h2 ⊢
  obtain ⟨c, r, rfl⟩ : ∃ c r, l = c :: r := by
    cases l with
    | nil => exact absurd rfl ne
    | cons c r => exact ⟨c, r, rfl⟩
  have hc := dg c List.mem_cons_self
  have e := NumText.toDigits_digitsVal r.length (c :: r) (by simp) dg (by
    rcases h2 with h2 | h2
    · have := of_decide_eq_true h2
      cases this
      exact .inl rfl
    · refine .inr ⟨c, r, rfl, ?_⟩
      have : c ≠ 48 := fun z => by
        rw [z] at h2
        exact nomatch h2
      omega)
  unfold TL.numL
  rw [e, List.map_map]
  refine (List.map_congr_left fun d hd => ?_).trans (List.map_id _)
  have := dg d hd
  show (Char.ofNat d).toNat = d
  have hv : d.isValidChar := .inl (by omega)
  unfold Char.ofNat
  rw [dif_pos hv]
  rfl
theorem show_whole {x : Str} (h : wholeW x = true) : Str.ofString (toString ((natW x : Nat) : Int)) = x := TL.ext_tl (by rw [TL.tl_num, num_whole h])
def spWr : Sp := fun vs H Q _ => ∃ x : Str, vs = [.int (ivalW x)] ∧ x.length ≤ 64 ∧ intW x = true ∧ ∀ H', Same H H' → Q (.str x) H'
def spWr0 : Sp := fun vs H Q E => ∃ x : Str, vs = [.int ((natW x : Nat) : Int)] ∧ x.length ≤ 64 ∧ wholeW x = true ∧ ∀ H', Same H H' → Q (.str x) H'
theorem ok_write_integer0 (T : Top K mg) : FnOk P w K mg base CX0 1 T.a_write_integer T.d_write_integer ["number"] spWr0 := by
  refine T.F_write_integer.ok sc_write_integer (fun vs H Q E h => by obtain ⟨_, rfl, _⟩ := h; rfl) (fun cdv A outer s H vs Q E hr h => ?_)
  obtain ⟨x, rfl, few, hi, q⟩ := h
  refine ⟨_, (pss_cons (ps_if (pt_cmpR op_lt (pv 0) pe_int (by rfl)) pss_never pss_nil) (pss_cons (ps_set (i := 1) sc_write_integer.nd rfl (.inl rfl) (pe_lst (pa_cons (pe_gc (v := .int 10000000000000000000000000000000000000000000000000000000000000000) (by rfl) (let ⟨t, h⟩ := T.v_PIECE_END; ⟨_, h, ⟨t, rfl⟩⟩)) pa_nil))) (pss_cons (ps_while PassesOwn.never (pt_cmpR op_le (pe_ix ix_list (pv 1) (pe_un un_neg pe_int) (fun _ _ => rfl)) (pv 0) (by rfl)) pss_never) (pss_cons (ps_set (i := 2) sc_write_integer.nd rfl (.inl rfl) (pe_lst (pa_cons (pv 0) pa_nil))) (pss_cons (ps_for PassesOwn.never rfl (pi_reversed (by rfl) T.n_reversed (pa_cons (pe_slice sl_list (pv 1) po_none (po_some (pe_un un_neg pe_int))) pa_nil)) (pg_name (i := 3) sc_write_integer.nd rfl (.inr rfl)) pss_never) (pss_cons (ps_set (i := 4) sc_write_integer.nd rfl (.inl rfl) (pe_join pe_str (pe_lc (own := [("piece", 5)]) (g := gName 5) (tt := tYes) (by rfl) sc_write_integer.nd (pi_list (pv 2)) (blkOk_by (own := [("piece", 5)]) (N := ["number", "ends", "pieces", "end", "digits", "piece", "half"]) (sc := defScope s_write_integer) (by decide +kernel)) (fun _ _ _ _ _ => (pg_name (i := 5) sc_write_integer.nd rfl (.inl rfl))) (fun _ _ _ _ _ => pts_nil) (fun _ _ _ _ _ => (pe_m1 PySem.F.slot_str_zfill PySem.F.type_str_zfill mt_zfill (pe_callTy call_str_int (by rfl) T.n_str (by decide +kernel) (pa_cons (pv 5) pa_nil)) (pe_gc (v := .int 64) (by rfl) (let ⟨t, h⟩ := T.v_PIECE; ⟨_, h, ⟨t, rfl⟩⟩))))))) (pss_one (ps_ret (pe_orT (pe_m1 PySem.F.slot_str_lstrip PySem.F.type_str_lstrip mt_lstripChars (pv 4) pe_str) (pe_one pe_str)))))))))), ?_⟩
  have n0 := digits_lt (wholeW_inv hi).2 (by rw [← TL.len_tl]; exact few)
  have n0 : natW x < 10 ^ 64 := n0
  have n1 : ((natW x : Nat) : Int) < 10000000000000000000000000000000000000000000000000000000000000000 := by
    have : (10 : Nat) ^ 64 = 10000000000000000000000000000000000000000000000000000000000000000 := by decide +kernel
    rw [this] at n0
    omega
  refine if_b (b := decide (((natW x : Nat) : Int) < 0)) (evb_val (K := K) (m := 0) (ev_ibX (f := fun i j => decide (i < j)) (m1 := 0) (m2 := 0) (ev_var (i := 0) rfl (.int _) rfl) (ev_int rfl)) (Nat.zero_le _)) (fun z => absurd (of_decide_eq_true z) (by omega)) (fun _ H1 s1 => ?_)
  refine ev_setN (K := K) 0 (· = .list [.int 10000000000000000000000000000000000000000000000000000000000000000]) (ev_l (eva_c (ev_int rfl) eva_n) (by exact (by decide : 1 ≤ 100000))) (Nat.zero_le _) fun H2 v2 d2 s2 hd2 e2 => ?_
  subst e2
  dsimp only [List.set]
  refine ⟨fun m σ' H' => σ' = [some (.int ((natW x : Nat) : Int)), some v2, none, none, none, none, none] ∧ Same H2 H', ⟨0, rfl, Same.refl _⟩, fun m σ' H' ⟨e1, s3⟩ => ?_⟩
  subst e1
  refine EvB.now (b := decide (10000000000000000000000000000000000000000000000000000000000000000 ≤ ((natW x : Nat) : Int))) (evb_val (K := K) (m := 0) (ev_ibX (f := fun i j => decide (i ≤ j)) (m1 := 0) (m2 := 0) (ev_ixLX (m1 := 0) (m2 := 0) (ev_var (i := 1) rfl (dp_no (Df.to hd2 s3)) rfl) (ev_negX (ev_int (i := 1) rfl)) rfl) (ev_var (i := 0) rfl (.int _) rfl)) (Nat.zero_le _)) fun H3 s4 => ?_
  rw [decide_eq_false (by omega)]
  refine iteF ?_
  refine ev_setN (K := K) 0 (· = .list [.int ((natW x : Nat) : Int)]) (ev_l (eva_c (ev_var (i := 0) rfl (.int _) rfl) eva_n) (by exact (by decide : 1 ≤ 100000))) (Nat.zero_le _) fun H4 v4 d4 s5 hd4 e4 => ?_
  subst e4
  dsimp only [List.set]
  refine for_rev_nil (K := K) ?_ fun H5 s6 => ?_
  · exact ev_cutLX (m1 := 0) (m2 := 0) (m3 := 0) (lo := none) (hi := some (-1)) (ev_var (i := 1) rfl (dp_no (Df.to hd2 (s3.trans (s4.trans s5)))) rfl) evo_none (evo_X (ev_negX (ev_int (i := 1) rfl)))
  have hx : Str.ofString (toString ((natW x : Nat) : Int)) = x := show_whole hi
  have hne := (wholeW_inv hi).1
  have hdg := (wholeW_inv hi).2
  have lz : (Txt.zfill x 64).length ≤ 64 := by
    have := PyProof.Rows.len_zfill x 64
    by_cases z : decide ((x.length : Int) < 64) = true
    · rw [if_pos z] at this
      omega
    · rw [if_neg z] at this
      omega
  have tz : TL.tl (Txt.zfill x 64) = List.replicate (64 - x.length) 48 ++ TL.tl x := tl_zfill 64 few fun c hc => by
    have : 48 ≤ c ∧ c ≤ 57 := hdg c (List.mem_of_mem_head? hc)
    omega
  obtain ⟨z, ez⟩ : ∃ z, Txt.zfill x 64 = z := ⟨_, rfl⟩
  rw [ez] at lz tz
  dsimp only
  refine ev_setN (K := K) 0 (· = .str z) ?_ (Nat.zero_le _) fun H6 v6 d6 s7 hd6 e6 => ?_
  · refine ev_joinS (P2 := (· = .list [.str z])) ?_ (fun d e => ⟨[z], e, by show z.length + 0 + 1 * _ ≤ _; rw [show ("" : Str).length = 0 by decide +kernel]; omega, by rw [TL.join_eq]; rfl⟩)
    have e := ev_lcL (K := K) (S := noS) (a := none) (m1 := 0) (m := 0) (σ := [some (.int ((natW x : Nat) : Int)), some v2, some v4, none, none, none, none]) (H0 := H5) (tn := tVar 2) (te := tM1 (fun x xs H Q => ∃ (a : Str) (i : Int), x = V.str a ∧ xs = [V.int i] ∧ PadOk i = true ∧ Q (V.str (Txt.zfill a i)) H) (tCB (fun xs H Q => ∃ i, xs = [V.int i] ∧ i.natAbs.log2 < 1920 ∧ Q (.str (Str.ofString (toString i))) H) (tCons (tVar 5) tNil)) (tC (.int 64))) (vs := [5]) (slot := 5) (es := [.int ((natW x : Nat) : Int)]) (P := fun i e => e = .str z) (Z := (· = .list [.str z])) (ev_var (i := 2) rfl (dp_no (Df.to hd4 s6)) rfl) (fun _ => rfl) (by exact (by decide : 1 ≤ 100000)) (fun D G sg i y e he hde => ?_) (fun ds hl hp => ?_)
    · exact e
    · obtain rfl : e = .int ((natW x : Nat) : Int) := by
        match i, he with
        | 0, he => exact (Option.some.inj he).symm
      rw [← ez]
      have e := ev_zfillX (K := K) (S := plusA noS D) (a := none) (m1 := 0) (m2 := 0) (σ := [some (.int ((natW x : Nat) : Int)), some v2, some v4, none, none, some y, none]) (H0 := G) (i := 64) (ev_strI2 (eva_c (ev_var (i := 5) rfl hde rfl) eva_n) (Nat.lt_trans (by rw [Int.natAbs_natCast]; exact n0) (by decide +kernel))) (ev_int rfl) (by decide +kernel)
      rw [hx] at e
      exact e
    · match ds, hl, hp with
      | [d], _, hp => rw [hp 0 d rfl]
  subst e6
  cases hd6
  have tl : TL.tl (Txt.lstripChars z "0") = if x = zer then [] else TL.tl x := by
    rw [tl_lstrip, tz, dropWhile_rep (by decide +kernel)]
    by_cases h0 : x = zer
    · rw [if_pos h0, h0]
      decide +kernel
    · rw [if_neg h0]
      have h2 : ¬ (TL.tl x = [48]) := fun e => h0 ((zer_iff x).mpr e)
      have h3 : (TL.tl x).head? ≠ some 48 := by
        obtain ⟨_, h4⟩ := Bool.and_eq_true_iff.mp (show (!(TL.tl x).isEmpty && (digL (TL.tl x) && (decide (TL.tl x = [48]) || !decide ((TL.tl x).head? = some 48)))) = true from hi)
        have h4 := (Bool.and_eq_true_iff.mp h4).2
        rw [decide_eq_false h2, Bool.false_or] at h4
        intro z
        rw [decide_eq_true z] at h4
        exact nomatch h4
      obtain ⟨c, r, e⟩ : ∃ c r, TL.tl x = c :: r := by
        cases e : TL.tl x with
        | nil => exact absurd e hne
        | cons c r => exact ⟨c, r, rfl⟩
      rw [e] at h3 ⊢
      have hc : c ≠ 48 := fun z => h3 (by rw [z]; rfl)
      have hp : (("0" : Str).cps.contains c) = false := by
        have : ("0" : Str).cps = #[48] := by decide +kernel
        rw [this]
        simp [hc]
      rw [List.dropWhile_cons, hp]
      rfl
  refine ev_retN (K := K) 0 (· = .str (if (Txt.lstripChars z "0").length = 0 then zer else Txt.lstripChars z "0")) (ev_orStr (ev_lstripX (m1 := 0) (m2 := 0) (ev_var (i := 4) rfl (.str z) rfl) (ev_str rfl) (by omega)) (ev_str rfl) (Nat.le_trans (PyProof.Rows.len_lstripChars z "0") (by omega))) (Nat.zero_le _) fun H7 v7 d7 s8 hd7 e7 => ?_
  subst e7
  cases hd7
  have fin : (if (Txt.lstripChars z "0").length = 0 then zer else Txt.lstripChars z "0") = x := by
    rw [TL.len_tl, tl]
    by_cases h0 : x = zer
    · rw [if_pos h0, if_pos (show ([] : List Nat).length = 0 from rfl), h0]
    · rw [if_neg h0, if_neg (fun e => hne (List.length_eq_zero_iff.mp e))]
      exact TL.ext_tl (by rw [tl, if_neg h0])
  rw [fin]
  exact q H7 (s1.trans (s2.trans (s3.trans (s4.trans (s5.trans (s6.trans (s7.trans s8)))))))
def spWrN : Sp := fun vs H Q E => spWr vs H Q E ∧ ∃ i : Int, vs = [.int i] ∧ i < 0
theorem ok_write_integerN (T : Top K mg) : FnOk P w K mg base CX0 2 T.a_write_integer T.d_write_integer ["number"] spWrN := by
  have G_write_integer : FnOk P w K mg base CX0 1 T.a_write_integer T.d_write_integer ["number"] spWr0 := ok_write_integer0 T
  refine T.F_write_integer.ok sc_write_integer (fun vs H Q E h => by obtain ⟨⟨_, rfl, _⟩, _⟩ := h; rfl) (fun cdv A outer s H vs Q E hr h => ?_)
  obtain ⟨⟨x, rfl, few, hi, q⟩, i, ei, hneg⟩ := h
  have ei : ivalW x = i := by cases ei; rfl
  subst ei
  have hr1 : Room 1 _ := hr
  refine ⟨_, (pss_cons (ps_if (pt_cmpR op_lt (pv 0) pe_int (by rfl)) (pss_one (ps_ret (pe_op op_add_str pe_str (pe_call G_write_integer hr1 (by rfl) T.m_write_integer T.F_write_integer.kp T.b_write_integer .nil pass0 (pa_cons (pe_un un_neg (pv 0)) pa_nil))))) pss_nil) pss_never), ?_⟩
  refine if_b (b := decide (ivalW x < 0)) (evb_val (K := K) (m := 0) (ev_ibX (f := fun i j => decide (i < j)) (m1 := 0) (m2 := 0) (ev_var (i := 0) rfl (.int _) rfl) (ev_int rfl)) (Nat.zero_le _)) (fun _ H1 s1 => ?_) (fun z => absurd hneg (of_decide_eq_false z))
  have hx : (TL.tl x).head? = some 45 := by
    by_cases hx : (TL.tl x).head? = some 45
    · exact hx
    · rw [ivalW0 hx] at hneg
      omega
  obtain ⟨r, er⟩ : ∃ r, TL.tl x = 45 :: r := by
    cases e : TL.tl x with
    | nil => rw [e] at hx; cases hx
    | cons c r => rw [e] at hx; cases hx; exact ⟨r, rfl⟩
  have lx := TL.len_tl x
  rw [er, List.length_cons] at lx
  have ev : ivalW x = -((NumText.digitsVal r : Nat) : Int) := by
    unfold ivalW
    rw [er]
    rfl
  have hy : wholeW ⟨r.toArray⟩ = true := by
    unfold intW intL at hi
    rw [er] at hi
    obtain ⟨h1, h2⟩ := Bool.and_eq_true_iff.mp (show (!r.isEmpty && (digL r && (decide (45 :: r = [48]) || !decide (r.head? = some 48)))) = true from hi)
    obtain ⟨h2, h3⟩ := Bool.and_eq_true_iff.mp h2
    rw [decide_eq_false (by simp), Bool.false_or] at h3
    show (!r.isEmpty && (digL r && (decide (r = [48]) || !decide (r.head? = some 48)))) = true
    rw [h1, h2, h3, Bool.or_true]
    rfl
  have en : -(ivalW x) = ((natW ⟨r.toArray⟩ : Nat) : Int) := by
    rw [ev, Int.neg_neg]
    rfl
  have ex : (mns ++ (⟨r.toArray⟩ : Str)) = x := TL.ext_tl (by rw [TL.tl_append, er, show TL.tl mns = [45] by decide +kernel]; rfl)
  refine ⟨.int (ivalW x), rfl, ivalW x, rfl, ⟨r.toArray⟩, by show [V.int (-(ivalW x))] = _; rw [en], by show r.toArray.size ≤ 64; rw [List.size_toArray]; omega, hy, fun H2 s2 => ?_⟩
  refine ⟨mns, _, rfl, rfl, ?_⟩
  rw [ex]
  refine ⟨?_, q H2 (s1.trans s2)⟩
  have l1 : mns.length = 1 := by decide +kernel
  have l2 : (⟨r.toArray⟩ : Str).length = r.length := List.size_toArray
  rw [l1, l2]
  exact Nat.le_trans (by omega : 1 + r.length ≤ 1000000) line20
theorem ok_write_integer (T : Top K mg) : FnOk P w K mg base CX0 2 T.a_write_integer T.d_write_integer ["number"] spWr :=
  (FnOk.or ((ok_write_integer0 T).mono (by decide)) (ok_write_integerN T)).imp fun vs H Q E h => by
    obtain ⟨x, rfl, few, hi, q⟩ := id h
    by_cases hx : ivalW x < 0
    · exact .inr ⟨h, _, rfl, hx⟩
    · have hx' : (TL.tl x).head? ≠ some 45 := fun z => by
        obtain ⟨r, er⟩ : ∃ r, TL.tl x = 45 :: r := by
          cases e : TL.tl x with
          | nil => rw [e] at z; cases z
          | cons c r => rw [e] at z; cases z; exact ⟨r, rfl⟩
        have ev : ivalW x = -((NumText.digitsVal r : Nat) : Int) := by
          unfold ivalW
          rw [er]
          rfl
        unfold intW intL at hi
        rw [er] at hi
        obtain ⟨h1, h2⟩ := Bool.and_eq_true_iff.mp (show (!r.isEmpty && (digL r && (decide (45 :: r = [48]) || !decide (r.head? = some 48)))) = true from hi)
        obtain ⟨h2, h3⟩ := Bool.and_eq_true_iff.mp h2
        rw [decide_eq_false (by simp), Bool.false_or] at h3
        obtain ⟨c, r', e⟩ : ∃ c r', r = c :: r' := by
          cases r with
          | nil => exact nomatch h1
          | cons c r => exact ⟨c, r, rfl⟩
        subst e
        have hc := digL_iff.mp h2 c List.mem_cons_self
        have hc2 : c ≠ 48 := fun z => by
          rw [z] at h3
          exact nomatch h3
        have := NumText.digitsVal_pos (c := c) (cs := r') (by omega)
        omega
      have hw : wholeW x = true := by
        unfold intW intL at hi
        rw [stripm_of fun r e => hx' (by rw [e]; rfl)] at hi
        exact hi
      refine .inl ⟨x, ?_, few, hw, q⟩
      rw [ivalW0 hx']
      rfl
end

section
variable {P : Program} {w : World} {K : PySem.W.Frag} {mg : Str → Option Value} {base : Heap}
/-! #### dates and decrees shown -/
theorem isDate_of {ws : List Str} (h : DateOk ws) : isDate (dateD ws) = true := by
  obtain ⟨a, b, c, r, rfl, fa, ia, nb, fc, dc⟩ := h
  have hc := (dayW_inv dc).2
  show (nameStr b && decide ((1 : Int) ≤ ((natW c : Nat) : Int) ∧ ((natW c : Nat) : Int) ≤ 60)) = true
  rw [nb, decide_eq_true (by omega)]
  rfl
theorem jn_app {p q : List Str} (hp : p ≠ []) (hq : q ≠ []) : Txt.join spc p ++ spc ++ Txt.join spc q = Txt.join spc (p ++ q) := TL.ext_tl (by
  rw [TL.tl_append, TL.tl_append, TL.join_eq, TL.join_eq, TL.join_eq, TL.tl_join, TL.tl_join, TL.tl_join, List.map_append, joinL_app _ _ _ (fun z => hp (List.map_eq_nil_iff.mp z)) (fun z => hq (List.map_eq_nil_iff.mp z)), List.append_assoc])
theorem jn_one (x : Str) : Txt.join spc [x] = x := by rw [TL.join_eq]; rfl
theorem jn_len {ws : List Str} (h : Words ws) : (Txt.join spc ws).length ≤ ws.length * 65 := by
  have h1 := StrLaws.join_length_le spc ws
  have h2 := StrLaws.sumLen_le (B := 64) ws fun w hw => (h.2 w hw).1
  rw [show spc.length = 1 by decide +kernel] at h1
  rw [TL.join_eq]
  omega
theorem monS_monD {w : Str} (h : monW w = true) : monS (monD w) = w := by
  obtain ⟨a, b, ew, ha, hb, ep, _, _⟩ := mon_inv h
  unfold monD
  rw [ep]
  show a ++ col ++ Str.ofString (toString ((natW b : Nat) : Int)) = w
  rw [show_whole (dayW_inv hb).1, ew]
theorem ruleS_ruleD {ws : List Str} {k : Nat} (h : placeL true k ws = none) : ruleS (ruleD ws) = Txt.join spc ws := by
  obtain ⟨e, hg⟩ := (place_none ws k).1 h
  show Txt.join ssl (((grp ws).map fun g => PyData.tuple (g.map monD)).map yearS) = _
  refine TL.ext_tl ?_
  rw [TL.join_eq, TL.join_eq, TL.tl_join, TL.tl_join, tl_ssl, tl_spc, List.map_map, List.map_map]
  have e2 : (grp ws).map ((TL.tl ∘ yearS) ∘ fun g => PyData.tuple (g.map monD)) = (grp ws).map fun g => TL.joinL [32] (g.map TL.tl) := List.map_congr_left fun g hg' => by
    show TL.tl (Txt.join spc ((g.map monD).map monS)) = _
    have e3 : (g.map monD).map monS = g := by
      rw [List.map_map]
      exact (List.map_congr_left fun w hw => monS_monD ((hg g hg').2 w hw)).trans (List.map_id _)
    rw [e3, TL.join_eq, TL.tl_join, tl_spc]
  rw [e2, ← joinL_flat (grp ws) (grp_ne ws) fun g hg' => (hg g hg').1, ← e]
theorem ev_callWr {S : Addr → Bool} {a : Option Addr} {σ : L2.St} {H0 : Hp} {tr : TA} {m : Nat} {x : Str} {E : XK} (h : EvA K S a σ H0 tr m (· = [.int (ivalW x)])) (few : x.length ≤ 64) (hi : intW x = true) : Ev K S a σ H0 (tCall spWr [] E tr) m (· = .str x) := by
  intro H n Q k r' b q
  refine h H n _ k r' b fun H1 vs ds k1 r1 hd e => ?_
  subst e
  obtain ⟨v, _, rfl, h1, h2⟩ := DfAll.c hd
  obtain rfl := DfAll.n h2
  cases h1
  exact ⟨x, rfl, few, hi, fun H2 s => q H2 _ _ (k1.trans (Keeps.same s)) (r1.same s) (.str _) rfl⟩
def spSD (K : PySem.W.Frag) : Sp := fun vs H Q _ => ∃ (v : V) (ws : List Str), vs = [v] ∧ Df K H v (dateD ws) ∧ DateOk ws ∧ ∀ H', Same H H' → Q (.str (Txt.join spc (ws.take 3))) H'
theorem ev_callSD {S : Addr → Bool} {a : Option Addr} {σ : L2.St} {H0 : Hp} {tr : TA} {m : Nat} {ws : List Str} {E : XK} (h : EvA K S a σ H0 tr m (· = [dateD ws])) (hw : DateOk ws) : Ev K S a σ H0 (tCall (spSD K) [] E tr) m (· = .str (Txt.join spc (ws.take 3))) := by
  intro H n Q k r' b q
  refine h H n _ k r' b fun H1 vs ds k1 r1 hd e => ?_
  subst e
  obtain ⟨v, _, rfl, h1, h2⟩ := DfAll.c hd
  obtain rfl := DfAll.n h2
  exact ⟨v, ws, rfl, Df.bare h1, hw, fun H2 s => q H2 _ _ (k1.trans (Keeps.same s)) (r1.same s) (.str _) rfl⟩
theorem ok_show_date (T : Top K mg) : FnOk P w K mg base CX0 4 T.a_show_date T.d_show_date ["date"] (spSD K) := by
  have G_write_integer : FnOk P w K mg base CX0 2 T.a_write_integer T.d_write_integer ["number"] spWr := ok_write_integer T
  have G_is_date : FnOk P w K mg base CX0 3 T.a_is_date T.d_is_date ["thing"] (spB K isDate) := ok_is_date T
  refine T.F_show_date.ok sc_show_date (fun vs H Q E h => by obtain ⟨_, _, rfl, _⟩ := h; rfl) (fun cdv A outer s H vs Q E hr h => ?_)
  obtain ⟨v, ws, rfl, hd, hw, q⟩ := h
  have hr : Room 3 _ := hr
  have hr2 : Room 2 _ := hr.mono (by decide)
  refine ⟨_, (pss_cons (ps_if (pt_not (pt_val (pe_call G_is_date hr (by rfl) T.m_is_date T.F_is_date.kp T.b_is_date .nil pass0 (pa_cons (pv 0) pa_nil)))) pss_never pss_nil) (pss_cons (ps_asg (pv 0) (pg_tup rfl (pgs_cons (pg_name (i := 1) sc_show_date.nd rfl (.inl rfl)) (pgs_cons (pg_name (i := 2) sc_show_date.nd rfl (.inl rfl)) (pgs_cons (pg_name (i := 3) sc_show_date.nd rfl (.inl rfl)) pgs_nil))))) (pss_one (ps_ret (pe_joined (PJ.cons (pe_fmt (pe_call G_write_integer hr2 (by rfl) T.m_write_integer T.F_write_integer.kp T.b_write_integer .nil pass0 (pa_cons (pv 1) pa_nil))) (PJ.cons pe_str (PJ.cons (pe_fmt (pv 2)) (PJ.cons pe_str (PJ.cons (pe_fmt (pv 3)) PJ.nil)))))))))), ?_⟩
  have g := dateD_good hw
  refine if_b (b := !true) (evb_not (evb_test (K := K) (m := 0) (ev_callB (R := (· = [dateD ws])) (eva_c (ev_var (i := 0) rfl (dp_no hd) rfl) eva_n) (fun l e => ⟨_, e, ⟨g.1, Nat.le_trans g.2.1 (by decide), Nat.le_trans g.2.2 (by decide)⟩, by rw [isDate_of hw]⟩)) (Nat.zero_le _))) (fun z => nomatch z) (fun _ H1 s1 => ?_)
  obtain ⟨a, b, c, r, rfl, fa, ia, nb, fc, dc⟩ := hw
  obtain ⟨p, us, rfl, hT, hu⟩ := Df.tupF_inv hd
  obtain ⟨_, _, rfl, h1, hu⟩ := DfAll.c hu
  obtain ⟨_, _, rfl, h2, hu⟩ := DfAll.c hu
  obtain ⟨_, _, rfl, h3, hu⟩ := DfAll.c hu
  obtain rfl := DfAll.n hu
  cases h1
  cases h2
  cases h3
  refine ⟨.ref p, rfl, p, _, rfl, (SqF.to s1 hT).sqT, rfl, .int _, _, rfl, .str _, _, rfl, .int _, _, rfl, rfl, ?_⟩
  dsimp only [gName, List.set]
  have hb := name_inv nb
  have e : Txt.join spc ((a :: b :: c :: r).take 3) = [a, spc, b, spc, c].foldl (· ++ ·) Str.empty := by
    show Txt.join spc [a, b, c] = ((((Str.empty ++ a) ++ spc) ++ b) ++ spc) ++ c
    refine TL.ext_tl ?_
    rw [TL.join_eq, TL.tl_join]
    simp only [TL.tl_append]
    show TL.tl a ++ (TL.tl spc ++ (TL.tl b ++ (TL.tl spc ++ TL.tl c))) = _
    simp only [List.append_assoc]
    rfl
  rw [e] at q
  have hc : Str.ofString (toString ((natW c : Nat) : Int)) = c := show_whole (dayW_inv dc).1
  refine ev_retN (K := K) 0 (· = .str ([a, spc, b, spc, c].foldl (· ++ ·) Str.empty)) (ev_joined (ys := [a, spc, b, spc, c]) ⟨ev_fmtS (ev_callWr (x := a) (eva_c (ev_var (i := 1) rfl (.int _) rfl) eva_n) fa ia) (by omega), ev_str rfl, ev_fmtS (x := b) (ev_var (i := 2) rfl (.str _) rfl) (by omega), ev_str rfl, ?day, trivial⟩ ?len) (Nat.zero_le _) fun H3 v3 d3 s3 hd3 e3 => by subst e3; cases hd3; exact q H3 (s1.trans s3)
  case day =>
    refine (ev_fmtI (i := ((natW c : Nat) : Int)) (ev_var (i := 3) rfl (.int _) rfl) (Nat.lt_of_le_of_lt (by have := (dayW_inv dc).2.2; omega : ((natW c : Nat) : Int).natAbs ≤ 60) (by decide +kernel))).mono fun d e => ?_
    rw [e]
    show PyData.str (Str.ofString (toString ((natW c : Nat) : Int))) = _
    rw [hc]
  case len =>
    show a.length + (spc.length + (b.length + (spc.length + (c.length + 0)))) ≤ 100000
    rw [show spc.length = 1 by decide +kernel]
    omega
/-- a decree that was read is written again -/
def spSK (K : PySem.W.Frag) : Sp := fun vs H Q _ => ∃ (v : V) (ws : List Str), vs = [v] ∧ Df K H v (decD ws) ∧ Words ws ∧ placeK ws = none ∧ isDecree (decD ws) = true ∧ ∀ H', Same H H' → Q (.str (Txt.join spc ws)) H'
theorem ev_callShow {CR : Addr} {S : Addr → Bool} {a : Option Addr} {σ : L2.St} {H0 : Hp} {tr : TA} {m : Nat} {d : PyData} {E : XK} (h : EvA K S a σ H0 tr m (· = [d])) (g : Good 900000 50 d) (ir : isRule d = true) : Ev K S a σ H0 (tCall (spShow K CR) [] E tr) m (· = .str (ruleS d)) := by
  intro H n Q k r b q
  refine h H n _ k r b fun H1 vs ds k1 r1 hd e => ?_
  subst e
  obtain ⟨v, _, rfl, h1, h2⟩ := DfAll.c hd
  obtain rfl := DfAll.n h2
  exact ⟨v, d, rfl, Df.bare h1, g, fun _ H' s => q H' _ _ (k1.trans (Keeps.same s)) (r1.same s) (.str _) rfl, fun z => absurd (ir.symm.trans z) (by decide)⟩
theorem ok_show_decree (T : Top K mg) : FnOk P w K mg base (L2.CX P w) 8 T.a_show_decree T.d_show_decree ["decree"] (spSK K) := by
  have G_write_integer : FnOk P w K mg base CX0 2 T.a_write_integer T.d_write_integer ["number"] spWr := ok_write_integer T
  have G_is_decree : FnOk P w K mg base CX0 7 T.a_is_decree T.d_is_decree ["thing"] (spB K isDecree) := ok_is_decree T
  have G_show_date : FnOk P w K mg base CX0 4 T.a_show_date T.d_show_date ["date"] (spSD K) := ok_show_date T
  have G_show_rule : FnOk P w K mg base (L2.CX P w) 6 T.a_show_rule T.d_show_rule ["rule"] (spShow K T.C_NoRule) := ok_show_rule T
  refine T.F_show_decree.okX sc_show_decree (fun vs H Q E h => by obtain ⟨_, _, rfl, _⟩ := h; rfl) (fun cdv A outer s H vs Q E hr h => ?_)
  obtain ⟨v, ws, rfl, hd, hW, hp, hD, q⟩ := h
  have hr2 : Room 2 _ := hr.mono (by decide)
  have hr4 : Room 4 _ := hr.mono (by decide)
  have hr6 : Room 6 _ := hr.mono (by decide)
  refine ⟨_, (pss_cons (ps_if (pt_not (pt_val (pe_call G_is_decree hr (by rfl) T.m_is_decree T.F_is_decree.kp T.b_is_decree .nil pass0 (pa_cons (pv 0) pa_nil)))) pss_never pss_nil) (pss_cons (ps_asg (pv 0) (pg_star rfl (pgs_cons (pg_name (i := 1) sc_show_decree.nd rfl (.inl rfl)) (pgs_cons (pg_name (i := 2) sc_show_decree.nd rfl (.inl rfl)) (pgs_cons (pg_name (i := 3) sc_show_decree.nd rfl (.inl rfl)) (pgs_star (pg_name (i := 4) sc_show_decree.nd rfl (.inl rfl)) pgs_nil)))))) (pss_cons (ps_set (i := 5) sc_show_decree.nd rfl (.inl rfl) (pe_joined (PJ.cons (pe_fmt (pv 1)) (PJ.cons pe_str (PJ.cons (pe_fmt (pe_call G_write_integer hr2 (by rfl) T.m_write_integer T.F_write_integer.kp T.b_write_integer .nil pass0 (pa_cons (pv 2) pa_nil))) (PJ.cons pe_str (PJ.cons (pe_fmt (pe_call G_show_date hr4 (by rfl) T.m_show_date T.F_show_date.kp T.b_show_date .nil pass0 (pa_cons (pv 3) pa_nil))) PJ.nil))))))) (pss_cons (ps_if (pt_cmpR op_eq (pv 1) pe_str (by rfl)) (pss_one (ps_ret (pe_joined (PJ.cons (pe_fmt (pv 5)) (PJ.cons pe_str (PJ.cons (pe_fmt (pe_call G_show_date hr4 (by rfl) T.m_show_date T.F_show_date.kp T.b_show_date .nil pass0 (pa_cons (pe_ix ix_list (pv 4) pe_int (fun _ _ => rfl)) pa_nil))) (PJ.cons pe_str (PJ.cons (pe_fmt (pe_call G_show_rule hr6 (by rfl) T.m_show_rule T.F_show_rule.kp T.b_show_rule .nil (passes_call (takes_of rfl rfl rfl rfl) (fun _ _ _ _ z => z)) (pa_cons (pe_ix ix_list (pv 4) pe_int (fun _ _ => rfl)) pa_nil))) PJ.nil)))))))) pss_nil) (pss_cons (ps_if (pt_cmpR op_eq (pv 1) pe_str (by rfl)) (pss_one (ps_ret (pe_joined (PJ.cons (pe_fmt (pv 5)) (PJ.cons pe_str (PJ.cons (pe_fmt (pe_call G_show_date hr4 (by rfl) T.m_show_date T.F_show_date.kp T.b_show_date .nil pass0 (pa_cons (pe_ix ix_list (pv 4) pe_int (fun _ _ => rfl)) pa_nil))) PJ.nil)))))) pss_nil) (pss_one (ps_ret (pe_join pe_str (pe_lst (pa_cons (pv 5) (StX.pa_star (pv 4) pa_nil))))))))))), ?_⟩
  obtain ⟨k, n, r, fs, rfl, hk, hpf, hl, wn, dok, h5, hN, hR⟩ := dec_of_place hW hp
  have gD := decD_good hW dok h5
  obtain ⟨k', n', r', e, fn, ni, hdt, h2, h3⟩ := id dok
  cases e
  refine if_b (b := !true) (evb_not (evb_test (K := K) (m := 0) (ev_callB (R := (· = [decD (k :: n :: r)])) (eva_c (ev_var (i := 0) rfl (dp_no hd) rfl) eva_n) (fun l e => ⟨_, e, gD, by rw [hD]⟩)) (Nat.zero_le _))) (fun z => nomatch z) (fun _ H1 s1 => ?_)
  obtain ⟨rest, hdec, hr1, hr2', hr3⟩ : ∃ rest, decD (k :: n :: r) = .tuple ([.str k, .int (ivalW n), dateD r] ++ rest) ∧ (k = "rule" → rest = [ruleD (r.drop 6), dateD (r.drop 3)]) ∧ (k = "jump" → rest = [dateD (r.drop 3)]) ∧ (k ≠ "rule" → k ≠ "jump" → rest = (r.drop 3).map PyData.str) := by
    by_cases h1 : k = "rule"
    · subst h1
      exact ⟨[ruleD (r.drop 6), dateD (r.drop 3)], rfl, fun _ => rfl, fun z => absurd z (by decide +kernel), fun z => absurd rfl z⟩
    by_cases h2 : k = "jump"
    · subst h2
      exact ⟨[dateD (r.drop 3)], rfl, fun z => absurd z (by decide +kernel), fun _ => rfl, fun _ z => absurd rfl z⟩
    refine ⟨(r.drop 3).map PyData.str, ?_, fun z => absurd z h1, fun z => absurd z h2, fun _ _ => rfl⟩
    show (if k = "rule" then _ else if k = "jump" then _ else _) = _
    rw [if_neg h1, if_neg h2]
    rfl
  rw [hdec] at hd hD
  obtain ⟨p, us, rfl, hT, hu⟩ := Df.tupF_inv hd
  obtain ⟨_, _, rfl, u1, hu1⟩ := DfAll.c hu
  obtain ⟨_, _, rfl, u2, hu2⟩ := DfAll.c hu1
  obtain ⟨v3, vr, rfl, u3, hu3⟩ := DfAll.c hu2
  cases u1
  cases u2
  refine ⟨.ref p, rfl, p, _, rfl, (SqF.to s1 hT).sqT, by show 3 ≤ vr.length + 1 + 1 + 1; omega, fun L nL => ?_⟩
  have hL : (upd H1 L (.lst vr)) L = some (.lst vr) := upd_same
  have s2 : Same H1 (upd H1 L (.lst vr)) := same_new nL
  show gCons _ _ [.str k, .int (ivalW n), v3, .ref L] _ (upd H1 L (.lst vr)) _
  generalize upd H1 L (.lst vr) = H2 at hL s2 ⊢
  have s12 := s1.trans s2
  have dR : Df K H2 (.ref L) (.list rest) := .lst (.inl (.inl hL)) (DfAll.to hu3 s12)
  have dD : Df K H2 v3 (dateD r) := Df.to u3 s12
  refine ⟨.str k, _, rfl, .int _, _, rfl, v3, _, rfl, .ref L, [], rfl, rfl, ?_⟩
  dsimp only [gName, List.set]
  have fk := (hW.2 k List.mem_cons_self).1
  have W3 : ∀ (i j : Nat), Words ((r.drop i).take j) := fun i j => ⟨by
    have := hW.1
    rw [List.length_take, List.length_drop]
    simp only [List.length_cons] at this
    omega, fun w hw => hW.2 w (List.mem_cons_of_mem _ (List.mem_cons_of_mem _ (List.mem_of_mem_drop (List.mem_of_mem_take hw))))⟩
  have ne3 : r.take 3 ≠ [] := by
    obtain ⟨a, b, c, r', e, _⟩ := hdt
    rw [e]
    exact fun z => nomatch z
  have l1 : spc.length = 1 := by decide +kernel
  have lt3 : (Txt.join spc (r.take 3)).length ≤ 195 := by
    have := jn_len (W3 0 3)
    rw [List.drop_zero] at this
    have : (r.take 3).length ≤ 3 := by rw [List.length_take]; omega
    omega
  have eh : [k, spc, n, spc, Txt.join spc (r.take 3)].foldl (· ++ ·) Str.empty = Txt.join spc ([k, n] ++ r.take 3) := by
    show ((((Str.empty ++ k) ++ spc) ++ n) ++ spc) ++ Txt.join spc (r.take 3) = _
    rw [Str.empty_append, ← jn_app (p := [k, n]) (fun z => nomatch z) ne3]
    congr 2
  have lh : (Txt.join spc ([k, n] ++ r.take 3)).length ≤ 400 := by
    rw [← eh]
    show (((((Str.empty ++ k) ++ spc) ++ n) ++ spc) ++ Txt.join spc (r.take 3)).length ≤ 400
    simp only [Str.length_append, l1]
    have : Str.empty.length = 0 := rfl
    omega
  refine ev_setN (K := K) 0 (· = .str ([k, spc, n, spc, Txt.join spc (r.take 3)].foldl (· ++ ·) Str.empty)) (ev_joined (ys := [k, spc, n, spc, Txt.join spc (r.take 3)]) ⟨ev_fmtS (x := k) (ev_var (i := 1) rfl (.str _) rfl) (by omega), ev_str rfl, ev_fmtS (ev_callWr (x := n) (eva_c (ev_var (i := 2) rfl (.int _) rfl) eva_n) fn ni) (by omega), ev_str rfl, ev_fmtS (ev_callSD (ws := r) (eva_c (ev_var (i := 3) rfl (dp_no dD) rfl) eva_n) hdt) (by omega), trivial⟩ ?len) (Nat.zero_le _) fun H3 vh dh s3 hdh eh' => ?_
  case len =>
    show k.length + (spc.length + (n.length + (spc.length + ((Txt.join spc (r.take 3)).length + 0)))) ≤ 100000
    omega
  subst eh'
  rw [eh] at hdh
  cases hdh
  generalize eH : Txt.join spc ([k, n] ++ r.take 3) = hs at lh
  have s13 := s12.trans s3
  have kq : ∀ (g : Str) (G : Hp), EvB [some (.ref p), some (.str k), some (.int (ivalW n)), some v3, some (.ref L), some (.str hs)] G (tB (tOp rEq (tVar 1) (tC (.str g)))) (decide (k = g)) := fun g G => evb_val (K := K) (m := 0) (ev_eqS (m1 := 0) (m2 := 0) (ev_var (i := 1) rfl (.str k) rfl) (ev_str rfl) rfl) (Nat.zero_le _)
  have ll : (r.drop 3).take 3 ++ r.drop 6 = r.drop 3 := by
    have := List.take_append_drop 3 (r.drop 3)
    rw [List.drop_drop] at this
    exact this
  have lt6 : (Txt.join spc ((r.drop 3).take 3)).length ≤ 195 := by
    have := jn_len (W3 3 3)
    have : ((r.drop 3).take 3).length ≤ 3 := by rw [List.length_take]; omega
    omega
  have ne6 : k = "rule" ∨ k = "jump" → (r.drop 3).take 3 ≠ [] := fun z => by
    obtain ⟨a, b, c, r', e, _⟩ := h2 z
    rw [e]
    exact fun z => nomatch z
  refine if_b (b := decide (k = "rule")) (kq _ _) (fun hb H4 s4 => ?_) (fun hb H4 s4 => ?_)
  · have hk := of_decide_eq_true hb
    obtain rfl := hr1 hk
    have pR : placeL true 8 (r.drop 6) = none := hR hk
    have nR : r.drop 6 ≠ [] := fun z => by rw [z] at pR; exact nomatch pR
    have eR := ruleS_ruleD pR
    have iR : isRule (ruleD (r.drop 6)) = true := by
      subst hk
      have z : ((isDay (.int (ivalW n)) && isDate (dateD r)) && (isRule (ruleD (r.drop 6)) && hasB (ruleD (r.drop 6)) (dateD (r.drop 3)))) = true := hD
      exact (Bool.and_eq_true_iff.mp (Bool.and_eq_true_iff.mp z).2).1
    have gR := ruleD_good2 (ws := r.drop 6) (hW.drop 8).1 (h3 hk)
    have lR : (Txt.join spc (r.drop 6)).length ≤ 65000 := by
      have := jn_len (hW.drop 8)
      have := (hW.drop 8).1
      have : (Txt.join spc ((k :: n :: r).drop 8)).length ≤ 65000 := by omega
      exact this
    have eT : [hs, spc, Txt.join spc ((r.drop 3).take 3), spc, Txt.join spc (r.drop 6)].foldl (· ++ ·) Str.empty = Txt.join spc (k :: n :: r) := by
      show ((((Str.empty ++ hs) ++ spc) ++ Txt.join spc ((r.drop 3).take 3)) ++ spc) ++ Txt.join spc (r.drop 6) = _
      rw [Str.empty_append, ← eH, jn_app (by simp) (ne6 (.inl hk)), jn_app (by simp) nR, List.append_assoc, ll, List.append_assoc, List.take_append_drop]
      rfl
    have s24 := s3.trans s4
    refine ev_retN (K := K) 0 (· = .str ([hs, spc, Txt.join spc ((r.drop 3).take 3), spc, Txt.join spc (r.drop 6)].foldl (· ++ ·) Str.empty)) (ev_joined (ys := [hs, spc, Txt.join spc ((r.drop 3).take 3), spc, Txt.join spc (r.drop 6)]) ⟨ev_fmtS (x := hs) (ev_var (i := 5) rfl (.str _) rfl) (by omega), ev_str rfl, ev_fmtS (ev_callSD (ws := r.drop 3) (eva_c (ev_ixLX (m1 := 0) (m2 := 0) (ev_var (i := 4) rfl (dp_no (Df.to dR s24)) rfl) (ev_int (i := 1) rfl) rfl) eva_n) (h2 (.inl hk))) (by omega), ev_str rfl, ev_fmtS ((ev_callShow (d := ruleD (r.drop 6)) (eva_c (ev_ixLX (m1 := 0) (m2 := 0) (ev_var (i := 4) rfl (dp_no (Df.to dR s24)) rfl) (ev_int (i := 0) rfl) rfl) eva_n) ⟨gR.1, Nat.le_trans gR.2.1 (by decide), Nat.le_trans gR.2.2 (by decide)⟩ iR).mono fun d e => by rw [e, eR]) (by omega), trivial⟩ ?len2) (Nat.zero_le _) fun H5 v5 d5 s5 hd5 e5 => by subst e5; rw [eT] at hd5; cases hd5; exact q H5 (s13.trans (s4.trans s5))
    case len2 =>
      show hs.length + (spc.length + ((Txt.join spc ((r.drop 3).take 3)).length + (spc.length + ((Txt.join spc (r.drop 6)).length + 0)))) ≤ 100000
      omega
  have hn := of_decide_eq_false hb
  have hlen := hN hn
  refine if_b (b := decide (k = "jump")) (kq _ _) (fun hb H5 s5 => ?_) (fun hb H5 s5 => ?_)
  · have hk' := of_decide_eq_true hb
    obtain rfl := hr2' hk'
    have s25 := s3.trans (s4.trans s5)
    have l8 : (r.drop 3).take 3 = r.drop 3 := List.take_of_length_le (by
      have : fs = f7 := by
        rcases fKind_inv hk with ⟨e, _⟩ | ⟨_, e⟩ | ⟨e, _⟩ | ⟨e, _⟩
        · exact absurd e hn
        · exact e
        · rw [hk'] at e; exact absurd e (by decide +kernel)
        · rw [hk'] at e; exact absurd e (by decide +kernel)
      rw [this] at hlen
      simp only [List.length_cons, List.length_nil] at hlen
      rw [List.length_drop]
      omega)
    have eT : [hs, spc, Txt.join spc ((r.drop 3).take 3)].foldl (· ++ ·) Str.empty = Txt.join spc (k :: n :: r) := by
      show ((Str.empty ++ hs) ++ spc) ++ Txt.join spc ((r.drop 3).take 3) = _
      rw [Str.empty_append, ← eH, jn_app (by simp) (ne6 (.inr hk')), l8, List.append_assoc, List.take_append_drop]
      rfl
    refine ev_retN (K := K) 0 (· = .str ([hs, spc, Txt.join spc ((r.drop 3).take 3)].foldl (· ++ ·) Str.empty)) (ev_joined (ys := [hs, spc, Txt.join spc ((r.drop 3).take 3)]) ⟨ev_fmtS (x := hs) (ev_var (i := 5) rfl (.str _) rfl) (by omega), ev_str rfl, ev_fmtS (ev_callSD (ws := r.drop 3) (eva_c (ev_ixLX (m1 := 0) (m2 := 0) (ev_var (i := 4) rfl (dp_no (Df.to dR s25)) rfl) (ev_int (i := 0) rfl) rfl) eva_n) (h2 (.inr hk'))) (by omega), trivial⟩ ?len3) (Nat.zero_le _) fun H6 v6 d6 s6 hd6 e6 => by subst e6; rw [eT] at hd6; cases hd6; exact q H6 (s13.trans (s4.trans (s5.trans s6)))
    case len3 =>
      show hs.length + (spc.length + ((Txt.join spc ((r.drop 3).take 3)).length + 0)) ≤ 100000
      omega
  have hn2 := of_decide_eq_false hb
  obtain rfl := hr3 hn hn2
  have s25 := s3.trans (s4.trans s5)
  have eT : Txt.join spc (hs :: r.drop 3) = Txt.join spc (k :: n :: r) := by
    by_cases z : r.drop 3 = []
    · have e3 : r.take 3 = r := by
        have := List.take_append_drop 3 r
        rw [z, List.append_nil] at this
        exact this
      rw [z, jn_one, ← eH, e3]
      rfl
    · have := jn_app (p := [hs]) (q := r.drop 3) (fun z => nomatch z) z
      rw [jn_one, ← eH, jn_app (by simp) z, List.append_assoc, List.take_append_drop, eH] at this
      exact this.symm
  refine ev_retN (K := K) 0 (· = .str (Txt.join spc (hs :: r.drop 3))) (ev_joinS (P2 := (· = .list ((hs :: r.drop 3).map PyData.str))) ((ev_l (ds := .str hs :: ((r.drop 3).map PyData.str ++ [])) (eva_c (ev_var (i := 5) rfl (.str _) rfl) (eva_star (ev_var (i := 4) rfl (dp_no (Df.to dR s25)) rfl) eva_n)) ?few).mono fun d e => by rw [e, List.append_nil]; rfl) fun d e => ⟨_, e, ?sum, rfl⟩) (Nat.zero_le _) fun H6 v6 d6 s6 hd6 e6 => by subst e6; rw [eT] at hd6; cases hd6; exact q H6 (s13.trans (s4.trans (s5.trans s6)))
  case few =>
    rw [List.append_nil, List.length_cons, List.length_map]
    have := (hW.drop 5).1
    have : (r.drop 3).length ≤ 1000 := this
    omega
  case sum =>
    have h1 := StrLaws.sumLen_le (B := 64) (r.drop 3) fun w hw => ((hW.drop 5).2 w hw).1
    have h2 : (r.drop 3).length ≤ 1000 := (hW.drop 5).1
    rw [List.map_cons, List.sum_cons, List.length_cons, l1]
    omega
end

section
variable {P : Program} {w : World} {K : PySem.W.Frag} {mg : Str → Option Value} {base : Heap}
/-! #### the law's whole words -/
theorem digits_mem : ∀ c : Nat, decide (c ∈ TL.tl "0123456789") = decide (48 ≤ c ∧ c ≤ 57) := fun c => by
  rw [show TL.tl "0123456789" = [48, 49, 50, 51, 52, 53, 54, 55, 56, 57] by decide +kernel, decide_eq_decide]
  simp only [List.mem_cons, List.not_mem_nil, or_false]
  omega
theorem ok_whole_word (T : Top K mg) : FnOk P w K mg base CX0 1 T.a__law_is_whole_word T.d__law_is_whole_word ["_law_word_here"] (spW wholeW) := by
  refine T.F__law_is_whole_word.ok sc__law_is_whole_word spW_len (fun cdv A outer s H vs Q E hr h => ?_)
  obtain ⟨x, rfl, few, ht, q⟩ := h
  refine ⟨_, (pss_one (ps_ret (pe_and (pe_cmpR op_ne (pv 0) pe_str (by rfl)) (pe_and (pe_callB (cr_all rfl) (by rfl) T.n_all (by decide +kernel) (pa_cons (pe_lc (own := [("_law_sign", 1)]) (g := gName 1) (tt := tYes) (by rfl) sc__law_is_whole_word.nd (pi_str (pv 0)) (blkOk_by (own := [("_law_sign", 1)]) (N := ["_law_word_here", "_law_sign"]) (sc := defScope s__law_is_whole_word) (by decide +kernel)) (fun _ _ _ _ _ => (pg_name (i := 1) sc__law_is_whole_word.nd rfl (.inl rfl))) (fun _ _ _ _ _ => pts_nil) (fun _ _ _ _ _ => (pe_cmpR op_in_sign (pv 1) pe_str (by rfl)))) pa_nil)) (pe_one (pe_or (pe_cmpR op_eq (pv 0) pe_str (by rfl)) (pe_one (pe_cmpR op_ne (pe_ix ix_str (pv 0) pe_int (fun _ _ => rfl)) pe_str (by rfl))))))))), ?_⟩
  have key : wholeW x = (!decide (x = "") && (digL (TL.tl x) && (decide (x = zer) || !decide ((TL.tl x).head? = some 48)))) := by
    unfold wholeW wholeL
    congr 1
    · congr 1
      rw [Bool.eq_iff_iff, List.isEmpty_iff, decide_eq_true_iff]
      constructor
      · intro e
        refine TL.ext_tl ?_
        rw [e]
        decide +kernel
      · intro e
        rw [e]
        decide +kernel
    · congr 2
      rw [decide_eq_decide]
      exact (zer_iff x).symm
  rw [key] at q
  refine ev_retN (K := K) 0 (· = .bool (!decide (x = "") && (digL (TL.tl x) && (decide (x = zer) || !decide ((TL.tl x).head? = some 48))))) ?_ (Nat.zero_le _) fun H3 v3 d3 s3 hd3 e3 => by subst e3; cases hd3; exact q H3 s3
  refine ev_andC (m1 := 0) (m2 := 0) (ev_neSX (m1 := 0) (m2 := 0) (ev_var (i := 0) rfl (.str x) rfl) (ev_str rfl)) fun hne => ev_andC (m1 := 0) (m2 := 0) ?_ fun _ => ev_orC (m1 := 0) (m2 := 0) (ev_eqS (m1 := 0) (m2 := 0) (ev_var (i := 0) rfl (.str x) rfl) (ev_str rfl) rfl) fun _ => ?_
  · refine ev_all (R := fun l => l = [.list (((TL.tl x).map fun c => decide (48 ≤ c ∧ c ≤ 57)).map PyData.bool)]) (eva_cons (P := fun d => d = .list (((TL.tl x).map fun c => decide (48 ≤ c ∧ c ≤ 57)).map PyData.bool)) (R1 := (· = [])) ?_ eva_n (fun d l e1 e2 => by rw [e1, e2])) (fun l e => ⟨_, e, by rw [List.all_map]; rfl⟩)
    have e := ev_lcS (K := K) (S := noS) (a := none) (m1 := 0) (m := 0) (σ := [some (.str x), none]) (H0 := H) (tn := tVar 0) (vs := [1]) (slot := 1) (s := x) (te := tOp (fun x y H Q => ∃ (c : Nat) (z : Str), x = .str ⟨#[c]⟩ ∧ y = .str z ∧ Q (.bl (decide (c ∈ z.cps.toList))) H) (tVar 1) (tC (.str "0123456789"))) (P := fun i e => ∀ c, (TL.tl x)[i]? = some c → e = .bool (decide (48 ≤ c ∧ c ≤ 57))) (Z := (· = .list (((TL.tl x).map fun c => decide (48 ≤ c ∧ c ≤ 57)).map PyData.bool))) (ev_var (i := 0) rfl (.str x) rfl) (fun _ => rfl) (by omega) (fun D G sg i c hc => ?_) (fun ds hl hp => ?_)
    · rw [Nat.mul_zero] at e
      exact e
    · refine ev_op (m1 := 0) (m2 := 0) (P1 := (· = .str ⟨#[c]⟩)) (P2 := (· = .str "0123456789")) (ev_var (i := 1) rfl (.str _) rfl) (ev_str rfl) fun H v w' d e Q t hd he e1 e2 k => ?_
      subst e1 e2
      cases hd
      cases he
      refine ⟨c, _, rfl, rfl, k H _ _ (Same.refl H) (.bl _) fun c' hc' => ?_⟩
      have : (TL.tl x)[i]? = some c := by rw [Array.getElem?_toList]; exact hc
      rw [this] at hc'
      cases hc'
      rw [digits_mem]
    · congr 1
      rw [List.map_map]
      rw [TL.len_tl] at hl
      exact list_by (TL.tl x) ds hl fun i e c h1 h2 => hp i e h1 c h2
  · have hx : TL.tl x ≠ [] := fun e => by
      have : x = "" := TL.ext_tl (by rw [e]; decide +kernel)
      rw [this] at hne
      exact nomatch hne
    obtain ⟨c, r, ec⟩ : ∃ c r, TL.tl x = c :: r := by
      cases h : TL.tl x with
      | nil => exact absurd h hx
      | cons c r => exact ⟨c, r, rfl⟩
    have e := ev_neSX (K := K) (S := noS) (a := none) (σ := [some (.str x), none]) (H0 := H) (m1 := 0) (m2 := 0) (x := ⟨#[c]⟩) (y := zer) (ev_ixS (m1 := 0) (m2 := 0) (P1 := (· = .str x)) (P2 := (· = .int 0)) (ev_var (i := 0) rfl (.str x) rfl) (ev_int (i := 0) rfl) (fun d e e1 e2 => ⟨x, 0, c, e1, e2, by omega, atI_nat (j := 0) (by show (TL.tl x)[0]? = _; rw [ec]; rfl), rfl⟩)) (ev_str rfl)
    have e2 : decide ((⟨#[c]⟩ : Str) = zer) = decide ((TL.tl x).head? = some 48) := by
      rw [decide_eq_decide, ec, zer_iff]
      show [c] = [48] ↔ some c = some 48
      simp
    rw [e2] at e
    exact e
end

section
variable {P : Program} {w : World} {K : PySem.W.Frag} {mg : Str → Option Value} {base : Heap}
/-! #### the law's forms of words -/
/-- all(c in z for c of a text) -/
theorem ev_allIn {S : Addr → Bool} {a : Option Addr} {σ : L2.St} {H0 : Hp} {i slot : Nat} {vs : List Nat} {x z : Str} (hv : σ[i]? = some (some (.str x))) (few : x.length ≤ 1000) (hw : ∀ y, wipe ((wipe σ vs).set slot (some y)) vs = wipe σ vs) (hx : ∀ y, ((wipe σ vs).set slot (some y))[slot]? = some (some y)) :
    Ev K S a σ H0 (tCB (rAll K) (tCons (tLc (iStr (tVar i)) (gName slot) tYes (tOp (fun x y H Q => ∃ (c : Nat) (z : Str), x = .str ⟨#[c]⟩ ∧ y = .str z ∧ Q (.bl (decide (c ∈ z.cps.toList))) H) (tVar slot) (tC (.str z))) vs) tNil)) 0 (· = .bool ((TL.tl x).all fun c => decide (c ∈ TL.tl z))) := by
  refine ev_all (R := fun l => l = [.list (((TL.tl x).map fun c => decide (c ∈ TL.tl z)).map PyData.bool)]) (eva_cons (m1 := 0) (m2 := 0) (P := fun d => d = .list (((TL.tl x).map fun c => decide (c ∈ TL.tl z)).map PyData.bool)) (R1 := (· = [])) ?_ eva_n (fun d l e1 e2 => by rw [e1, e2])) (fun l e => ⟨_, e, by rw [List.all_map]; rfl⟩)
  have e := ev_lcS (K := K) (S := S) (a := a) (m1 := 0) (m := 0) (σ := σ) (H0 := H0) (tn := tVar i) (vs := vs) (slot := slot) (s := x) (te := tOp (fun x y H Q => ∃ (c : Nat) (z : Str), x = .str ⟨#[c]⟩ ∧ y = .str z ∧ Q (.bl (decide (c ∈ z.cps.toList))) H) (tVar slot) (tC (.str z))) (P := fun i e => ∀ c, (TL.tl x)[i]? = some c → e = .bool (decide (c ∈ TL.tl z))) (Z := (· = .list (((TL.tl x).map fun c => decide (c ∈ TL.tl z)).map PyData.bool))) (ev_var hv (.str x) rfl) hw (by omega) (fun D G sg i c hc => ?_) (fun ds hl hp => ?_)
  · rw [Nat.mul_zero] at e
    exact e
  · refine ev_op (m1 := 0) (m2 := 0) (P1 := (· = .str ⟨#[c]⟩)) (P2 := (· = .str z)) (ev_var (hx _) (.str _) rfl) (ev_str rfl) fun H v w' d e Q t hd he e1 e2 k => ?_
    subst e1 e2
    cases hd
    cases he
    refine ⟨c, _, rfl, rfl, k H _ _ (Same.refl H) (.bl _) fun c' hc' => ?_⟩
    have : (TL.tl x)[i]? = some c := by rw [Array.getElem?_toList]; exact hc
    rw [this] at hc'
    cases hc'
    rfl
  · congr 1
    rw [List.map_map]
    rw [TL.len_tl] at hl
    exact list_by (TL.tl x) ds hl fun i e c h1 h2 => hp i e h1 c h2
theorem letters_mem : ∀ c : Nat, decide (c ∈ TL.tl "abcdefghijklmnopqrstuvwxyz") = decide (97 ≤ c ∧ c ≤ 122) := fun c => by
  rw [show TL.tl "abcdefghijklmnopqrstuvwxyz" = [97, 98, 99, 100, 101, 102, 103, 104, 105, 106, 107, 108, 109, 110, 111, 112, 113, 114, 115, 116, 117, 118, 119, 120, 121, 122] by decide +kernel, decide_eq_decide]
  simp only [List.mem_cons, List.not_mem_nil, or_false]
  omega
theorem low_all (x : Str) : ((TL.tl x).all fun c => decide (c ∈ TL.tl "abcdefghijklmnopqrstuvwxyz")) = lowAZ x := by
  unfold lowAZ
  rw [all_list]
  congr 1
  funext c
  exact letters_mem c
def kindB1 (x : Str) : Bool := decide (x ∈ kinds)
def fitW (f x : Str) : Bool := if f = "i" then intW x else if f = "n" then wholeW x else if f = "d" then dayW x else if f = "k" then kindB1 x else if f = "m" then monW x else nameStr x
def spFits (fs : List Str) : Sp := fun vs H Q _ => ∃ x f : Str, vs = [.str x, .str f] ∧ f ∈ fs ∧ x.length ≤ 64 ∧ tidy x = true ∧ ∀ H', Same H H' → Q (.bl (fitW f x)) H'
theorem spFits_len {fs : List Str} : ∀ vs H Q E, spFits fs vs H Q E → vs.length = 2 := fun vs H Q E ⟨x, f, e, _⟩ => by rw [e]; rfl
theorem ev_callF {fs : List Str} {S : Addr → Bool} {a : Option Addr} {σ : L2.St} {H0 : Hp} {tr : TA} {m : Nat} {x f : Str} {E : XK} (h : EvA K S a σ H0 tr m (· = [.str x, .str f])) (hf : f ∈ fs) (few : x.length ≤ 64) (ht : tidy x = true) : Ev K S a σ H0 (tCall (spFits fs) [] E tr) m (· = .bool (fitW f x)) := by
  intro H n Q k r' b q
  refine h H n _ k r' b fun H1 vs ds k1 r1 hd e => ?_
  subst e
  obtain ⟨u, v, rfl, h1, h2⟩ := DfAll.two hd
  cases h1
  cases h2
  exact ⟨x, f, rfl, hf, few, ht, fun H2 s => q H2 _ _ (k1.trans (Keeps.same s)) (r1.same s) (.bl _) rfl⟩
theorem eqf {S : Addr → Bool} {a : Option Addr} {σ : L2.St} {H0 : Hp} {f g : Str} {b : Bool} (hv : σ[1]? = some (some (.str f))) (e : decide (f = g) = b) : Ev K S a σ H0 (tOp rEq (tVar 1) (tC (.str g))) 0 (· = .bool b) := ev_eqS (m1 := 0) (m2 := 0) (ev_var (i := 1) hv (.str f) rfl) (ev_str rfl) (by rw [e])
/-- if form == g: .., another form -/
theorem skipf (K : PySem.W.Frag) {σ : L2.St} {H : Hp} {t : TS} {D : Ends} {f g : Str} (hv : σ[1]? = some (some (.str f))) (e : decide (f = g) = false) (q : ∀ H1, Same H H1 → D.nx σ H1) : tIfS (tB (tOp rEq (tVar 1) (tC (.str g)))) t tNext D σ H :=
  if_b (b := false) (evb_val (K := K) (eqf hv e)) (fun z => nomatch z) fun _ H1 s1 => q H1 s1
theorem int_of_whole {x : Str} (h : wholeW x = true) (few : x.length ≤ 64) : PySem.intText? x = some ((natW x : Nat) : Int) := intText_digits (wholeW_inv h).2 (wholeW_inv h).1 (by omega)
theorem ok_fits0 (T : Top K mg) : FnOk P w K mg base CX0 2 T.a__law_fits T.d__law_fits ["_law_word_here", "_law_form"] (spFits ["d", "a"]) := by
  have G__law_is_whole_word : FnOk P w K mg base CX0 1 T.a__law_is_whole_word T.d__law_is_whole_word ["_law_word_here"] (spW wholeW) := ok_whole_word T
  refine T.F__law_fits.ok sc__law_fits spFits_len (fun cdv A outer s H vs Q E hr h => ?_)
  obtain ⟨x, f, rfl, hf, few, ht, q⟩ := h
  have hr1 : Room 1 _ := hr
  refine ⟨_, (pss_cons (ps_if (pt_cmpR op_eq (pv 1) pe_str (by rfl)) pss_never pss_nil) (pss_cons (ps_if (pt_cmpR op_eq (pv 1) pe_str (by rfl)) pss_never pss_nil) (pss_cons (ps_if (pt_cmpR op_eq (pv 1) pe_str (by rfl)) (pss_one (ps_ret (pe_and (pe_call G__law_is_whole_word hr1 (by rfl) T.m__law_is_whole_word T.F__law_is_whole_word.kp T.b__law_is_whole_word .nil pass0 (pa_cons (pv 0) pa_nil)) (pe_one (pe_chain op_le op_le pe_int (pe_callTy call_int_str (by rfl) T.n_int (by decide +kernel) (pa_cons (pv 0) pa_nil)) pe_int))))) pss_nil) (pss_cons (ps_if (pt_cmpR op_eq (pv 1) pe_str (by rfl)) pss_never pss_nil) (pss_cons (ps_if (pt_cmpR op_eq (pv 1) pe_str (by rfl)) pss_never pss_nil) (pss_one (ps_ret (pe_and (pe_chain op_le op_le pe_int (pe_callB call_len_str (by rfl) T.n_len PySem.boot_len (pa_cons (pv 0) pa_nil)) pe_int) (pe_one (pe_callB (cr_all rfl) (by rfl) T.n_all (by decide +kernel) (pa_cons (pe_lc (own := [("_law_sign", 5)]) (g := gName 5) (tt := tYes) (by rfl) sc__law_fits.nd (pi_str (pv 0)) (blkOk_by (own := [("_law_sign", 5)]) (N := ["_law_word_here", "_law_form", "_law_left", "_law_colon", "_law_right", "_law_sign"]) (sc := defScope s__law_fits) (by decide +kernel)) (fun _ _ _ _ _ => (pg_name (i := 5) sc__law_fits.nd rfl (.inl rfl))) (fun _ _ _ _ _ => pts_nil) (fun _ _ _ _ _ => (pe_cmpR op_in_sign (pv 5) pe_str (by rfl)))) pa_nil))))))))))), ?_⟩
  have hf : f = "d" ∨ f = "a" := by simpa using hf
  rcases hf with rfl | rfl
  · refine skipf K rfl (by decide +kernel) fun H1 s1 => skipf K rfl (by decide +kernel) fun H2 s2 => ?_
    dsimp only
    refine if_b (b := true) (evb_val (K := K) (m := 0) (eqf rfl (by decide +kernel)) (Nat.zero_le _)) (fun _ H3 s3 => ?_) (fun z => nomatch z)
    have q : ∀ H', Same H H' → Q (.bl (wholeW x && (decide ((1 : Int) ≤ ((natW x : Nat) : Int)) && decide (((natW x : Nat) : Int) ≤ 60)))) H' := by
      have e : fitW "d" x = (wholeW x && (decide ((1 : Int) ≤ ((natW x : Nat) : Int)) && decide (((natW x : Nat) : Int) ≤ 60))) := by
        show dayW x = _
        unfold dayW
        congr 1
        rw [← Bool.decide_and, decide_eq_decide]
        omega
      rw [e] at q
      exact q
    refine ev_retN (K := K) 0 (· = .bool _) (ev_andC (m1 := 0) (m2 := 0) (ev_callW (eva_c (ev_var (i := 0) rfl (.str x) rfl) eva_n) few ht) fun hw => ev_chainLe (m1 := 0) (m2 := 0) (m3 := 0) (ev_int rfl) (ev_intS (eva_c (ev_var (i := 0) rfl (.str x) rfl) eva_n) (int_of_whole hw few) (by omega)) (ev_int rfl)) (Nat.zero_le _) fun H4 v4 d4 s4 hd4 e4 => by subst e4; cases hd4; exact q H4 (s1.trans (s2.trans (s3.trans s4)))
  · refine skipf K rfl (by decide +kernel) fun H1 s1 => skipf K rfl (by decide +kernel) fun H2 s2 => skipf K rfl (by decide +kernel) fun H3 s3 => skipf K rfl (by decide +kernel) fun H4 s4 => skipf K rfl (by decide +kernel) fun H5 s5 => ?_
    have q : ∀ H', Same H H' → Q (.bl ((decide ((1 : Int) ≤ (x.length : Nat)) && decide (((x.length : Nat) : Int) ≤ 8)) && ((TL.tl x).all fun c => decide (c ∈ TL.tl "abcdefghijklmnopqrstuvwxyz")))) H' := by
      have e : fitW "a" x = ((decide ((1 : Int) ≤ (x.length : Nat)) && decide (((x.length : Nat) : Int) ≤ 8)) && ((TL.tl x).all fun c => decide (c ∈ TL.tl "abcdefghijklmnopqrstuvwxyz"))) := by
        show nameStr x = _
        unfold nameStr
        rw [low_all]
        congr 1
        rw [← Bool.decide_and, decide_eq_decide]
        omega
      rw [e] at q
      exact q
    dsimp only
    refine ev_retN (K := K) 0 (· = .bool _) (ev_andC (m1 := 0) (m2 := 0) (ev_chainLe (m1 := 0) (m2 := 0) (m3 := 0) (ev_int rfl) (ev_lenSX (eva_c (ev_var (i := 0) rfl (.str x) rfl) eva_n) (by omega)) (ev_int rfl)) fun _ => ev_allIn (i := 0) rfl (by omega) (fun _ => rfl) (fun _ => rfl)) (Nat.zero_le _) fun H6 v6 d6 s6 hd6 e6 => by subst e6; cases hd6; exact q H6 (s1.trans (s2.trans (s3.trans (s4.trans (s5.trans s6)))))
theorem ok_fitsM (T : Top K mg) : FnOk P w K mg base CX0 3 T.a__law_fits T.d__law_fits ["_law_word_here", "_law_form"] (spFits ["m"]) := by
  have G__law_fits : FnOk P w K mg base CX0 2 T.a__law_fits T.d__law_fits ["_law_word_here", "_law_form"] (spFits ["d", "a"]) := ok_fits0 T
  have G__law_is_whole_word : FnOk P w K mg base CX0 1 T.a__law_is_whole_word T.d__law_is_whole_word ["_law_word_here"] (spW wholeW) := ok_whole_word T
  refine T.F__law_fits.ok sc__law_fits spFits_len (fun cdv A outer s H vs Q E hr h => ?_)
  obtain ⟨x, f, rfl, hf, few, ht, q⟩ := h
  have hr1 : Room 1 _ := hr.mono (by decide)
  have hrF : Room 2 _ := hr
  refine ⟨_, (pss_cons (ps_if (pt_cmpR op_eq (pv 1) pe_str (by rfl)) pss_never pss_nil) (pss_cons (ps_if (pt_cmpR op_eq (pv 1) pe_str (by rfl)) pss_never pss_nil) (pss_cons (ps_if (pt_cmpR op_eq (pv 1) pe_str (by rfl)) (pss_one (ps_ret (pe_and (pe_call G__law_is_whole_word hr1 (by rfl) T.m__law_is_whole_word T.F__law_is_whole_word.kp T.b__law_is_whole_word .nil pass0 (pa_cons (pv 0) pa_nil)) (pe_one (pe_chain op_le op_le pe_int (pe_callTy call_int_str (by rfl) T.n_int (by decide +kernel) (pa_cons (pv 0) pa_nil)) pe_int))))) pss_nil) (pss_cons (ps_if (pt_cmpR op_eq (pv 1) pe_str (by rfl)) pss_never pss_nil) (pss_cons (ps_if (pt_cmpR op_eq (pv 1) pe_str (by rfl)) (pss_cons (ps_asg (pe_partition (pv 0) pe_str) (pg_tup rfl (pgs_cons (pg_name (i := 2) sc__law_fits.nd rfl (.inl rfl)) (pgs_cons (pg_name (i := 3) sc__law_fits.nd rfl (.inl rfl)) (pgs_cons (pg_name (i := 4) sc__law_fits.nd rfl (.inl rfl)) pgs_nil))))) (pss_one (ps_ret (pe_and (pe_cmpR op_eq (pv 3) pe_str (by rfl)) (pe_and (pe_call G__law_fits hrF (by rfl) T.m__law_fits T.F__law_fits.kp T.b__law_fits .nil pass0 (pa_cons (pv 2) (pa_cons pe_str pa_nil))) (pe_one (pe_call G__law_fits hrF (by rfl) T.m__law_fits T.F__law_fits.kp T.b__law_fits .nil pass0 (pa_cons (pv 4) (pa_cons pe_str pa_nil))))))))) pss_nil) (pss_one (ps_ret (pe_and (pe_chain op_le op_le pe_int (pe_callB call_len_str (by rfl) T.n_len PySem.boot_len (pa_cons (pv 0) pa_nil)) pe_int) (pe_one (pe_callB (cr_all rfl) (by rfl) T.n_all (by decide +kernel) (pa_cons (pe_lc (own := [("_law_sign", 5)]) (g := gName 5) (tt := tYes) (by rfl) sc__law_fits.nd (pi_str (pv 0)) (blkOk_by (own := [("_law_sign", 5)]) (N := ["_law_word_here", "_law_form", "_law_left", "_law_colon", "_law_right", "_law_sign"]) (sc := defScope s__law_fits) (by decide +kernel)) (fun _ _ _ _ _ => (pg_name (i := 5) sc__law_fits.nd rfl (.inl rfl))) (fun _ _ _ _ _ => pts_nil) (fun _ _ _ _ _ => (pe_cmpR op_in_sign (pv 5) pe_str (by rfl)))) pa_nil))))))))))), ?_⟩
  have hf : f = "m" := by simpa using hf
  subst hf
  refine skipf K rfl (by decide +kernel) fun H1 s1 => skipf K rfl (by decide +kernel) fun H2 s2 => skipf K rfl (by decide +kernel) fun H3 s3 => skipf K rfl (by decide +kernel) fun H4 s4 => ?_
  dsimp only
  refine if_b (b := true) (evb_val (K := K) (m := 0) (eqf rfl (by decide +kernel)) (Nat.zero_le _)) (fun _ H5 s5 => ?_) (fun z => nomatch z)
  have s15 := s1.trans (s2.trans (s3.trans (s4.trans s5)))
  obtain ⟨t1, t2, l1, l2⟩ := tidy_parts ht
  have q : ∀ H', Same H H' → Q (.bl (decide ((Txt.partition x col).2.1 = col) && (nameStr (Txt.partition x col).1 && dayW (Txt.partition x col).2.2))) H' := by
    have e : fitW "m" x = (decide ((Txt.partition x col).2.1 = col) && (nameStr (Txt.partition x col).1 && dayW (Txt.partition x col).2.2)) := by
      show monW x = _
      unfold monW
      rcases part_cases x with ⟨_, e⟩ | ⟨a, b, _, _, e⟩
      · rw [e]
        show (nameStr x && dayW Str.empty) = (_ && (nameStr x && dayW Str.empty))
        rw [show dayW Str.empty = false by decide +kernel, Bool.and_false, Bool.and_false]
      · rw [e]
        show _ = (decide (col = col) && _)
        rw [decide_eq_true rfl, Bool.true_and]
    rw [e] at q
    exact q
  refine ⟨.str x, rfl, ⟨x, rfl⟩, x, col, rfl, rfl, by decide +kernel, Nat.le_trans (by omega : x.length ≤ 1000000) line20, fun p np => ?_⟩
  have hT : SqT K (upd H5 p (.tup [.str (Txt.partition x col).1, .str (Txt.partition x col).2.1, .str (Txt.partition x col).2.2])) p [.str (Txt.partition x col).1, .str (Txt.partition x col).2.1, .str (Txt.partition x col).2.2] := SqT.of upd_same
  have sp : Same H5 (upd H5 p (.tup [.str (Txt.partition x col).1, .str (Txt.partition x col).2.1, .str (Txt.partition x col).2.2])) := same_new np
  generalize upd H5 p (.tup [.str (Txt.partition x col).1, .str (Txt.partition x col).2.1, .str (Txt.partition x col).2.2]) = H6 at hT sp ⊢
  generalize Txt.partition x col = z at *
  refine ⟨p, _, rfl, hT, rfl, .str z.1, [.str z.2.1, .str z.2.2], rfl, .str z.2.1, [.str z.2.2], rfl, .str z.2.2, [], rfl, rfl, ?_⟩
  dsimp only [gName, List.set]
  refine ev_retN (K := K) 0 (· = .bool _) (ev_andC (m1 := 0) (m2 := 0) (ev_eqS (m1 := 0) (m2 := 0) (ev_var (i := 3) rfl (.str z.2.1) rfl) (ev_str rfl) rfl) fun _ => ev_andC (m1 := 0) (m2 := 0) (y := dayW z.2.2) (ev_callF (eva_c (ev_var (i := 2) rfl (.str z.1) rfl) (eva_c (ev_str rfl) eva_n)) (by simp) (by omega) t1) fun _ => ev_callF (eva_c (ev_var (i := 4) rfl (.str z.2.2) rfl) (eva_c (ev_str rfl) eva_n)) (by simp) (by omega) t2) (Nat.zero_le _) fun H7 v7 d7 s7 hd7 e7 => by subst e7; cases hd7; exact q H7 (s15.trans (sp.trans s7))
theorem int_fit (x : Str) : (wholeW x || (decide (cutS x none (some 1) = mns) && (!decide (x = "-0") && wholeW (cutS x (some 1) none)))) = intW x := by
  have t1 : TL.tl (cutS x none (some 1)) = (TL.tl x).take 1 := by
    rw [tl_cutS]
    have h : HT.sIx x.length x.length (some ((1 : Nat) : Int)) = min 1 x.length := HT.sIx_nat _ _ _
    show ((TL.tl x).drop 0).take (HT.sIx x.length x.length (some ((1 : Nat) : Int)) - 0) = _
    rw [h, List.drop_zero, Nat.sub_zero, TL.len_tl]
    cases TL.tl x <;> simp
  have t2 : TL.tl (cutS x (some 1) none) = (TL.tl x).drop 1 := by
    rw [tl_cutS]
    have h : HT.sIx x.length 0 (some ((1 : Nat) : Int)) = min 1 x.length := HT.sIx_nat _ _ _
    show ((TL.tl x).drop (HT.sIx x.length 0 (some ((1 : Nat) : Int)))).take (x.length - HT.sIx x.length 0 (some ((1 : Nat) : Int))) = _
    rw [h, TL.len_tl]
    cases TL.tl x <;> simp
  have e1 : decide (cutS x none (some 1) = mns) = decide ((TL.tl x).head? = some 45) := by
    rw [decide_eq_decide]
    constructor
    · intro e
      rw [e, show TL.tl mns = [45] by decide +kernel] at t1
      cases h : TL.tl x with
      | nil => rw [h] at t1; cases t1
      | cons c r => rw [h] at t1; cases t1; rfl
    · intro e
      refine TL.ext_tl ?_
      rw [t1, show TL.tl mns = [45] by decide +kernel]
      cases h : TL.tl x with
      | nil => rw [h] at e; cases e
      | cons c r => rw [h] at e; cases e; rfl
  have e2 : decide (x = "-0") = decide (TL.tl x = [45, 48]) := by
    rw [decide_eq_decide]
    constructor
    · intro e
      rw [e]
      decide +kernel
    · intro e
      refine TL.ext_tl ?_
      rw [e]
      decide +kernel
  rw [e1, e2]
  unfold wholeW intW
  rw [t2]
  generalize TL.tl x = l
  by_cases h : l.head? = some 45
  · obtain ⟨r, rfl⟩ : ∃ r, l = 45 :: r := by
      cases l with
      | nil => cases h
      | cons c r => cases h; exact ⟨r, rfl⟩
    rw [decide_eq_true h]
    have w0 : wholeL (45 :: r) = false := by
      unfold wholeL
      rw [show digL (45 :: r) = false from rfl, Bool.false_and, Bool.and_false]
    rw [w0]
    show (false || (true && (!decide (45 :: r = [45, 48]) && wholeL r))) = (!r.isEmpty && (digL r && (decide (45 :: r = [48]) || !decide (r.head? = some 48))))
    rw [Bool.false_or, Bool.true_and, decide_eq_false (show ¬ (45 :: r = [48]) by simp), Bool.false_or]
    unfold wholeL
    by_cases hr : r = [48]
    · subst hr
      decide
    · rw [decide_eq_false (show ¬ (45 :: r = [45, 48]) by simpa using hr), decide_eq_false hr, Bool.false_or]
      rfl
  · rw [decide_eq_false h, Bool.false_and, Bool.or_false]
    unfold intL wholeL
    rw [stripm_of fun r e => h (by rw [e]; rfl)]
theorem ok_fitsB (T : Top K mg) : FnOk P w K mg base CX0 2 T.a__law_fits T.d__law_fits ["_law_word_here", "_law_form"] (spFits ["i", "n", "k"]) := by
  have G__law_is_whole_word : FnOk P w K mg base CX0 1 T.a__law_is_whole_word T.d__law_is_whole_word ["_law_word_here"] (spW wholeW) := ok_whole_word T
  refine T.F__law_fits.ok sc__law_fits spFits_len (fun cdv A outer s H vs Q E hr h => ?_)
  obtain ⟨x, f, rfl, hf, few, ht, q⟩ := h
  refine ⟨_, (pss_cons (ps_if (pt_cmpR op_eq (pv 1) pe_str (by rfl)) (pss_one (ps_ret (pe_or (pe_call G__law_is_whole_word hr (by rfl) T.m__law_is_whole_word T.F__law_is_whole_word.kp T.b__law_is_whole_word .nil pass0 (pa_cons (pv 0) pa_nil)) (pe_one (pe_and (pe_cmpR op_eq (pe_slice sl_str (pv 0) po_none (po_some pe_int)) pe_str (by rfl)) (pe_and (pe_cmpR op_ne (pv 0) pe_str (by rfl)) (pe_one (pe_call G__law_is_whole_word hr (by rfl) T.m__law_is_whole_word T.F__law_is_whole_word.kp T.b__law_is_whole_word .nil pass0 (pa_cons (pe_slice sl_str (pv 0) (po_some pe_int) po_none) pa_nil))))))))) pss_nil) (pss_cons (ps_if (pt_cmpR op_eq (pv 1) pe_str (by rfl)) (pss_one (ps_ret (pe_call G__law_is_whole_word hr (by rfl) T.m__law_is_whole_word T.F__law_is_whole_word.kp T.b__law_is_whole_word .nil pass0 (pa_cons (pv 0) pa_nil)))) pss_nil) (pss_cons (ps_if (pt_cmpR op_eq (pv 1) pe_str (by rfl)) pss_never pss_nil) (pss_cons (ps_if (pt_cmpR op_eq (pv 1) pe_str (by rfl)) (pss_one (ps_ret (pe_cmpR op_in_seq (pv 0) (pe_tupF (pa_cons pe_str (pa_cons pe_str (pa_cons pe_str (pa_cons pe_str pa_nil))))) (by rfl)))) pss_nil) (pss_cons (ps_if (pt_cmpR op_eq (pv 1) pe_str (by rfl)) pss_never pss_nil) pss_never))))), ?_⟩
  have hf : f = "i" ∨ f = "n" ∨ f = "k" := by simpa using hf
  have lc : ∀ lo hi, (cutS x lo hi).length ≤ 64 ∧ tidy (cutS x lo hi) = true := fun lo hi => ⟨by
    rw [TL.len_tl, tl_cutS, List.length_take, List.length_drop]
    have := TL.len_tl x
    omega, tidy_iff.mpr fun c hc => tidy_iff.mp ht c (by
      have hc : c ∈ TL.tl (cutS x lo hi) := hc
      rw [tl_cutS] at hc
      exact List.mem_of_mem_drop (List.mem_of_mem_take hc))⟩
  rcases hf with rfl | rfl | rfl
  · refine if_b (b := true) (evb_val (K := K) (m := 0) (eqf rfl (by decide +kernel)) (Nat.zero_le _)) (fun _ H1 s1 => ?_) (fun z => nomatch z)
    have q : ∀ H', Same H H' → Q (.bl (wholeW x || (decide (cutS x none (some 1) = mns) && (!decide (x = "-0") && wholeW (cutS x (some 1) none))))) H' := by
      rw [int_fit]
      exact q
    have c1 := lc (some 1) none
    exact ev_retN (K := K) 0 (· = .bool _) (ev_orC (m1 := 0) (m2 := 0) (ev_callW (eva_c (ev_var (i := 0) rfl (.str x) rfl) eva_n) few ht) fun _ => ev_andC (m1 := 0) (m2 := 0) (ev_eqS (m1 := 0) (m2 := 0) (ev_cutSX (m1 := 0) (m2 := 0) (m3 := 0) (ev_var (i := 0) rfl (.str x) rfl) evo_none (evo_X (ev_int (i := 1) rfl)) (by omega)) (ev_str rfl) rfl) fun _ => ev_andC (m1 := 0) (m2 := 0) (ev_neSX (m1 := 0) (m2 := 0) (ev_var (i := 0) rfl (.str x) rfl) (ev_str rfl)) fun _ => ev_callW (eva_c (ev_cutSX (m1 := 0) (m2 := 0) (m3 := 0) (ev_var (i := 0) rfl (.str x) rfl) (evo_X (ev_int (i := 1) rfl)) evo_none (by omega)) eva_n) c1.1 c1.2) (Nat.zero_le _) fun H7 v7 d7 s7 hd7 e7 => by subst e7; cases hd7; exact q H7 (s1.trans s7)
  · refine skipf K rfl (by decide +kernel) fun H1 s1 => ?_
    refine if_b (b := true) (evb_val (K := K) (m := 0) (eqf rfl (by decide +kernel)) (Nat.zero_le _)) (fun _ H2 s2 => ?_) (fun z => nomatch z)
    exact ev_retN (K := K) 0 (· = .bool (wholeW x)) (ev_callW (eva_c (ev_var (i := 0) rfl (.str x) rfl) eva_n) few ht) (Nat.zero_le _) fun H7 v7 d7 s7 hd7 e7 => by subst e7; cases hd7; exact q H7 (s1.trans (s2.trans s7))
  · refine skipf K rfl (by decide +kernel) fun H1 s1 => skipf K rfl (by decide +kernel) fun H2 s2 => skipf K rfl (by decide +kernel) fun H3 s3 => ?_
    refine if_b (b := true) (evb_val (K := K) (m := 0) (eqf rfl (by decide +kernel)) (Nat.zero_le _)) (fun _ H4 s4 => ?_) (fun z => nomatch z)
    refine ⟨.str x, rfl, Nat.le_trans (show _ ≤ 1000000 by exact (by decide : 4 ≤ 1000000)) line20, fun p o np ho => ?_⟩
    have s5 : Same H4 (upd H4 p (.frz o (.tup [.str "rule", .str "jump", .str "rename", .str "restore"]))) := same_new np
    generalize hH1 : upd H4 p (.frz o (.tup [.str "rule", .str "jump", .str "rename", .str "restore"])) = H5 at s5 ⊢
    refine ⟨p, [.str "rule", .str "jump", .str "rename", .str "restore"], rfl, .inr (.inl (.inr ⟨o, by rw [← hH1]; exact upd_same⟩)), rfl, ?_⟩
    rw [in_kinds]
    exact ⟨rfl, q H5 (s1.trans (s2.trans (s3.trans (s4.trans s5))))⟩
theorem ok_fits (T : Top K mg) : FnOk P w K mg base CX0 3 T.a__law_fits T.d__law_fits ["_law_word_here", "_law_form"] (spFits ["i", "n", "k", "d", "a", "m"]) :=
  (FnOk.or (FnOk.or ((ok_fits0 T).mono (by decide)) ((ok_fitsB T).mono (by decide))) (ok_fitsM T)).imp fun vs H Q E h => by
    obtain ⟨x, f, rfl, hf, few, ht, q⟩ := h
    have hf : f = "i" ∨ f = "n" ∨ f = "k" ∨ f = "d" ∨ f = "a" ∨ f = "m" := by simpa using hf
    rcases hf with rfl | rfl | rfl | rfl | rfl | rfl
    · exact .inl (.inr ⟨x, _, rfl, by simp, few, ht, q⟩)
    · exact .inl (.inr ⟨x, _, rfl, by simp, few, ht, q⟩)
    · exact .inl (.inr ⟨x, _, rfl, by simp, few, ht, q⟩)
    · exact .inl (.inl ⟨x, _, rfl, by simp, few, ht, q⟩)
    · exact .inl (.inl ⟨x, _, rfl, by simp, few, ht, q⟩)
    · exact .inr ⟨x, _, rfl, by simp, few, ht, q⟩
end

section
variable {P : Program} {w : World} {K : PySem.W.Frag} {mg : Str → Option Value} {base : Heap}
/-! #### the law's place, its words -/
def plV : Option Nat → V
  | some k => .int (k : Nat)
  | none => .non
def spPlace (K : PySem.W.Frag) : Sp := fun vs H Q _ => ∃ (v : V) (ws : List Str) (at' : Nat), vs = [v, .int (at' : Nat)] ∧ Df K H v (.list (ws.map PyData.str)) ∧ Words ws ∧ at' ≤ ws.length ∧ ∀ H', Same H H' → Q (plV (placeL true at' (ws.drop at'))) H'
theorem ok_rule_place (T : Top K mg) : FnOk P w K mg base CX0 4 T.a__law_rule_place T.d__law_rule_place ["_law_words", "_law_at"] (spPlace K) := by
  have G__law_fits : FnOk P w K mg base CX0 3 T.a__law_fits T.d__law_fits ["_law_word_here", "_law_form"] (spFits ["i", "n", "k", "d", "a", "m"]) := ok_fits T
  refine T.F__law_rule_place.ok sc__law_rule_place (fun vs H Q E h => by obtain ⟨_, _, _, rfl, _⟩ := h; rfl) (fun cdv A outer s H vs Q E hr h => ?_)
  obtain ⟨v, ws, at', rfl, hd, ⟨few, hws⟩, hat, q⟩ := h
  refine ⟨_, (pss_cons (ps_set (i := 2) sc__law_rule_place.nd rfl (.inl rfl) pe_bl) (pss_cons (ps_for PassesOwn.never rfl (pi_range2 rfl T.n_range (pa_cons (pv 1) (pa_cons (pe_callB call_len_seq (by rfl) T.n_len PySem.boot_len (pa_cons (pv 0) pa_nil)) pa_nil))) (pg_name (i := 3) sc__law_rule_place.nd rfl (.inl rfl)) (pss_one (ps_if (PW.pt (pw_and (pt_cmpR op_eq (pe_ix ix_list (pv 0) (pv 3) (fun _ _ => rfl)) pe_str (by rfl)) (pw_and1 (pt_not (pt_val (pv 2)))))) (pss_one (ps_set (i := 2) sc__law_rule_place.nd rfl (.inl rfl) pe_bl)) (pss_one (ps_if (pt_val (pe_call G__law_fits hr (by rfl) T.m__law_fits T.F__law_fits.kp T.b__law_fits .nil pass0 (pa_cons (pe_ix ix_list (pv 0) (pv 3) (fun _ _ => rfl)) (pa_cons pe_str pa_nil)))) (pss_one (ps_set (i := 2) sc__law_rule_place.nd rfl (.inl rfl) pe_bl)) (pss_one (ps_ret (pv 3)))))))) (pss_one (ps_ret (pe_ifExp (pt_val (pv 2)) (pe_callB call_len_seq (by rfl) T.n_len PySem.boot_len (pa_cons (pv 0) pa_nil)) pe_non))))), ?_⟩
  refine ev_setN (K := K) 0 (· = .bool true) (ev_bl rfl) (Nat.zero_le _) fun H1 v1 d1 s1 hd1 e1 => ?_
  subst e1
  cases hd1
  have hN : (at' : Int) + ((ws.length - at' : Nat) : Int) = (ws.length : Int) := by omega
  refine ev_forR2 (K := K) (S := noS) (a := none) (m := 0) (n := 0) (at' : Int) (ws.length - at') rn_no (by decide) ?_ (by omega) (by omega) (by omega) fun H2 k2 r2 => ?_
  · rw [hN]
    refine eva_c (ev_var (i := 1) rfl (.int _) rfl) (eva_c ?_ eva_n)
    have e := ev_lenX (K := K) (S := noS) (a := none) (m := 0) (σ := [some v, some (.int (at' : Nat)), some (.bl true), none]) (H0 := H1) (es := ws.map PyData.str) (eva_c (ev_var (i := 0) rfl (dp_no (Df.to hd s1)) rfl) eva_n)
    rw [List.length_map] at e
    exact e
  have s2 := keeps_no k2
  refine ⟨fun j σ' H' => ∃ o x3, σ' = [some v, some (.int (at' : Nat)), some (.bl o), x3] ∧ Same H H' ∧ placeL true at' (ws.drop at') = placeL o (at' + j) (ws.drop (at' + j)), ⟨true, _, rfl, s1.trans s2, rfl⟩, ?_, ?_⟩
  · rintro j σ' H' hj ⟨o, x3, rfl, s3, ep⟩
    dsimp only [List.set]
    have hlt : at' + j < ws.length := by omega
    obtain ⟨x, hx⟩ : ∃ x, ws[at' + j]? = some x := ⟨_, List.getElem?_eq_getElem hlt⟩
    have edrop : ws.drop (at' + j) = x :: ws.drop (at' + j + 1) := by
      rw [List.drop_eq_getElem_cons hlt]
      rw [List.getElem?_eq_getElem hlt] at hx
      rw [Option.some.inj hx]
    obtain ⟨fx, tx⟩ := hws x (List.mem_of_getElem? hx)
    have hd3 : Df K H' v (.list (ws.map PyData.str)) := Df.to hd s3
    have ix : ∀ (S : Addr → Bool) (a : Option Addr) (G : Hp), Df K (hid S G) v (.list (ws.map PyData.str)) → Ev K S a [some v, some (.int (at' : Nat)), some (.bl o), some (.int ((at' : Int) + (j : Nat)))] G (tOp (rIxL K) (tVar 0) (tVar 3)) 0 (· = .str x) := fun S a G h =>
      ev_ixLX (m1 := 0) (m2 := 0) (ev_var (i := 0) rfl h rfl) (ev_var (i := 3) rfl (.int _) rfl) (by rw [show ((at' : Int) + (j : Nat)) = ((at' + j : Nat) : Int) by omega]; exact atI_strs hx)
    rw [edrop] at ep
    have ep' : placeL true at' (ws.drop at') = if x = sla ∧ o = false then placeL true (at' + (j + 1)) (ws.drop (at' + (j + 1))) else if monW x = true then placeL false (at' + (j + 1)) (ws.drop (at' + (j + 1))) else some (at' + j) := ep
    refine if_b (b := decide (x = sla) && !o) ?_ (fun hb H4 s4 => ?_) (fun hb H4 s4 => ?_)
    · refine evb_and (evb_val (K := K) (m := 0) (ev_eqS (m1 := 0) (m2 := 0) (ix _ _ _ (dp_no hd3)) (ev_str rfl) rfl) (Nat.zero_le _)) fun _ => evb_not (evb_test (K := K) (m := 0) (ev_var (i := 2) rfl (.bl o) rfl) (Nat.zero_le _))
    · obtain ⟨b1, b2⟩ := Bool.and_eq_true_iff.mp hb
      have b1 := of_decide_eq_true b1
      have b2 : o = false := by cases o <;> first | rfl | exact nomatch b2
      rw [if_pos ⟨b1, b2⟩] at ep'
      exact ⟨true, _, rfl, s3.trans s4, ep'⟩
    · have nb : ¬ (x = sla ∧ o = false) := fun z => by
        rw [decide_eq_true z.1, z.2] at hb
        exact nomatch hb
      rw [if_neg nb] at ep'
      have hd4 := Df.to hd3 s4
      refine if_b (b := monW x) (evb_test (K := K) (m := 0) (ev_callF (f := "m") (eva_c (ix _ _ _ (dp_no hd4)) (eva_c (ev_str rfl) eva_n)) (by simp) fx tx) (Nat.zero_le _)) (fun hm H5 s5 => ?_) (fun hm H5 s5 => ?_)
      · rw [if_pos hm] at ep'
        exact ⟨false, _, rfl, s3.trans (s4.trans s5), ep'⟩
      · rw [if_neg (by rw [hm]; exact Bool.false_ne_true)] at ep'
        rw [ep'] at q
        have q := q H5 (s3.trans (s4.trans s5))
        rw [show plV (some (at' + j)) = V.int ((at' : Int) + (j : Nat)) from congrArg V.int (by omega)] at q
        exact ⟨_, rfl, q⟩
  · rintro σ' H' ⟨o, x3, rfl, s3, ep⟩
    dsimp only
    rw [show at' + (ws.length - at') = ws.length by omega, List.drop_length] at ep
    have ep : placeL true at' (ws.drop at') = if o = true then some ws.length else none := ep
    rw [ep] at q
    cases o with
    | true =>
      refine ev_retN (K := K) 0 (· = .int (ws.length : Nat)) ?_ (Nat.zero_le _) fun H6 v6 d6 s6 hd6 e6 => by subst e6; cases hd6; exact q H6 (s3.trans s6)
      have e := ev_lenX (K := K) (S := noS) (a := none) (m := 0) (σ := [some v, some (.int (at' : Nat)), some (.bl true), x3]) (H0 := H') (es := ws.map PyData.str) (eva_c (ev_var (i := 0) rfl (dp_no (Df.to hd s3)) rfl) eva_n)
      rw [List.length_map] at e
      exact ev_ifT (ev_var (i := 2) rfl (.bl true) rfl) e
    | false => exact ⟨_, rfl, _, rfl, iteF (q H' s3)⟩
def spSplit (K : PySem.W.Frag) : Sp := fun vs H Q _ => ∃ x : Str, vs = [.str x] ∧ x.length ≤ 100000 ∧ ∀ H' v', Same H H' → Df K H' v' (.list ((wordsL x).map PyData.str)) → Q v' H'
theorem ok_split (T : Top K mg) : FnOk P w K mg base CX0 1 T.a__law_split T.d__law_split ["_law_line_here"] (spSplit K) := by
  refine T.F__law_split.ok sc__law_split (fun vs H Q E h => by obtain ⟨_, rfl, _⟩ := h; rfl) (fun cdv A outer s H vs Q E hr h => ?_)
  obtain ⟨x, rfl, few, q⟩ := h
  refine ⟨_, (pss_one (ps_ret (pe_ifExp (pt_cmpR op_ne (pv 0) pe_str (by rfl)) (pe_split (pv 0) pe_str) (pe_lst pa_nil)))), ?_⟩
  refine ⟨.str x, rfl, rfl, _, rfl, ?_⟩
  by_cases hx : x = ""
  · rw [eqS_lit, decide_eq_true hx]
    refine iteF ⟨Nat.zero_le _, fun p np => q _ _ (same_new np) ?_⟩
    have e : wordsL x = [] := if_pos hx
    rw [e]
    exact .lst (.inl (.inl upd_same)) .nil
  · rw [eqS_lit, decide_eq_false hx]
    refine iteT ⟨.str x, rfl, ⟨x, rfl⟩, x, spc, rfl, rfl, by decide +kernel, Nat.le_trans (by omega : x.length + 2 ≤ 1000000) line20, fun p np => q _ _ (same_new np) ?_⟩
    have e : wordsL x = Txt.split x spc := if_neg hx
    rw [e]
    exact .lst (.inl (.inl upd_same)) dp_ofStrs
end

section
variable {P : Program} {w : World} {K : PySem.W.Frag} {mg : Str → Option Value} {base : Heap}
/-! #### the law's place; three words -/
abbrev letters : List Str := ["i", "n", "k", "d", "a", "m"]
theorem ev_callFW {S : Addr → Bool} {a : Option Addr} {σ : L2.St} {H0 : Hp} {tr : TA} {m : Nat} {x f : Str} {E : XK} (h : EvA K S a σ H0 tr m (· = [.str x, .str f])) (hf : f ∈ letters) (few : x.length ≤ 64) (ht : tidy x = true) : Ev K S a σ H0 (tCall (spFits letters) [] E tr) m (· = .bool (fitW f x)) := ev_callF h hf few ht
def formsW (f : Str) : List (Str → Bool) := (TL.tl f).map fun c => fitW ⟨#[c]⟩
def placeW (f : Str) (b : Bool) (ws : List Str) : Option Nat := match placeF (formsW f) 0 ws with
  | some k => some k
  | none => if b = true then placeL true f.length (ws.drop f.length) else if f.length < ws.length then some f.length else none
def spPl (K : PySem.W.Frag) : Sp := fun vs H Q _ => ∃ (v : V) (ws : List Str) (f : Str) (b : Bool), vs = [v, .str f, .bl b] ∧ Df K H v (.list (ws.map PyData.str)) ∧ Words ws ∧ 1 ≤ f.length ∧ f.length ≤ 12 ∧ (∀ c ∈ TL.tl f, (⟨#[c]⟩ : Str) ∈ letters) ∧ ∀ H', Same H H' → Q (plV (placeW f b ws)) H'
theorem placeF_len' : ∀ {fs : List (Str → Bool)} {k : Nat} {ws : List Str}, placeF fs k ws = none → fs = [] ∨ k + fs.length ≤ ws.length
  | [], _, _, _ => .inl rfl
  | f :: fs, k, ws, h => by
    unfold placeF at h
    cases e : ws[k]? with
    | none => rw [e] at h; cases h
    | some w =>
      rw [e] at h
      dsimp only at h
      by_cases hf : f w = true
      · rw [if_pos hf] at h
        have hl := (List.getElem?_eq_some_iff.mp e).1
        rcases placeF_len' h with e | e
        · subst e
          exact .inr (by rw [List.length_singleton]; omega)
        · exact .inr (by rw [List.length_cons]; omega)
      · rw [if_neg hf] at h
        cases h
theorem ok_law_place (T : Top K mg) : FnOk P w K mg base CX0 5 T.a__law_place T.d__law_place ["_law_words", "_law_forms", "_law_has_rule"] (spPl K) := by
  have G__law_fits : FnOk P w K mg base CX0 3 T.a__law_fits T.d__law_fits ["_law_word_here", "_law_form"] (spFits letters) := ok_fits T
  have G__law_rule_place : FnOk P w K mg base CX0 4 T.a__law_rule_place T.d__law_rule_place ["_law_words", "_law_at"] (spPlace K) := ok_rule_place T
  refine T.F__law_place.ok sc__law_place (fun vs H Q E h => by obtain ⟨_, _, _, _, rfl, _⟩ := h; rfl) (fun cdv A outer s H vs Q E hr h => ?_)
  obtain ⟨v, ws, f, b, rfl, hd, hW, l1, l12, hf, q⟩ := h
  have hr3 : Room 3 _ := hr.mono (by decide)
  refine ⟨_, (pss_cons (ps_for PassesOwn.never rfl (pi_enumStr (by rfl) T.n_enumerate (pa_cons (pv 1) pa_nil)) (pg_tup rfl (pgs_cons (pg_name (i := 3) sc__law_place.nd rfl (.inl rfl)) (pgs_cons (pg_name (i := 4) sc__law_place.nd rfl (.inl rfl)) pgs_nil))) (pss_one (ps_if (PW.pt (pw_or (pt_cmpR op_ge (pv 3) (pe_callB call_len_seq (by rfl) T.n_len PySem.boot_len (pa_cons (pv 0) pa_nil)) (by rfl)) (pw_or1 (pt_not (pt_val (pe_call G__law_fits hr3 (by rfl) T.m__law_fits T.F__law_fits.kp T.b__law_fits .nil pass0 (pa_cons (pe_ix ix_list (pv 0) (pv 3) (fun _ _ => rfl)) (pa_cons (pv 4) pa_nil)))))))) (pss_one (ps_ret (pv 3))) pss_nil))) (pss_cons (ps_if (pt_val (pv 2)) (pss_one (ps_ret (pe_call G__law_rule_place hr (by rfl) T.m__law_rule_place T.F__law_rule_place.kp T.b__law_rule_place .nil pass0 (pa_cons (pv 0) (pa_cons (pe_callB call_len_str (by rfl) T.n_len PySem.boot_len (pa_cons (pv 1) pa_nil)) pa_nil))))) pss_nil) (pss_one (ps_ret (pe_ifExp (pt_cmpR op_gt (pe_callB call_len_seq (by rfl) T.n_len PySem.boot_len (pa_cons (pv 0) pa_nil)) (pe_callB call_len_str (by rfl) T.n_len PySem.boot_len (pa_cons (pv 1) pa_nil)) (by rfl)) (pe_callB call_len_str (by rfl) T.n_len PySem.boot_len (pa_cons (pv 1) pa_nil)) pe_non))))), ?_⟩
  refine ⟨.str f, rfl, f, rfl, ?_⟩
  have lfs : (formsW f).length = f.length := by unfold formsW; rw [List.length_map, TL.len_tl]
  refine for_en (Pv := fun j σ' H' => ∃ x3 x4, σ' = [some v, some (.str f), some (.bl b), x3, x4] ∧ Same H H' ∧ placeF (formsW f) 0 ws = placeF ((formsW f).drop j) j ws) ?_ ?_ ?_ ?_
  · exact ⟨_, _, rfl, Same.refl _, rfl⟩
  · intro j σ' H' _ _
    trivial
  · rintro j x σ' H' T' hx ⟨x3, x4, rfl, s1, ep⟩ nT
    obtain ⟨c, hc, rfl⟩ : ∃ c, (TL.tl f)[j]? = some c ∧ x = .str ⟨#[c]⟩ := by
      rw [List.getElem?_map] at hx
      cases e : (TL.tl f)[j]? with
      | none => rw [e] at hx; cases hx
      | some z => rw [e] at hx; exact ⟨z, rfl, (Option.some.inj hx).symm⟩
    have hj : j < (formsW f).length := by
      rw [lfs, TL.len_tl]
      exact (List.getElem?_eq_some_iff.mp hc).1
    have ef : (formsW f)[j]? = some (fitW ⟨#[c]⟩) := by
      unfold formsW
      rw [List.getElem?_map, hc]
      rfl
    have ed : (formsW f).drop j = fitW ⟨#[c]⟩ :: (formsW f).drop (j + 1) := by
      rw [List.drop_eq_getElem_cons hj]
      rw [List.getElem?_eq_getElem hj] at ef
      rw [Option.some.inj ef]
    rw [ed] at ep
    rw [show ((0 : Int) + (j : Nat)) = ((j : Nat) : Int) by omega]
    have hT : SqT K (upd H' T' (.tup [.int ((j : Nat) : Int), .str ⟨#[c]⟩])) T' [.int ((j : Nat) : Int), .str ⟨#[c]⟩] := SqT.of upd_same
    have s2 : Same H' (upd H' T' (.tup [.int ((j : Nat) : Int), .str ⟨#[c]⟩])) := same_new nT
    generalize upd H' T' (.tup [.int ((j : Nat) : Int), .str ⟨#[c]⟩]) = H2 at hT s2 ⊢
    refine ⟨T', _, rfl, hT, rfl, .int _, [.str ⟨#[c]⟩], rfl, .str ⟨#[c]⟩, [], rfl, rfl, ?_⟩
    dsimp only [gName, List.set]
    have s12 := s1.trans s2
    have eL : ∀ G, Same H2 G → Ev K noS none [some v, some (.str f), some (.bl b), some (.int ((j : Nat) : Int)), some (.str ⟨#[c]⟩)] G (tCB (rLenQ K) (tCons (tVar 0) tNil)) 0 (· = .int (ws.length : Nat)) := fun G s => by
      have e := ev_lenX (K := K) (S := noS) (a := none) (m := 0) (σ := [some v, some (.str f), some (.bl b), some (.int ((j : Nat) : Int)), some (.str ⟨#[c]⟩)]) (H0 := G) (es := ws.map PyData.str) (eva_c (ev_var (i := 0) rfl (dp_no (Df.to hd (s12.trans s))) rfl) eva_n)
      rw [List.length_map] at e
      exact e
    have hge : EvB [some v, some (.str f), some (.bl b), some (.int ((j : Nat) : Int)), some (.str ⟨#[c]⟩)] H2 (tB (tOp (rI0 fun i j => .bl (decide (i ≥ j))) (tVar 3) (tCB (rLenQ K) (tCons (tVar 0) tNil)))) (decide (((j : Nat) : Int) ≥ (ws.length : Nat))) := evb_val (K := K) (m := 0) (ev_ibX (f := fun i j => decide (i ≥ j)) (m1 := 0) (m2 := 0) (ev_var (i := 3) rfl (.int _) rfl) (eL H2 (Same.refl _))) (Nat.zero_le _)
    have ep' : placeF (formsW f) 0 ws = match ws[j]? with
      | some w => if fitW ⟨#[c]⟩ w = true then placeF ((formsW f).drop (j + 1)) (j + 1) ws else some j
      | none => some j := ep
    have out : placeF (formsW f) 0 ws = some j → ∀ G, Same H2 G → Q (.int ((j : Nat) : Int)) G := fun e G s => by
      have e2 : placeW f b ws = some j := by unfold placeW; rw [e]
      rw [e2] at q
      exact q G (s12.trans s)
    by_cases hlt : j < ws.length
    · obtain ⟨x, hx⟩ : ∃ x, ws[j]? = some x := ⟨_, List.getElem?_eq_getElem hlt⟩
      obtain ⟨fx, tx⟩ := hW.2 x (List.mem_of_getElem? hx)
      rw [hx] at ep'
      dsimp only at ep'
      refine if_b (b := decide (((j : Nat) : Int) ≥ (ws.length : Nat)) || !fitW ⟨#[c]⟩ x) (evb_or hge fun _ => evb_not (evb_test (K := K) (m := 0) (ev_callFW (eva_c (ev_ixLX (m1 := 0) (m2 := 0) (ev_var (i := 0) rfl (dp_no (Df.to hd s12)) rfl) (ev_var (i := 3) rfl (.int _) rfl) (atI_strs hx)) (eva_c (ev_var (i := 4) rfl (.str _) rfl) eva_n)) (hf c (List.mem_of_getElem? hc)) fx tx) (Nat.zero_le _))) (fun hb H3 s3 => ?_) (fun hb H3 s3 => ?_)
      · rw [decide_eq_false (by omega), Bool.false_or] at hb
        rw [if_neg (by rw [(Bool.not_eq_true' _).mp hb]; exact Bool.false_ne_true)] at ep'
        exact ⟨_, rfl, out ep' H3 s3⟩
      · rw [decide_eq_false (by omega), Bool.false_or] at hb
        have hb : fitW ⟨#[c]⟩ x = true := by cases h : fitW ⟨#[c]⟩ x <;> rw [h] at hb <;> first | rfl | exact nomatch hb
        rw [if_pos hb] at ep'
        exact ⟨_, _, rfl, s12.trans s3, ep'⟩
    · rw [List.getElem?_eq_none (by omega)] at ep'
      refine if_b (b := true) (fun G s Q q' => ?_) (fun _ H3 s3 => ⟨_, rfl, out ep' H3 s3⟩) (fun z => nomatch z)
      exact hge G s _ fun G1 s1 => by
        rw [decide_eq_true (by omega)]
        exact iteT (q' G1 s1)
  · rintro σ' H' ⟨x3, x4, rfl, s1, ep⟩
    rw [List.length_map, ← TL.len_tl, ← lfs, List.drop_length] at ep
    have ep : placeF (formsW f) 0 ws = none := ep
    have hl : f.length ≤ ws.length := by
      rcases placeF_len' ep with e | e
      · rw [e] at lfs
        rw [← lfs]
        exact Nat.zero_le _
      · rw [lfs] at e
        omega
    have eW : placeW f b ws = if b = true then placeL true f.length (ws.drop f.length) else if f.length < ws.length then some f.length else none := by
      unfold placeW
      rw [ep]
    rw [eW] at q
    dsimp only
    have Lf : ∀ G, Ev K noS none [some v, some (.str f), some (.bl b), x3, x4] G (tCB (fun xs H Q => ∃ x, xs = [V.str x] ∧ x.length ≤ sizeLine ∧ Q (.int x.length) H) (tCons (tVar 1) tNil)) 0 (· = .int (f.length : Nat)) := fun G => ev_lenSX (eva_c (ev_var (i := 1) rfl (.str f) rfl) eva_n) (by omega)
    refine if_b (b := b) (evb_test (K := K) (m := 0) (ev_var (i := 2) rfl (.bl b) rfl) (Nat.zero_le _)) (fun hb H2 s2 => ?_) (fun hb H2 s2 => ?_)
    · rw [if_pos hb] at q
      refine ⟨v, rfl, .str f, rfl, f, rfl, Nat.le_trans (by omega : f.length ≤ 1000000) line20, v, ws, f.length, rfl, Df.to hd (s1.trans s2), hW, hl, fun H3 s3 => q H3 (s1.trans (s2.trans s3))⟩
    · rw [if_neg (by rw [hb]; exact Bool.false_ne_true)] at q
      have eL := ev_lenX (K := K) (S := noS) (a := none) (m := 0) (σ := [some v, some (.str f), some (.bl b), x3, x4]) (H0 := H2) (es := ws.map PyData.str) (eva_c (ev_var (i := 0) rfl (dp_no (Df.to hd (s1.trans s2))) rfl) eva_n)
      rw [List.length_map] at eL
      refine (evb_val (K := K) (m := 0) (b := decide (((ws.length : Nat) : Int) > (f.length : Nat))) (ev_ibX (f := fun i j => decide (i > j)) (m1 := 0) (m2 := 0) eL (Lf H2)) (Nat.zero_le _)) H2 (Same.refl _) _ fun H3 s3 => ?_
      by_cases hlt : f.length < ws.length
      · rw [if_pos hlt] at q
        rw [decide_eq_true (by omega)]
        refine iteT ?_
        exact ev_no (K := K) 0 (· = .int (f.length : Nat)) (Lf H3) (Nat.zero_le _) fun H4 v4 d4 s4 hd4 e4 => by subst e4; cases hd4; exact q H4 (s1.trans (s2.trans (s3.trans s4)))
      · rw [if_neg hlt] at q
        rw [decide_eq_false (by omega)]
        exact iteF (q H3 (s1.trans (s2.trans s3)))
end

section
variable {P : Program} {w : World} {K : PySem.W.Frag} {mg : Str → Option Value} {base : Heap}
/-! #### the law's dates and rules of words -/
abbrev cs_yr : Scope := { kind := .function, names := [(".0", .local), ("_law_year", .local)], isGenerator := false, isCoroutine := false }
abbrev cs_yr2 : Scope := { kind := .function, names := [(".0", .local), ("_law_year", .local), ("tuple", .globalImplicit)], isGenerator := false, isCoroutine := false }
theorem int_of_int {x : Str} (h : intW x = true) (few : x.length ≤ 64) : PySem.intText? x = some (ivalW x) := by
  by_cases hx : (TL.tl x).head? = some 45
  · obtain ⟨r, er⟩ : ∃ r, TL.tl x = 45 :: r := by
      cases e : TL.tl x with
      | nil => rw [e] at hx; cases hx
      | cons c r => rw [e] at hx; cases hx; exact ⟨r, rfl⟩
    have lx := TL.len_tl x
    rw [er, List.length_cons] at lx
    have hh := h
    unfold intW intL at hh
    rw [er] at hh
    obtain ⟨h1, h2⟩ := Bool.and_eq_true_iff.mp (show (!r.isEmpty && (digL r && _)) = true from hh)
    have hd := digL_iff.mp (Bool.and_eq_true_iff.mp h2).1
    have ne : r ≠ [] := fun z => by rw [z] at h1; exact nomatch h1
    have nb : ∀ c ∈ r, NumText.blank c = false := fun c hc => by
      have := hd c hc
      unfold NumText.blank
      rw [decide_eq_false (show ¬ c ≤ 13 by omega), Bool.and_false, Bool.or_false]
      exact beq_false_of_ne (by omega)
    have dw : ∀ l : List Nat, (∀ c ∈ l, NumText.blank c = false) → l.dropWhile NumText.blank = l := fun l hl => by
      cases l with
      | nil => rfl
      | cons c l => rw [List.dropWhile_cons, hl c List.mem_cons_self]; rfl
    have core1 : NumText.core (45 :: r) = r := by
      unfold NumText.core
      show ((NumText.sign (45 :: r)).2.reverse.dropWhile NumText.blank).reverse = r
      show (r.reverse.dropWhile NumText.blank).reverse = r
      rw [dw _ fun c hc => nb c (List.mem_reverse.mp hc), List.reverse_reverse]
    have core2 : NumText.core r = r := by
      unfold NumText.core
      rw [dw r nb]
      have : NumText.sign r = (false, r) := by
        cases r with
        | nil => rfl
        | cons c r =>
          have := hd c List.mem_cons_self
          unfold NumText.sign
          split
          · rename_i e; cases e; omega
          · rename_i e; cases e; omega
          · rfl
      rw [this, dw _ fun c hc => nb c (List.mem_reverse.mp hc), List.reverse_reverse]
    have hy := intText_digits (x := ⟨r.toArray⟩) hd ne (by show r.toArray.size ≤ 4300; rw [List.size_toArray]; omega)
    rw [intText_of (x := ⟨r.toArray⟩) fun c hc => .inr (hd c hc)] at hy
    rw [intText_of fun c hc => by
      have hc : c ∈ TL.tl x := hc
      rw [er] at hc
      rcases List.mem_cons.mp hc with rfl | hc
      · exact .inl rfl
      · exact .inr (hd c hc)]
    have ex : x.cps.toList = 45 :: r := er
    rw [ex, core1]
    have ey : (⟨r.toArray⟩ : Str).cps.toList = r := rfl
    rw [ey, core2, NumText.digits_of hd ne] at hy
    rw [NumText.digits_of hd ne]
    dsimp only at hy ⊢
    have s1 : (NumText.sign ((45 :: r).dropWhile NumText.blank)).1 = true := rfl
    have s2 : (NumText.sign (r.dropWhile NumText.blank)).1 = false := by
      rw [dw r nb]
      cases r with
      | nil => rfl
      | cons c r =>
        have := hd c List.mem_cons_self
        unfold NumText.sign
        split
        · rename_i e; cases e; omega
        · rfl
        · rfl
    rw [s1]
    rw [s2] at hy
    have ev : ivalW x = -((NumText.digitsVal r : Nat) : Int) := by
      unfold ivalW
      rw [er]
      rfl
    rw [ev]
    by_cases hz : (List.foldl (fun acc c => acc.push (c - 48)) #[] r : Array Nat).size ≤ 4300
    · rw [if_pos hz] at hy ⊢
      have := Option.some.inj hy
      unfold NumText.worth at this ⊢
      rw [if_neg Bool.false_ne_true] at this
      rw [if_pos rfl, this]
    · rw [if_neg hz] at hy
      cases hy
  · have h0 := intW0 hx h
    rw [ivalW0 hx]
    exact intText_digits h0.2 h0.1 (by omega)
def sp3 (K : PySem.W.Frag) : Sp := fun vs H Q _ => ∃ (v : V) (ws : List Str) (k : Nat), vs = [v, .int (k : Nat)] ∧ Df K H v (.list (ws.map PyData.str)) ∧ DateOk (ws.drop k) ∧ ∀ H' u, Same H H' → Df K H' u (dateD (ws.drop k)) → Q u H'
theorem ok_law_three (T : Top K mg) : FnOk P w K mg base CX0 1 T.a__law_three T.d__law_three ["_law_words", "_law_at"] (sp3 K) := by
  refine T.F__law_three.ok sc__law_three (fun vs H Q E h => by obtain ⟨_, _, _, rfl, _⟩ := h; rfl) (fun cdv A outer s H vs Q E hr h => ?_)
  obtain ⟨v, ws, k, rfl, hd, ⟨a, b, c, r, e, fa, ia, nb, fc, dc⟩, q⟩ := h
  refine ⟨_, (pss_one (ps_ret (pe_tupF (pa_cons (pe_callTy call_int_str (by rfl) T.n_int (by decide +kernel) (pa_cons (pe_ix ix_list (pv 0) (pv 1) (fun _ _ => rfl)) pa_nil)) (pa_cons (pe_ix ix_list (pv 0) (pe_op op_add (pv 1) pe_int) (fun _ _ => rfl)) (pa_cons (pe_callTy call_int_str (by rfl) T.n_int (by decide +kernel) (pa_cons (pe_ix ix_list (pv 0) (pe_op op_add (pv 1) pe_int) (fun _ _ => rfl)) pa_nil)) pa_nil)))))), ?_⟩
  rw [e] at q
  have hx : ∀ j, ws[k + j]? = (a :: b :: c :: r)[j]? := fun j => by rw [← e, List.getElem?_drop]
  have V0 : Ev K noS none [some v, some (.int (k : Nat))] H (tVar 0) 0 (· = .list (ws.map PyData.str)) := ev_var (i := 0) rfl (dp_no hd) rfl
  have at1 : ∀ (j : Nat) (y : Str), ws[k + j]? = some y → atI (ws.map PyData.str) ((k : Int) + (j : Nat)) = some (.str y) := fun j y h => by
    rw [show ((k : Int) + (j : Nat)) = ((k + j : Nat) : Int) by omega]
    exact atI_strs h
  exact ev_retN (K := K) 0 (· = dateD (a :: b :: c :: r)) (ev_t (eva_c (ev_intS (eva_c (ev_ixLX (m1 := 0) (m2 := 0) V0 (ev_var (i := 1) rfl (.int _) rfl) (atI_strs (hx 0))) eva_n) (int_of_int ia fa) (by omega)) (eva_c (ev_ixLX (m1 := 0) (m2 := 0) V0 (ev_iiX (f := fun i j => i + j) (m1 := 0) (m2 := 0) (ev_var (i := 1) rfl (.int _) rfl) (ev_int (i := 1) rfl)) (at1 1 b (hx 1))) (eva_c (ev_intS (eva_c (ev_ixLX (m1 := 0) (m2 := 0) V0 (ev_iiX (f := fun i j => i + j) (m1 := 0) (m2 := 0) (ev_var (i := 1) rfl (.int _) rfl) (ev_int (i := 2) rfl)) (at1 2 c (hx 2))) eva_n) (intText_digits (wholeW_inv (dayW_inv dc).1).2 (wholeW_inv (dayW_inv dc).1).1 (by omega)) (by omega)) eva_n))) (by exact (by decide : 3 ≤ 100000))) (Nat.zero_le _) fun H3 v3 d3 s3 hd3 e3 => by subst e3; exact q H3 v3 s3 hd3
/-- the line of right words, split by years, by words -/
theorem years_split {ws : List Str} {k : Nat} (h : placeL true k ws = none) : Txt.split (Txt.join spc ws) ssl = (grp ws).map (fun g => Txt.join spc g) ∧ ∀ g ∈ grp ws, Txt.split (Txt.join spc g) spc = g ∧ g ≠ [] ∧ ∀ w ∈ g, monW w = true := by
  obtain ⟨e, hg⟩ := (place_none ws k).1 h
  refine ⟨split_flat (grp_ne _) (fun g hg' => ⟨(hg g hg').1, fun w hw => (mon_free ((hg g hg').2 w hw)).2⟩) ?_, fun g hg' => ⟨words_join (hg g hg').1 fun w hw => (mon_free ((hg g hg').2 w hw)).1, hg g hg'⟩⟩
  rw [← e, TL.join_eq, TL.tl_join, tl_spc]
theorem flat_mem' : ∀ {gs : List (List Str)} {g : List Str} {w : Str}, g ∈ gs → w ∈ g → w ∈ flat gs
  | [], _, _, h, _ => absurd h List.not_mem_nil
  | [g], g', w, h, hw => by
    rw [List.mem_singleton.mp h] at hw
    exact hw
  | g :: f :: r, g', w, h, hw => by
    show w ∈ g ++ sla :: flat (f :: r)
    rcases List.mem_cons.mp h with rfl | h
    · exact List.mem_append_left _ hw
    · exact List.mem_append_right _ (List.mem_cons_of_mem _ (flat_mem' h hw))
theorem flat_len' : ∀ {gs : List (List Str)}, (∀ g ∈ gs, g.length ≤ (flat gs).length) ∧ gs.length ≤ (flat gs).length + 1
  | [] => ⟨fun g h => absurd h List.not_mem_nil, Nat.zero_le _⟩
  | [g] => ⟨fun g' h => by rw [List.mem_singleton.mp h]; exact Nat.le_refl _, by show 1 ≤ _; omega⟩
  | g :: f :: r => by
    have ih := flat_len' (gs := f :: r)
    have e : (flat (g :: f :: r)).length = g.length + ((flat (f :: r)).length + 1) := by
      show (g ++ sla :: flat (f :: r)).length = _
      rw [List.length_append, List.length_cons]
    refine ⟨fun g' h => ?_, ?_⟩
    · rcases List.mem_cons.mp h with rfl | h
      · omega
      · have := ih.1 g' h
        omega
    · have := ih.2
      rw [List.length_cons]
      omega
def spYr (K : PySem.W.Frag) : Sp := fun vs H Q _ => ∃ (v : V) (ws : List Str) (k : Nat), vs = [v] ∧ Df K H v (.list (ws.map PyData.str)) ∧ Words ws ∧ placeL true k ws = none ∧ ∀ H' u, Same H H' → Df K H' u (ruleD ws) → Q u H'
theorem list_by' {α : Type} {f : α → PyData} (l : List α) (ds : List PyData) (hl : ds.length = l.length) (h : ∀ (i : Nat) (e : PyData) (m : α), ds[i]? = some e → l[i]? = some m → e = f m) : ds = l.map f := list_by l ds hl h
theorem ok_law_years (T : Top K mg) : FnOk P w K mg base CX0 1 T.a__law_years T.d__law_years ["_law_words"] (spYr K) := by
  refine T.F__law_years.ok sc__law_years (fun vs H Q E h => by obtain ⟨_, _, _, rfl, _⟩ := h; rfl) (fun cdv A outer s H vs Q E hr h => ?_)
  obtain ⟨v, ws, k, rfl, hd, hW, hp, q⟩ := h
  refine ⟨_, (pss_cons (ps_setLc (i := 1) (own := [("_law_year", 2)]) (g := gName 2) (tt := tYes) (by rfl) sc__law_years.nd rfl rfl (by rfl) (pi_list (pe_split (pe_join pe_str (pv 0)) pe_str)) (blkOk_by (own := [("_law_year", 2)]) (N := ["_law_words", "_law_halves", "_law_year", "_law_word_here", "_law_pair"]) (sc := defScope s__law_years) (by decide +kernel)) (fun _ _ _ _ _ => (pg_name (i := 2) sc__law_years.nd rfl (.inl rfl))) (fun _ _ _ _ _ => pts_nil) (fun _ _ _ _ _ => (pe_lc (own := [("_law_word_here", 3)]) (g := gName 3) (tt := tYes) (by rfl) sc__law_years.nd (pi_listK (by rfl) (pe_split (pv 2) pe_str)) (blkOk_by (own := [("_law_word_here", 3)]) (N := ["_law_words", "_law_halves", "_law_year", "_law_word_here", "_law_pair"]) (sc := cs_yr) (by decide +kernel)) (fun _ _ _ _ _ => (pg_name (i := 3) sc__law_years.nd rfl (.inl rfl))) (fun _ _ _ _ _ => pts_nil) (fun _ _ _ _ _ => (pe_split (pv 3) pe_str))))) (pss_one (ps_ret (pe_callTy (call_tupF (by rfl)) (by rfl) T.n_tuple (by decide +kernel) (pa_cons (pe_lc (own := [("_law_year", 2)]) (g := gName 2) (tt := tYes) (by rfl) sc__law_years.nd (pi_list (pv 1)) (blkOk_by (own := [("_law_year", 2)]) (N := ["_law_words", "_law_halves", "_law_year", "_law_word_here", "_law_pair"]) (sc := defScope s__law_years) (by decide +kernel)) (fun _ _ _ _ _ => (pg_name (i := 2) sc__law_years.nd rfl (.inl rfl))) (fun _ _ _ _ _ => pts_nil) (fun _ _ _ _ _ => (pe_callTy (call_tupF (by rfl)) (by rfl) T.n_tuple (by decide +kernel) (pa_cons (pe_lc (own := [("_law_pair", 4)]) (g := gName 4) (tt := tYes) (by rfl) sc__law_years.nd (pi_listK (by rfl) (pv 2)) (blkOk_by (own := [("_law_pair", 4)]) (N := ["_law_words", "_law_halves", "_law_year", "_law_word_here", "_law_pair"]) (sc := cs_yr2) (by decide +kernel)) (fun _ _ _ _ _ => (pg_name (i := 4) sc__law_years.nd rfl (.inl rfl))) (fun _ _ _ _ _ => pts_nil) (fun _ _ _ _ _ => (pe_tupF (pa_cons (pe_ix (ix_listK (by rfl)) (pv 4) pe_int (fun _ _ => rfl)) (pa_cons (pe_callTy call_int_str (by rfl) T.n_int (by decide +kernel) (pa_cons (pe_ix (ix_listK (by rfl)) (pv 4) pe_int (fun _ _ => rfl)) pa_nil)) pa_nil))))) pa_nil)))) pa_nil))))), ?_⟩
  obtain ⟨esp, hg⟩ := years_split hp
  obtain ⟨ef, _⟩ := (place_none ws k).1 hp
  have lgs : (grp ws).length ≤ 1001 ∧ ∀ g ∈ grp ws, g.length ≤ 1000 := by
    have z := flat_len' (gs := grp ws)
    rw [← ef] at z
    have := hW.1
    exact ⟨by have := z.2; omega, fun g hg' => by have := z.1 g hg'; omega⟩
  have wm : ∀ g ∈ grp ws, ∀ w ∈ g, w.length ≤ 64 := fun g hg' w hw => (hW.2 w (by rw [ef]; exact flat_mem' hg' hw)).1
  have lj : (Txt.join spc ws).length ≤ 70000 := by
    have := jn_len hW
    have := hW.1
    omega
  have ljg : ∀ g ∈ grp ws, (Txt.join spc g).length ≤ 70000 := fun g hg' => by
    have h1 := StrLaws.join_length_le spc g
    have h2 := StrLaws.sumLen_le (B := 64) g (wm g hg')
    rw [show spc.length = 1 by decide +kernel] at h1
    rw [TL.join_eq]
    have := lgs.2 g hg'
    omega
  let yL : List Str → PyData := fun g => .list (g.map fun w => .list ((Txt.split w col).map PyData.str))
  refine ev_setN (K := K) 0 (· = .list ((grp ws).map yL)) ?_ (Nat.zero_le _) fun H1 v1 d1 s1 hd1 e1 => ?_
  · have e := ev_lcL (K := K) (S := noS) (a := none) (m1 := 0) (m := 0) (σ := [some v, none, none, none, none]) (H0 := H) (tn := tM1 (fun x xs H Q => ∃ a b, x = .str a ∧ xs = [.str b] ∧ (b.length == 0) = false ∧ a.length + 2 ≤ sizeLine ∧ rNewStrs (Txt.split a b) H Q) (tM1 (rJoinQ K) (tC (.str " ")) (tVar 0)) (tC (.str " / "))) (te := tLc (iList K (tM1 (fun x xs H Q => ∃ a b, x = .str a ∧ xs = [.str b] ∧ (b.length == 0) = false ∧ a.length + 2 ≤ sizeLine ∧ rNewStrs (Txt.split a b) H Q) (tVar 2) (tC (.str " ")))) (gName 3) tYes (tM1 (fun x xs H Q => ∃ a b, x = .str a ∧ xs = [.str b] ∧ (b.length == 0) = false ∧ a.length + 2 ≤ sizeLine ∧ rNewStrs (Txt.split a b) H Q) (tVar 3) (tC (.str ":"))) [3]) (vs := [2]) (slot := 2) (es := ((grp ws).map fun g => Txt.join spc g).map PyData.str) (P := fun i e => ∀ g, (grp ws)[i]? = some g → e = yL g) (Z := (· = .list ((grp ws).map yL))) (by
        have e := ev_splitX (K := K) (S := noS) (a := none) (m1 := 0) (m2 := 0) (σ := [some v, none, none, none, none]) (H0 := H) (x := Txt.join spc ws) (y := ssl) (ta := tM1 (rJoinQ K) (tC (.str " ")) (tVar 0)) (tb := tC (.str " / ")) (ev_joinS (P2 := (· = .list (ws.map PyData.str))) (ev_var (i := 0) rfl (dp_no hd) rfl) fun d e => ⟨ws, e, by
          have h2 := StrLaws.sumLen_le (B := 64) ws fun w hw => (hW.2 w hw).1
          have := hW.1
          rw [show spc.length = 1 by decide +kernel]
          omega, rfl⟩) (ev_str rfl) (by decide +kernel) (by omega)
        rw [esp] at e
        exact e) (fun _ => rfl) (by rw [List.length_map, List.length_map]; omega) (fun D G sg i x e he hde => ?_) (fun ds hl hp' => ?_)
    · rw [Nat.mul_zero] at e
      exact e
    · rw [List.getElem?_map, List.getElem?_map] at he
      obtain ⟨g, hgi, rfl⟩ : ∃ g, (grp ws)[i]? = some g ∧ e = .str (Txt.join spc g) := by
        cases h : (grp ws)[i]? with
        | none => rw [h] at he; cases he
        | some g => rw [h] at he; exact ⟨g, rfl, (Option.some.inj he).symm⟩
      have gm := List.mem_of_getElem? hgi
      have e := ev_lcL (K := K) (S := plusA noS D) (a := none) (m1 := 0) (m := 0) (σ := [some v, none, some x, none, none]) (H0 := G) (tn := tM1 (fun x xs H Q => ∃ a b, x = .str a ∧ xs = [.str b] ∧ (b.length == 0) = false ∧ a.length + 2 ≤ sizeLine ∧ rNewStrs (Txt.split a b) H Q) (tVar 2) (tC (.str " "))) (te := tM1 (fun x xs H Q => ∃ a b, x = .str a ∧ xs = [.str b] ∧ (b.length == 0) = false ∧ a.length + 2 ≤ sizeLine ∧ rNewStrs (Txt.split a b) H Q) (tVar 3) (tC (.str ":"))) (vs := [3]) (slot := 3) (es := g.map PyData.str) (P := fun i e => ∀ w, g[i]? = some w → e = .list ((Txt.split w col).map PyData.str)) (Z := (· = yL g)) (by
          have e := ev_splitX (K := K) (S := plusA noS D) (a := none) (m1 := 0) (m2 := 0) (σ := [some v, none, some x, none, none]) (H0 := G) (x := Txt.join spc g) (y := spc) (ta := tVar 2) (tb := tC (.str " ")) (ev_var (i := 2) rfl hde rfl) (ev_str rfl) (by decide +kernel) (by have := ljg g gm; omega)
          rw [(hg g gm).1] at e
          exact e) (fun _ => rfl) (by rw [List.length_map]; have := lgs.2 g gm; omega) (fun D2 G2 sg2 j z e he2 hde2 => ?_) (fun ds hl hp' => ?_)
      · rw [Nat.mul_zero] at e
        exact e.mono fun d e' g' hg' => by rw [hgi] at hg'; cases hg'; exact e'
      · rw [List.getElem?_map] at he2
        obtain ⟨wd, hw, rfl⟩ : ∃ wd, g[j]? = some wd ∧ e = .str wd := by
          cases h : g[j]? with
          | none => rw [h] at he2; cases he2
          | some z => rw [h] at he2; exact ⟨z, rfl, (Option.some.inj he2).symm⟩
        have e := ev_splitX (K := K) (S := plusA (plusA noS D) D2) (a := none) (m1 := 0) (m2 := 0) (σ := [some v, none, some x, some z, none]) (H0 := G2) (x := wd) (y := col) (ta := tVar 3) (tb := tC (.str ":")) (ev_var (i := 3) rfl hde2 rfl) (ev_str rfl) (by decide +kernel) (by have := wm g gm wd (List.mem_of_getElem? hw); omega)
        exact e.mono fun d e' w' hw' => by rw [hw] at hw'; cases hw'; exact e'
      · rw [List.length_map] at hl
        show PyData.list ds = .list (g.map fun w => PyData.list ((Txt.split w col).map PyData.str))
        congr 1
        exact list_by g ds hl fun i e m h1 h2 => hp' i e h1 m h2
    · rw [List.length_map, List.length_map] at hl
      congr 1
      exact list_by (grp ws) ds hl fun i e m h1 h2 => hp' i e h1 m h2
  subst e1
  refine ev_retN (K := K) 0 (· = ruleD ws) (ev_tupL (R := (· = [.list ((grp ws).map fun g => .tuple (g.map monD))])) (eva_c ?_ eva_n) (fun ds e => ⟨_, e, rfl⟩)) (Nat.zero_le _) fun H3 v3 d3 s3 hd3 e3 => by subst e3; exact q H3 v3 (s1.trans s3) hd3
  have e := ev_lcL (K := K) (S := noS) (a := none) (m1 := 0) (m := 0) (σ := [some v, some v1, none, none, none]) (H0 := H1) (tn := tVar 1) (te := tCB (rTupQ K) (tCons (tLc (iList K (tVar 2)) (gName 4) tYes (tTupF (tCons (tOp (rIxL K) (tVar 4) (tC (.int 0))) (tCons (tCB (fun xs H Q => ∃ a n, xs = [.str a] ∧ PySem.intText? a = some n ∧ a.length ≤ 640 ∧ Q (.int n) H) (tCons (tOp (rIxL K) (tVar 4) (tC (.int 1))) tNil)) tNil))) [4]) tNil)) (vs := [2]) (slot := 2) (es := (grp ws).map yL) (P := fun i e => ∀ g, (grp ws)[i]? = some g → e = .tuple (g.map monD)) (Z := (· = .list ((grp ws).map fun g => .tuple (g.map monD)))) (ev_var (i := 1) rfl (dp_no hd1) rfl) (fun _ => rfl) (by rw [List.length_map]; omega) (fun D G sg i x e he hde => ?_) (fun ds hl hp' => ?_)
  · rw [Nat.mul_zero] at e
    exact e
  · rw [List.getElem?_map] at he
    obtain ⟨g, hgi, rfl⟩ : ∃ g, (grp ws)[i]? = some g ∧ e = yL g := by
      cases h : (grp ws)[i]? with
      | none => rw [h] at he; cases he
      | some g => rw [h] at he; exact ⟨g, rfl, (Option.some.inj he).symm⟩
    have gm := List.mem_of_getElem? hgi
    refine ev_tupL (R := (· = [.list (g.map monD)])) (eva_c ?_ eva_n) (fun ds e => ⟨_, e, fun g' hg' => by rw [hgi] at hg'; cases hg'; rfl⟩)
    have e := ev_lcL (K := K) (S := plusA noS D) (a := none) (m1 := 0) (m := 0) (σ := [some v, some v1, some x, none, none]) (H0 := G) (tn := tVar 2) (te := tTupF (tCons (tOp (rIxL K) (tVar 4) (tC (.int 0))) (tCons (tCB (fun xs H Q => ∃ a n, xs = [.str a] ∧ PySem.intText? a = some n ∧ a.length ≤ 640 ∧ Q (.int n) H) (tCons (tOp (rIxL K) (tVar 4) (tC (.int 1))) tNil)) tNil))) (vs := [4]) (slot := 4) (es := g.map fun w => .list ((Txt.split w col).map PyData.str)) (P := fun i e => ∀ w, g[i]? = some w → e = monD w) (Z := (· = .list (g.map monD))) (ev_var (i := 2) rfl hde rfl) (fun _ => rfl) (by rw [List.length_map]; have := lgs.2 g gm; omega) (fun D2 G2 sg2 j z e he2 hde2 => ?_) (fun ds hl hp' => ?_)
    · rw [Nat.mul_zero] at e
      exact e
    · rw [List.getElem?_map] at he2
      obtain ⟨wd, hw, rfl⟩ : ∃ wd, g[j]? = some wd ∧ e = .list ((Txt.split wd col).map PyData.str) := by
        cases h : g[j]? with
        | none => rw [h] at he2; cases he2
        | some z => rw [h] at he2; exact ⟨z, rfl, (Option.some.inj he2).symm⟩
      obtain ⟨a, b, ew, ha, hb, ep', esp', _⟩ := mon_inv ((hg g gm).2.2 wd (List.mem_of_getElem? hw))
      have lb : b.length ≤ 64 := by
        have := wm g gm wd (List.mem_of_getElem? hw)
        rw [ew, Str.length_append, Str.length_append] at this
        omega
      rw [esp'] at hde2
      have e := ev_t (K := K) (S := plusA (plusA noS D) D2) (a := none) (σ := [some v, some v1, some x, none, some z]) (H0 := G2) (ds := [.str a, .int ((natW b : Nat) : Int)]) (eva_c (ev_ixLX (m1 := 0) (m2 := 0) (ev_var (i := 4) rfl hde2 rfl) (ev_int (i := 0) rfl) rfl) (eva_c (ev_intS (eva_c (ev_ixLX (m1 := 0) (m2 := 0) (ev_var (i := 4) rfl hde2 rfl) (ev_int (i := 1) rfl) rfl) eva_n) (int_of_whole (dayW_inv hb).1 lb) (by omega)) eva_n)) (by exact (by decide : 2 ≤ 100000))
      refine e.mono fun d e' w' hw' => ?_
      rw [hw] at hw'
      cases hw'
      rw [e']
      unfold monD
      rw [ep']
    · rw [List.length_map] at hl
      congr 1
      exact list_by g ds hl fun i e m h1 h2 => hp' i e h1 m h2
  · rw [List.length_map] at hl
    congr 1
    exact list_by (grp ws) ds hl fun i e m h1 h2 => hp' i e h1 m h2
end

section
variable {P : Program} {w : World} {K : PySem.W.Frag} {mg : Str → Option Value} {base : Heap}
/-! #### what read_decree is to do -/
theorem kinds_some (k : Str) : (fKind k).isSome = kindB1 k := by
  unfold kindB1 fKind kinds
  by_cases h1 : k = "rule"
  · subst h1; decide +kernel
  by_cases h2 : k = "jump"
  · subst h2; decide +kernel
  by_cases h3 : k = "rename"
  · subst h3; decide +kernel
  by_cases h4 : k = "restore"
  · subst h4; decide +kernel
  rw [if_neg h1, if_neg h2, if_neg h3, if_neg h4, decide_eq_false (by simp [h1, h2, h3, h4])]
  rfl
def kindOf (ws : List Str) : Str := if (fKind (ws.getD 0 "")).isSome = true then ws.getD 0 "" else ""
def fmtOf (k : Str) : Str := if k = "rule" then "kniadiad" else if k = "jump" then "kniadiad" else if k = "rename" then "kniadaa" else if k = "restore" then "kniad" else "k"
theorem fit_n : fitW ⟨#[110]⟩ = formB "made" := by
  funext x
  unfold fitW formB
  rw [if_neg (by decide +kernel), if_pos (by decide +kernel), if_pos (by decide +kernel)]
theorem fit_i : fitW ⟨#[105]⟩ = formB "year" := by
  funext x
  unfold fitW formB
  rw [if_pos (by decide +kernel), if_neg (by decide +kernel), if_pos (by decide +kernel)]
theorem fit_a : fitW ⟨#[97]⟩ = formB "name" := by
  funext x
  unfold fitW formB
  rw [if_neg (by decide +kernel), if_neg (by decide +kernel), if_neg (by decide +kernel), if_neg (by decide +kernel), if_neg (by decide +kernel), if_neg (by decide +kernel), if_neg (by decide +kernel), if_neg (by decide +kernel)]
theorem fit_d : fitW ⟨#[100]⟩ = formB "day" := by
  funext x
  unfold fitW formB
  rw [if_neg (by decide +kernel), if_neg (by decide +kernel), if_pos (by decide +kernel), if_neg (by decide +kernel), if_neg (by decide +kernel), if_pos (by decide +kernel)]
theorem fit_k : fitW ⟨#[107]⟩ = kindB1 := by
  funext x
  unfold fitW
  rw [if_neg (by decide +kernel), if_neg (by decide +kernel), if_neg (by decide +kernel), if_pos (by decide +kernel)]
theorem forms_8 : formsW "kniadiad" = kindB1 :: f7.map formB := by
  unfold formsW
  rw [show TL.tl "kniadiad" = [107, 110, 105, 97, 100, 105, 97, 100] by decide +kernel]
  show [fitW ⟨#[107]⟩, fitW ⟨#[110]⟩, fitW ⟨#[105]⟩, fitW ⟨#[97]⟩, fitW ⟨#[100]⟩, fitW ⟨#[105]⟩, fitW ⟨#[97]⟩, fitW ⟨#[100]⟩] = _
  rw [fit_k, fit_n, fit_i, fit_a, fit_d]
  rfl
theorem forms_7 : formsW "kniadaa" = kindB1 :: f6.map formB := by
  unfold formsW
  rw [show TL.tl "kniadaa" = [107, 110, 105, 97, 100, 97, 97] by decide +kernel]
  show [fitW ⟨#[107]⟩, fitW ⟨#[110]⟩, fitW ⟨#[105]⟩, fitW ⟨#[97]⟩, fitW ⟨#[100]⟩, fitW ⟨#[97]⟩, fitW ⟨#[97]⟩] = _
  rw [fit_k, fit_n, fit_i, fit_a, fit_d]
  rfl
theorem forms_5 : formsW "kniad" = kindB1 :: f4.map formB := by
  unfold formsW
  rw [show TL.tl "kniad" = [107, 110, 105, 97, 100] by decide +kernel]
  show [fitW ⟨#[107]⟩, fitW ⟨#[110]⟩, fitW ⟨#[105]⟩, fitW ⟨#[97]⟩, fitW ⟨#[100]⟩] = _
  rw [fit_k, fit_n, fit_i, fit_a, fit_d]
  rfl
theorem forms_1 : formsW "k" = [kindB1] := by
  unfold formsW
  rw [show TL.tl "k" = [107] by decide +kernel]
  show [fitW ⟨#[107]⟩] = _
  rw [fit_k]
theorem forms_3 : formsW "iad" = fDate.map formB := by
  unfold formsW
  rw [show TL.tl "iad" = [105, 97, 100] by decide +kernel]
  show [fitW ⟨#[105]⟩, fitW ⟨#[97]⟩, fitW ⟨#[100]⟩] = _
  rw [fit_i, fit_a, fit_d]
  rfl
/-- the law's place is the program's -/
theorem place_eq (ws : List Str) : placeW (fmtOf (kindOf ws)) (decide (kindOf ws = "rule")) ws = placeK ws := by
  cases hk : fKind (ws.getD 0 "") with
  | none =>
    have e1 : kindOf ws = "" := by unfold kindOf; rw [hk]; rfl
    rw [e1, show fmtOf "" = "k" by decide +kernel]
    unfold placeK placeW
    rw [hk, forms_1]
    cases ws with
    | nil => rfl
    | cons w ws =>
      have hk : fKind w = none := hk
      have : kindB1 w = false := by rw [← kinds_some, hk]; rfl
      show (match (if kindB1 w = true then placeF [] (0 + 1) (w :: ws) else some 0) with | some k => some k | none => _) = _
      rw [this]
      rfl
  | some fs =>
    have e1 : kindOf ws = ws.getD 0 "" := by unfold kindOf; rw [hk]; rfl
    obtain ⟨k, r, rfl⟩ : ∃ k r, ws = k :: r := by
      cases ws with
      | nil =>
        have z : fKind "" = none := by decide +kernel
        have hk : fKind "" = some fs := hk
        rw [z] at hk
        cases hk
      | cons k r => exact ⟨k, r, rfl⟩
    have hk : fKind k = some fs := hk
    rw [e1, show (k :: r).getD 0 "" = k from rfl]
    have hb : kindB1 k = true := by rw [← kinds_some, hk]; rfl
    have e2 : formsW (fmtOf k) = kindB1 :: fs.map formB ∧ (fmtOf k).length = 1 + fs.length := by
      rcases fKind_inv hk with ⟨rfl, rfl⟩ | ⟨rfl, rfl⟩ | ⟨rfl, rfl⟩ | ⟨rfl, rfl⟩
      · exact ⟨forms_8, by decide +kernel⟩
      · rw [show fmtOf "jump" = "kniadiad" by decide +kernel]
        exact ⟨forms_8, by decide +kernel⟩
      · rw [show fmtOf "rename" = "kniadaa" by decide +kernel]
        exact ⟨forms_7, by decide +kernel⟩
      · rw [show fmtOf "restore" = "kniad" by decide +kernel]
        exact ⟨forms_5, by decide +kernel⟩
    unfold placeK placeW
    rw [show (k :: r).getD 0 "" = k from rfl, hk, e2.1, e2.2]
    have e3 : placeF (kindB1 :: fs.map formB) 0 (k :: r) = placeF (fs.map formB) 1 (k :: r) := by
      show (if kindB1 k = true then placeF (fs.map formB) (0 + 1) (k :: r) else some 0) = _
      rw [if_pos hb]
    rw [e3]
    dsimp only
    cases placeF (fs.map formB) 1 (k :: r) with
    | some j => rfl
    | none =>
      dsimp only
      by_cases h : k = "rule"
      · rw [if_pos (decide_eq_true h), if_pos h]
      · rw [if_neg (by rw [decide_eq_false h]; exact Bool.false_ne_true), if_neg h]
def plD : Option Nat → PyData
  | some k => .int (k : Nat)
  | none => .none
theorem ev_callPl {σ : L2.St} {H0 : Hp} {tr : TA} {ws : List Str} {f : Str} {b : Bool} {E : XK} (h : EvA K noS none σ H0 tr 0 (· = [.list (ws.map PyData.str), .str f, .bool b])) (hW : Words ws) (h1 : 1 ≤ f.length) (h2 : f.length ≤ 12) (h3 : ∀ c ∈ TL.tl f, (⟨#[c]⟩ : Str) ∈ letters) : Ev K noS none σ H0 (tCall (spPl K) [] E tr) 0 (· = plD (placeW f b ws)) := by
  intro H n Q k r' bd q
  refine h H n _ k r' bd fun H1 vs ds k1 r1 hd e => ?_
  subst e
  obtain ⟨v, _, rfl, h4, hd2⟩ := DfAll.c hd
  obtain ⟨_, _, rfl, h5, hd3⟩ := DfAll.c hd2
  obtain ⟨_, _, rfl, h6, hd4⟩ := DfAll.c hd3
  obtain rfl := DfAll.n hd4
  cases h5
  cases h6
  refine ⟨v, ws, f, b, rfl, no_dp h4, hW, h1, h2, h3, fun H2 s => q H2 _ _ (k1.trans (Keeps.same s)) (r1.same s) ?_ rfl⟩
  cases placeW f b ws with
  | some j => exact .int _
  | none => exact .non
theorem ev_call3 {σ : L2.St} {H0 : Hp} {tr : TA} {ws : List Str} {j : Nat} {E : XK} (h : EvA K noS none σ H0 tr 0 (· = [.list (ws.map PyData.str), .int (j : Nat)])) (hw : DateOk (ws.drop j)) : Ev K noS none σ H0 (tCall (sp3 K) [] E tr) 0 (· = dateD (ws.drop j)) := by
  intro H n Q k r' b q
  refine h H n _ k r' b fun H1 vs ds k1 r1 hd e => ?_
  subst e
  obtain ⟨v, u, rfl, h1, h2⟩ := DfAll.two hd
  cases h2
  exact ⟨v, ws, j, rfl, no_dp h1, hw, fun H2 u s hu => q H2 _ _ (k1.trans (Keeps.same s)) (r1.same s) (dp_no hu) rfl⟩
theorem ev_callYr {σ : L2.St} {H0 : Hp} {tr : TA} {ws : List Str} {j : Nat} {E : XK} (h : EvA K noS none σ H0 tr 0 (· = [.list (ws.map PyData.str)])) (hW : Words ws) (hp : placeL true j ws = none) : Ev K noS none σ H0 (tCall (spYr K) [] E tr) 0 (· = ruleD ws) := by
  intro H n Q k r' b q
  refine h H n _ k r' b fun H1 vs ds k1 r1 hd e => ?_
  subst e
  obtain ⟨v, _, rfl, h1, h2⟩ := DfAll.c hd
  obtain rfl := DfAll.n h2
  exact ⟨v, ws, j, rfl, no_dp h1, hW, hp, fun H2 u s hu => q H2 _ _ (k1.trans (Keeps.same s)) (r1.same s) (dp_no hu) rfl⟩
def kF : List (L2.Key × V) := [(.inr "rule", .str "kniadiad"), (.inr "jump", .str "kniadiad"), (.inr "rename", .str "kniadaa"), (.inr "restore", .str "kniad")]
theorem kF_at (z : Str) : (valV (mergeK [] kF) (.inr z)).getD (.str "k") = .str (fmtOf z) := by
  rw [valV_merge (by decide +kernel), valV_nil, Option.or_none]
  unfold fmtOf kF
  by_cases h1 : z = "rule"
  · subst h1; decide +kernel
  by_cases h2 : z = "jump"
  · subst h2; decide +kernel
  by_cases h3 : z = "rename"
  · subst h3; decide +kernel
  by_cases h4 : z = "restore"
  · subst h4; decide +kernel
  rw [if_neg h1, if_neg h2, if_neg h3, if_neg h4, valV_neg (fun e => h1 (Sum.inr.inj e).symm), valV_neg (fun e => h2 (Sum.inr.inj e).symm), valV_neg (fun e => h3 (Sum.inr.inj e).symm), valV_neg (fun e => h4 (Sum.inr.inj e).symm), valV_nil]
  rfl
theorem fmt_ok (z : Str) : 1 ≤ (fmtOf z).length ∧ (fmtOf z).length ≤ 12 ∧ ∀ c ∈ TL.tl (fmtOf z), (⟨#[c]⟩ : Str) ∈ letters := by
  unfold fmtOf
  by_cases h1 : z = "rule"
  · rw [if_pos h1]; decide +kernel
  rw [if_neg h1]
  by_cases h2 : z = "jump"
  · rw [if_pos h2]; decide +kernel
  rw [if_neg h2]
  by_cases h3 : z = "rename"
  · rw [if_pos h3]; decide +kernel
  rw [if_neg h3]
  by_cases h4 : z = "restore"
  · rw [if_pos h4]; decide +kernel
  rw [if_neg h4]
  decide +kernel
def kM (t1 t2 t3 t4 : Addr) : List (L2.Key × V) := [(.inr "rule", .ref t1), (.inr "jump", .ref t2), (.inr "rename", .ref t3), (.inr "restore", .ref t4)]
theorem kM_at4 {t1 t2 t3 t4 : Addr} : valV (mergeK [] (kM t1 t2 t3 t4)) (.inr "restore") = some (.ref t4) := by
  have nd : ((kM t1 t2 t3 t4).map (·.1)).Nodup := by
    show ([.inr "rule", .inr "jump", .inr "rename", .inr "restore"] : List L2.Key).Nodup
    decide +kernel
  rw [valV_merge nd, valV_nil, Option.or_none]
  exact (valV_neg (show ¬ ((Sum.inr "rule" : L2.Key) = .inr "restore") by decide +kernel)).trans ((valV_neg (show ¬ ((Sum.inr "jump" : L2.Key) = .inr "restore") by decide +kernel)).trans ((valV_neg (show ¬ ((Sum.inr "rename" : L2.Key) = .inr "restore") by decide +kernel)).trans (valV_pos rfl)))
def dueK (x : Str) : PyData := match placeK (wordsL x) with
  | some k => .tuple [.str "place", .int (k : Nat)]
  | none => if isDecree (decD (wordsL x)) = true then .tuple [.str "none", decD (wordsL x)] else .tuple [.str "place", .int (((wordsL x).length : Nat) : Int)]
def spDue (K : PySem.W.Frag) : Sp := fun vs H Q _ => ∃ x : Str, vs = [.str x] ∧ x.length ≤ 100000 ∧ Words (wordsL x) ∧ ∀ H' v', Same H H' → Df K H' v' (dueK x) → Q v' H'
theorem two_lenS {r : List Str} (h : r.length = 2) : ∃ a b, r = [a, b] := by
  match r, h with
  | [a, b], _ => exact ⟨a, b, rfl⟩
theorem dec_else {k n : Str} {r : List Str} (h1 : k ≠ "rule") (h2 : k ≠ "jump") : decD (k :: n :: r) = .tuple ([.str k, .int (ivalW n), dateD r] ++ (r.drop 3).map PyData.str) := by
  show (if k = "rule" then _ else if k = "jump" then _ else _) = _
  rw [if_neg h1, if_neg h2]
  rfl
theorem words_shaped {ws : List Str} (h : Words ws) : SeqAt.shaped (.list (ws.map PyData.str)) = true := shaped_of (B := 10 ^ 80) (fineAllB_iff.mpr fun y hy => by
  obtain ⟨w, hw, rfl⟩ := List.mem_map.mp hy
  exact (h.2 w hw).2) (by
    have : PyData.depthAll (ws.map PyData.str) ≤ 0 := depthAll_le fun y hy => by
      obtain ⟨w, hw, rfl⟩ := List.mem_map.mp hy
      exact Nat.le_refl _
    show PyData.depthAll _ + 1 ≤ 60
    omega)
theorem ok_law_due (T : Top K mg) : FnOk P w K mg base CX0 6 T.a__law_due T.d__law_due ["_law_line_here"] (spDue K) := by
  have G__law_split : FnOk P w K mg base CX0 1 T.a__law_split T.d__law_split ["_law_line_here"] (spSplit K) := ok_split T
  have G__law_fits : FnOk P w K mg base CX0 3 T.a__law_fits T.d__law_fits ["_law_word_here", "_law_form"] (spFits letters) := ok_fits T
  have G__law_place : FnOk P w K mg base CX0 5 T.a__law_place T.d__law_place ["_law_words", "_law_forms", "_law_has_rule"] (spPl K) := ok_law_place T
  have G__law_three : FnOk P w K mg base CX0 1 T.a__law_three T.d__law_three ["_law_words", "_law_at"] (sp3 K) := ok_law_three T
  have G__law_years : FnOk P w K mg base CX0 1 T.a__law_years T.d__law_years ["_law_words"] (spYr K) := ok_law_years T
  have G__law_is_decree : FnOk P w K mg base CX0 5 T.a__law_is_decree T.d__law_is_decree ["_law_value"] (spB K isDecree) := ok_ldecree T
  refine T.F__law_due.ok sc__law_due (fun vs H Q E h => by obtain ⟨_, rfl, _⟩ := h; rfl) (fun cdv A outer s H vs Q E hr h => ?_)
  obtain ⟨x, rfl, fx, hW, q⟩ := h
  have hr1 : Room 1 _ := hr.mono (by decide)
  have hr3 : Room 3 _ := hr.mono (by decide)
  refine ⟨_, (pss_cons (ps_set (i := 1) sc__law_due.nd rfl (.inl rfl) (pe_call G__law_split hr1 (by rfl) T.m__law_split T.F__law_split.kp T.b__law_split .nil pass0 (pa_cons (pv 0) pa_nil))) (pss_cons (ps_set (i := 2) sc__law_due.nd rfl (.inl rfl) (pe_disp (pps_cons pe_str pe_str (pps_cons pe_str pe_str (pps_cons pe_str pe_str (pps_cons pe_str pe_str pps_nil)))) rfl rfl (by decide) (by decide))) (pss_cons (ps_set (i := 3) sc__law_due.nd rfl (.inl rfl) (pe_ifExp (PW.pt (pw_and (pt_cmpR (op_neD hr.units) (pv 1) (pe_lst pa_nil) (by rfl)) (pw_and1 (pt_val (pe_call G__law_fits hr3 (by rfl) T.m__law_fits T.F__law_fits.kp T.b__law_fits .nil pass0 (pa_cons (pe_ix ix_list (pv 1) pe_int (fun _ _ => rfl)) (pa_cons pe_str pa_nil))))))) (pe_ix ix_list (pv 1) pe_int (fun _ _ => rfl)) pe_str)) (pss_cons (ps_set (i := 4) sc__law_due.nd rfl (.inl rfl) (pe_call G__law_place hr (by rfl) T.m__law_place T.F__law_place.kp T.b__law_place .nil pass0 (pa_cons (pv 1) (pa_cons (pe_dget2 (Nat.lt_of_le_of_lt (Nat.add_le_add_left (by decide : 1 ≤ 64) _) hr.units) (pv 2) (pv 3) pe_str ⟨rfl, rfl, rfl, rfl⟩) (pa_cons (pe_cmpR op_eq (pv 3) pe_str (by rfl)) pa_nil))))) (pss_cons (ps_if (pt_cmpR op_notN (pv 4) pe_non (by rfl)) (pss_one (ps_ret (pe_tupF (pa_cons pe_str (pa_cons (pv 4) pa_nil))))) pss_nil) (pss_cons (ps_set (i := 5) sc__law_due.nd rfl (.inl rfl) (pe_tupF (pa_cons (pv 3) (pa_cons (pe_callTy call_int_str (by rfl) T.n_int (by decide +kernel) (pa_cons (pe_ix ix_list (pv 1) pe_int (fun _ _ => rfl)) pa_nil)) (pa_cons (pe_call G__law_three hr1 (by rfl) T.m__law_three T.F__law_three.kp T.b__law_three .nil pass0 (pa_cons (pv 1) (pa_cons pe_int pa_nil))) pa_nil))))) (pss_cons (ps_set (i := 6) sc__law_due.nd rfl (.inl rfl) (pe_disp (pps_cons pe_str (pe_tupF pa_nil) (pps_cons pe_str (pe_tupF pa_nil) (pps_cons pe_str (pe_tupF pa_nil) (pps_cons pe_str (pe_tupF pa_nil) pps_nil)))) rfl rfl (by decide) (by decide))) (pss_cons (ps_if (pt_cmpR op_eq (pv 3) pe_str (by rfl)) (pss_one (ps_dput (Nat.lt_of_le_of_lt (Nat.add_le_add_left (by decide : 1 ≤ 64) _) hr.units) (pv 6) pe_str (pe_tupF (pa_cons (pe_call G__law_years hr1 (by rfl) T.m__law_years T.F__law_years.kp T.b__law_years .nil pass0 (pa_cons (pe_slice sl_list (pv 1) (po_some pe_int) po_none) pa_nil)) (pa_cons (pe_call G__law_three hr1 (by rfl) T.m__law_three T.F__law_three.kp T.b__law_three .nil pass0 (pa_cons (pv 1) (pa_cons pe_int pa_nil))) pa_nil))) rfl)) pss_nil) (pss_cons (ps_if (pt_cmpR op_eq (pv 3) pe_str (by rfl)) (pss_one (ps_dput (Nat.lt_of_le_of_lt (Nat.add_le_add_left (by decide : 1 ≤ 64) _) hr.units) (pv 6) pe_str (pe_tupF (pa_cons (pe_call G__law_three hr1 (by rfl) T.m__law_three T.F__law_three.kp T.b__law_three .nil pass0 (pa_cons (pv 1) (pa_cons pe_int pa_nil))) pa_nil)) rfl)) pss_nil) (pss_cons (ps_if (pt_cmpR op_eq (pv 3) pe_str (by rfl)) (pss_one (ps_dput (Nat.lt_of_le_of_lt (Nat.add_le_add_left (by decide : 1 ≤ 64) _) hr.units) (pv 6) pe_str (pe_tupF (pa_cons (pe_ix ix_list (pv 1) pe_int (fun _ _ => rfl)) (pa_cons (pe_ix ix_list (pv 1) pe_int (fun _ _ => rfl)) pa_nil))) rfl)) pss_nil) (pss_cons (ps_set (i := 5) sc__law_due.nd rfl (.inl rfl) (pe_op (op_catF (by rfl)) (pv 5) (pe_dget (Nat.lt_of_le_of_lt (Nat.add_le_add_left (by decide : 1 ≤ 64) _) hr.units) (pv 6) (pv 3) (fun _ _ => rfl)))) (pss_one (ps_ret (pe_ifExp (pt_val (pe_call G__law_is_decree hr (by rfl) T.m__law_is_decree T.F__law_is_decree.kp T.b__law_is_decree .nil pass0 (pa_cons (pv 5) pa_nil))) (pe_tupF (pa_cons pe_str (pa_cons (pv 5) pa_nil))) (pe_tupF (pa_cons pe_str (pa_cons (pe_callB call_len_seq (by rfl) T.n_len PySem.boot_len (pa_cons (pv 1) pa_nil)) pa_nil))))))))))))))))), ?_⟩
  refine ⟨.str x, rfl, x, rfl, fx, fun H1 v1 s1 hd1 => ?_⟩
  dsimp only [gName, List.set]
  unfold dueK at q
  generalize wordsL x = ws at *
  refine fun p1 np1 => ⟨upd_same, kF, rfl, by decide, ?_⟩
  have s2 : Same H1 (upd (upd H1 p1 (.dK [])) p1 (.dK (mergeK [] kF))) := same_dict np1 (same_new np1)
  have e2 : (upd (upd H1 p1 (.dK [])) p1 (.dK (mergeK [] kF))) p1 = some (.dK (mergeK [] kF)) := upd_same
  generalize upd (upd H1 p1 (.dK [])) p1 (.dK (mergeK [] kF)) = H2 at s2 e2 ⊢
  have V1 : ∀ {y2 y3 y4 y5 y6 : Option V} {G : Hp}, Same H1 G → Ev K noS none [some (.str x), some v1, y2, y3, y4, y5, y6] G (tVar 1) 0 (· = .list (ws.map PyData.str)) := fun s => ev_var (i := 1) rfl (dp_no (Df.to hd1 s)) rfl
  dsimp only [gName, List.set]
  refine ev_setN (K := K) 0 (· = .str (kindOf ws)) ?kind (Nat.zero_le _) fun H3 v3 d3 s3 hd3 e3 => ?_
  case kind =>
    refine ev_ifB (b := !PyData.eqv (.list (ws.map PyData.str)) (.list []) && kindB1 (ws.getD 0 "")) (evb_and (evb_val (K := K) (m := 0) (ev_neD (m1 := 0) (m2 := 0) (V1 s2) (ev_l eva_n (by exact (by decide : 0 ≤ 100000))) (words_shaped hW) (by decide)) (Nat.zero_le _)) fun hb => ?_) (fun hb => ?_) (fun hb => ?_)
    · cases ws with
      | nil => exact nomatch hb
      | cons k r => exact evb_test (K := K) (m := 0) (ev_callFW (x := k) (f := "k") (eva_c (ev_ixLX (m1 := 0) (m2 := 0) (V1 s2) (ev_int (i := 0) rfl) (atI_strs (ws := k :: r) (i := 0) rfl)) (eva_c (ev_str rfl) eva_n)) (by decide +kernel) (hW.2 k List.mem_cons_self).1 (hW.2 k List.mem_cons_self).2) (Nat.zero_le _)
    · cases ws with
      | nil => exact nomatch hb
      | cons k r =>
        have hb : kindB1 k = true := (Bool.and_eq_true_iff.mp hb).2
        have e : kindOf (k :: r) = k := by
          unfold kindOf
          rw [show (k :: r).getD 0 "" = k from rfl, kinds_some, if_pos hb]
        rw [e]
        exact ev_ixLX (m1 := 0) (m2 := 0) (V1 s2) (ev_int (i := 0) rfl) (atI_strs (ws := k :: r) (i := 0) rfl)
    · have e : kindOf ws = "" := by
        unfold kindOf
        rw [kinds_some]
        cases ws with
        | nil => rfl
        | cons k r =>
          have hb : kindB1 ((k :: r).getD 0 "") = false := by
            have : (true && kindB1 ((k :: r).getD 0 "")) = false := hb
            rw [Bool.true_and] at this
            exact this
          rw [if_neg (by rw [hb]; exact Bool.false_ne_true)]
      rw [e]
      exact ev_str rfl
  subst e3
  cases hd3
  have s13 := s2.trans s3
  have fo := fmt_ok (kindOf ws)
  refine ev_setN (K := K) 0 (· = plD (placeK ws)) ?place (Nat.zero_le _) fun H4 v4 d4 s4 hd4 e4 => ?_
  case place =>
    rw [← place_eq]
    exact ev_callPl (eva_c (V1 s13) (eva_c (ev_dget2X (i := 2) rfl (s3 _ _ e2) (ev_var (i := 3) rfl (.str _) rfl) (ev_str rfl) (kF_at _)) (eva_c (ev_eqS (m1 := 0) (m2 := 0) (ev_var (i := 3) rfl (.str _) rfl) (ev_str rfl) rfl) eva_n))) hW fo.1 fo.2.1 fo.2.2
  subst e4
  have s14 := s13.trans s4
  cases ep : placeK ws with
  | some j =>
    rw [ep] at hd4 q
    cases hd4
    refine ⟨_, rfl, rfl, _, rfl, ?_⟩
    have e : (!decide (V.int ((j : Nat) : Int) = V.non)) = true := rfl
    rw [e]
    refine iteT (ev_retN (K := K) 0 (· = .tuple [.str "place", .int ((j : Nat) : Int)]) (ev_t (eva_c (ev_str rfl) (eva_c (ev_var (i := 4) rfl (.int _) rfl) eva_n)) (by exact (by decide : 2 ≤ 100000))) (Nat.zero_le _) fun H5 v5 d5 s5 hd5 e5 => by subst e5; exact q H5 v5 (s1.trans (s14.trans s5)) hd5)
  | none =>
    rw [ep] at hd4 q
    cases hd4
    refine ⟨_, rfl, rfl, _, rfl, ?_⟩
    have e : (!decide (V.non = V.non)) = false := rfl
    rw [e]
    refine iteF ?_
    dsimp only
    obtain ⟨k, n, r, fs, rfl, hk, hpf, hl, wn, dok, h5, hN, hR8⟩ := dec_of_place hW ep
    have gD := decD_good hW dok h5
    obtain ⟨k', n', r', e, fn, ni, hdt, h2, h3⟩ := id dok
    cases e
    have ek : kindOf (k :: n :: r) = k := by
      unfold kindOf
      rw [show (k :: n :: r).getD 0 "" = k from rfl, hk]
      rfl
    rw [ek]
    refine ev_setN (K := K) 0 (· = .tuple [.str k, .int (ivalW n), dateD r]) (ev_t (eva_c (ev_var (i := 3) rfl (.str k) rfl) (eva_c (ev_intS (eva_c (ev_ixLX (m1 := 0) (m2 := 0) (V1 s14) (ev_int (i := 1) rfl) (atI_strs (ws := k :: n :: r) (i := 1) rfl)) eva_n) (int_of_int ni fn) (by omega)) (eva_c (ev_call3 (ws := k :: n :: r) (j := 2) (eva_c (V1 s14) (eva_c (ev_int rfl) eva_n)) hdt) eva_n))) (by exact (by decide : 3 ≤ 100000))) (Nat.zero_le _) fun H5 vf df s5 hf ef => ?_
    subst ef
    dsimp only [List.set]
    have s15 := s14.trans s5
    refine disp4_set (K := K) fun p2 t1 t2 t3 t4 H6 np2 s56 e6 ht => ?_
    dsimp only [gName, List.set]
    have kq : ∀ (g : Str) (G : Hp) (b : Bool), decide (k = g) = b → EvB [some (.str x), some v1, some (.ref p1), some (.str k), some .non, some vf, some (.ref p2)] G (tB (tOp rEq (tVar 3) (tC (.str g)))) b := fun g G b e => evb_val (K := K) (m := 0) (ev_eqS (m1 := 0) (m2 := 0) (ev_var (i := 3) rfl (.str k) rfl) (ev_str rfl) (by rw [e])) (Nat.zero_le _)
    have e6 : H6 p2 = some (.dK (mergeK [] (kM t1 t2 t3 t4))) := e6
    rcases fKind_inv hk with ⟨hkr, hfs⟩ | ⟨hkr, hfs⟩ | ⟨hkr, hfs⟩ | ⟨hkr, hfs⟩
    · refine if_b (b := true) (kq "rule" _ _ (by rw [hkr]; decide +kernel)) (fun _ H7 s7 => ?_) (fun z => nomatch z)
      have s67 := s56.trans s7
      have s17 := s15.trans s67
      have e7 : H7 p2 = some (.dK (mergeK [] (kM t1 t2 t3 t4))) := s7 _ _ (e6)
      refine ev_dput (K := K) (kvs := mergeK [] (kM t1 t2 t3 t4)) (P := (· = .tuple [ruleD (r.drop 6), dateD (r.drop 3)])) (ev_t (eva_c (ev_callYr (ws := r.drop 6) (j := 8) (eva_c (ev_from 8 (V1 s17)) eva_n) (hW.drop 8) (hR8 hkr)) (eva_c (ev_call3 (ws := k :: n :: r) (j := 5) (eva_c (V1 s17) (eva_c (ev_int rfl) eva_n)) (h2 (.inl hkr))) eva_n)) (by exact (by decide : 2 ≤ 100000))) rfl e7 (Nat.lt_of_le_of_lt (mergeK_len (kM t1 t2 t3 t4) []) (by show 0 + 4 < 1000000; decide)) fun H8 v8 d8 s8 hd8 ed8 => ?_
      subst ed8
      have p8 := s8 _ _ e7
      have sA : Same H5 (upd H8 p2 (.dK (putK (mergeK [] (kM t1 t2 t3 t4)) (.inr "rule") v8))) := same_dict np2 (s67.trans s8)
      have eA : (upd H8 p2 (.dK (putK (mergeK [] (kM t1 t2 t3 t4)) (.inr "rule") v8))) p2 = some (.dK (putK (mergeK [] (kM t1 t2 t3 t4)) (.inr "rule") v8)) := upd_same
      have uA := Df.dict' p8 (.dK (putK (mergeK [] (kM t1 t2 t3 t4)) (.inr "rule") v8)) _ _ hd8
      have hval : valV (putK (mergeK [] (kM t1 t2 t3 t4)) (.inr "rule") v8) (.inr k) = some v8 := by rw [hkr, valV_put, if_pos rfl]
      generalize upd H8 p2 (.dK (putK (mergeK [] (kM t1 t2 t3 t4)) (.inr "rule") v8)) = HA at sA eA uA ⊢
      refine if_b (b := false) (kq "jump" _ _ (by rw [hkr]; decide +kernel)) (fun z => nomatch z) (fun _ A1 a1 => ?_)
      refine if_b (b := false) (kq "rename" _ _ (by rw [hkr]; decide +kernel)) (fun z => nomatch z) (fun _ A2 a2 => ?_)
      have s58 := sA.trans (a1.trans a2)
      have e8 := a2 _ _ (a1 _ _ (eA))
      have hu8 := Df.to (Df.to (uA) a1) a2
      have hdec : decD (k :: n :: r) = .tuple ([.str k, .int (ivalW n), dateD r] ++ [ruleD (r.drop 6), dateD (r.drop 3)]) := by subst hkr; rfl
      refine ev_setN (K := K) 0 (· = decD (k :: n :: r)) (ev_catT (m1 := 0) (m2 := 0) (P1 := (· = .tuple [.str k, .int (ivalW n), dateD r])) (P2 := (· = .tuple [ruleD (r.drop 6), dateD (r.drop 3)])) (ev_var (i := 5) rfl (dp_no (Df.to hf s58)) rfl) (ev_dgetX (i := 6) rfl e8 (ev_var (i := 3) rfl (.str _) rfl) hval hu8) (fun d e e1 e2 => ⟨_, _, e1, e2, by exact (by decide : 5 ≤ 100000), by rw [hdec]⟩)) (Nat.zero_le _) fun H9 v9 d9 s9 hd9 e9 => ?_
      subst e9
      dsimp only [List.set]
      have s19 := s15.trans (s58.trans s9)
      refine (evb_test (K := K) (m := 0) (b := isDecree (decD (k :: n :: r))) (ev_callB (R := (· = [decD (k :: n :: r)])) (eva_c (ev_var (i := 5) rfl (dp_no hd9) rfl) eva_n) (fun l e => ⟨_, e, gD, rfl⟩)) (Nat.zero_le _)) H9 (Same.refl _) _ fun H10 s10 => ?_
      by_cases hR : isDecree (decD (k :: n :: r)) = true
      · rw [if_pos hR] at q
        rw [hR]
        refine iteT (ev_no (K := K) 0 (· = .tuple [.str "none", decD (k :: n :: r)]) (ev_t (eva_c (ev_str rfl) (eva_c (ev_var (i := 5) rfl (dp_no (Df.to hd9 s10)) rfl) eva_n)) (by exact (by decide : 2 ≤ 100000))) (Nat.zero_le _) fun H11 v11 d11 s11 hd11 e11 => by subst e11; exact q H11 v11 (s1.trans (s19.trans (s10.trans s11))) hd11)
      · rw [if_neg hR] at q
        rw [Bool.eq_false_iff.mpr hR]
        refine iteF (ev_no (K := K) 0 (· = .tuple [.str "place", .int (((k :: n :: r).length : Nat) : Int)]) (ev_t (eva_c (ev_str rfl) (eva_c ?_ eva_n)) (by exact (by decide : 2 ≤ 100000))) (Nat.zero_le _) fun H11 v11 d11 s11 hd11 e11 => by subst e11; exact q H11 v11 (s1.trans (s19.trans (s10.trans s11))) hd11)
        have e := ev_lenX (K := K) (S := noS) (a := none) (m := 0) (σ := [some (.str x), some v1, some (.ref p1), some (.str k), some .non, some v9, some (.ref p2)]) (H0 := H10) (es := (k :: n :: r).map PyData.str) (eva_c (ev_var (i := 1) rfl (dp_no (Df.to hd1 (s19.trans s10))) rfl) eva_n)
        rw [List.length_map] at e
        exact e
    · refine if_b (b := false) (kq "rule" _ _ (by rw [hkr]; decide +kernel)) (fun z => nomatch z) (fun _ B1 b1 => ?_)
      refine if_b (b := true) (kq "jump" _ _ (by rw [hkr]; decide +kernel)) (fun _ H7 s7 => ?_) (fun z => nomatch z)
      have s67 := s56.trans (b1.trans s7)
      have s17 := s15.trans s67
      have e7 : H7 p2 = some (.dK (mergeK [] (kM t1 t2 t3 t4))) := s7 _ _ (b1 _ _ (e6))
      refine ev_dput (K := K) (kvs := mergeK [] (kM t1 t2 t3 t4)) (P := (· = .tuple [dateD (r.drop 3)])) (ev_t (eva_c (ev_call3 (ws := k :: n :: r) (j := 5) (eva_c (V1 s17) (eva_c (ev_int rfl) eva_n)) (h2 (.inr hkr))) eva_n) (by exact (by decide : 1 ≤ 100000))) rfl e7 (Nat.lt_of_le_of_lt (mergeK_len (kM t1 t2 t3 t4) []) (by show 0 + 4 < 1000000; decide)) fun H8 v8 d8 s8 hd8 ed8 => ?_
      subst ed8
      have p8 := s8 _ _ e7
      have sA : Same H5 (upd H8 p2 (.dK (putK (mergeK [] (kM t1 t2 t3 t4)) (.inr "jump") v8))) := same_dict np2 (s67.trans s8)
      have eA : (upd H8 p2 (.dK (putK (mergeK [] (kM t1 t2 t3 t4)) (.inr "jump") v8))) p2 = some (.dK (putK (mergeK [] (kM t1 t2 t3 t4)) (.inr "jump") v8)) := upd_same
      have uA := Df.dict' p8 (.dK (putK (mergeK [] (kM t1 t2 t3 t4)) (.inr "jump") v8)) _ _ hd8
      have hval : valV (putK (mergeK [] (kM t1 t2 t3 t4)) (.inr "jump") v8) (.inr k) = some v8 := by rw [hkr, valV_put, if_pos rfl]
      generalize upd H8 p2 (.dK (putK (mergeK [] (kM t1 t2 t3 t4)) (.inr "jump") v8)) = HA at sA eA uA ⊢
      refine if_b (b := false) (kq "rename" _ _ (by rw [hkr]; decide +kernel)) (fun z => nomatch z) (fun _ A1 a1 => ?_)
      have s58 := sA.trans a1
      have e8 := a1 _ _ (eA)
      have hu8 := Df.to (uA) a1
      have hdec : decD (k :: n :: r) = .tuple ([.str k, .int (ivalW n), dateD r] ++ [dateD (r.drop 3)]) := by subst hkr; rfl
      refine ev_setN (K := K) 0 (· = decD (k :: n :: r)) (ev_catT (m1 := 0) (m2 := 0) (P1 := (· = .tuple [.str k, .int (ivalW n), dateD r])) (P2 := (· = .tuple [dateD (r.drop 3)])) (ev_var (i := 5) rfl (dp_no (Df.to hf s58)) rfl) (ev_dgetX (i := 6) rfl e8 (ev_var (i := 3) rfl (.str _) rfl) hval hu8) (fun d e e1 e2 => ⟨_, _, e1, e2, by exact (by decide : 4 ≤ 100000), by rw [hdec]⟩)) (Nat.zero_le _) fun H9 v9 d9 s9 hd9 e9 => ?_
      subst e9
      dsimp only [List.set]
      have s19 := s15.trans (s58.trans s9)
      refine (evb_test (K := K) (m := 0) (b := isDecree (decD (k :: n :: r))) (ev_callB (R := (· = [decD (k :: n :: r)])) (eva_c (ev_var (i := 5) rfl (dp_no hd9) rfl) eva_n) (fun l e => ⟨_, e, gD, rfl⟩)) (Nat.zero_le _)) H9 (Same.refl _) _ fun H10 s10 => ?_
      by_cases hR : isDecree (decD (k :: n :: r)) = true
      · rw [if_pos hR] at q
        rw [hR]
        refine iteT (ev_no (K := K) 0 (· = .tuple [.str "none", decD (k :: n :: r)]) (ev_t (eva_c (ev_str rfl) (eva_c (ev_var (i := 5) rfl (dp_no (Df.to hd9 s10)) rfl) eva_n)) (by exact (by decide : 2 ≤ 100000))) (Nat.zero_le _) fun H11 v11 d11 s11 hd11 e11 => by subst e11; exact q H11 v11 (s1.trans (s19.trans (s10.trans s11))) hd11)
      · rw [if_neg hR] at q
        rw [Bool.eq_false_iff.mpr hR]
        refine iteF (ev_no (K := K) 0 (· = .tuple [.str "place", .int (((k :: n :: r).length : Nat) : Int)]) (ev_t (eva_c (ev_str rfl) (eva_c ?_ eva_n)) (by exact (by decide : 2 ≤ 100000))) (Nat.zero_le _) fun H11 v11 d11 s11 hd11 e11 => by subst e11; exact q H11 v11 (s1.trans (s19.trans (s10.trans s11))) hd11)
        have e := ev_lenX (K := K) (S := noS) (a := none) (m := 0) (σ := [some (.str x), some v1, some (.ref p1), some (.str k), some .non, some v9, some (.ref p2)]) (H0 := H10) (es := (k :: n :: r).map PyData.str) (eva_c (ev_var (i := 1) rfl (dp_no (Df.to hd1 (s19.trans s10))) rfl) eva_n)
        rw [List.length_map] at e
        exact e
    · refine if_b (b := false) (kq "rule" _ _ (by rw [hkr]; decide +kernel)) (fun z => nomatch z) (fun _ B1 b1 => ?_)
      refine if_b (b := false) (kq "jump" _ _ (by rw [hkr]; decide +kernel)) (fun z => nomatch z) (fun _ B2 b2 => ?_)
      refine if_b (b := true) (kq "rename" _ _ (by rw [hkr]; decide +kernel)) (fun _ H7 s7 => ?_) (fun z => nomatch z)
      have s67 := s56.trans (b1.trans (b2.trans s7))
      have s17 := s15.trans s67
      have e7 : H7 p2 = some (.dK (mergeK [] (kM t1 t2 t3 t4))) := s7 _ _ (b2 _ _ (b1 _ _ e6))
      have l2 : (r.drop 3).length = 2 := by
        have := hN (by rw [hkr]; decide +kernel)
        rw [hfs] at this
        simp only [List.length_cons, List.length_nil] at this
        rw [List.length_drop]
        omega
      obtain ⟨wa, wb, ew⟩ : ∃ wa wb, r.drop 3 = [wa, wb] := two_lenS l2
      have g5 : (k :: n :: r)[5]? = some wa := by
        show r[3]? = some wa
        have : (r.drop 3)[0]? = some wa := by rw [ew]; rfl
        rw [List.getElem?_drop] at this
        exact this
      have g6 : (k :: n :: r)[6]? = some wb := by
        show r[4]? = some wb
        have : (r.drop 3)[1]? = some wb := by rw [ew]; rfl
        rw [List.getElem?_drop] at this
        exact this
      refine ev_dput (K := K) (kvs := mergeK [] (kM t1 t2 t3 t4)) (P := (· = .tuple [.str wa, .str wb])) (ev_t (eva_c (ev_ixLX (m1 := 0) (m2 := 0) (V1 s17) (ev_int (i := 5) rfl) (atI_strs (i := 5) g5)) (eva_c (ev_ixLX (m1 := 0) (m2 := 0) (V1 s17) (ev_int (i := 6) rfl) (atI_strs (i := 6) g6)) eva_n)) (by exact (by decide : 2 ≤ 100000))) rfl e7 (Nat.lt_of_le_of_lt (mergeK_len (kM t1 t2 t3 t4) []) (by show 0 + 4 < 1000000; decide)) fun H8 v8 d8 s8 hd8 ed8 => ?_
      subst ed8
      have p8 := s8 _ _ e7
      have sA : Same H5 (upd H8 p2 (.dK (putK (mergeK [] (kM t1 t2 t3 t4)) (.inr "rename") v8))) := same_dict np2 (s67.trans s8)
      have eA : (upd H8 p2 (.dK (putK (mergeK [] (kM t1 t2 t3 t4)) (.inr "rename") v8))) p2 = some (.dK (putK (mergeK [] (kM t1 t2 t3 t4)) (.inr "rename") v8)) := upd_same
      have uA := Df.dict' p8 (.dK (putK (mergeK [] (kM t1 t2 t3 t4)) (.inr "rename") v8)) _ _ hd8
      have hval : valV (putK (mergeK [] (kM t1 t2 t3 t4)) (.inr "rename") v8) (.inr k) = some v8 := by rw [hkr, valV_put, if_pos rfl]
      generalize upd H8 p2 (.dK (putK (mergeK [] (kM t1 t2 t3 t4)) (.inr "rename") v8)) = HA at sA eA uA ⊢
      have s58 := sA
      have e8 := eA
      have hu8 := uA
      have hdec : decD (k :: n :: r) = .tuple ([.str k, .int (ivalW n), dateD r] ++ [.str wa, .str wb]) := by rw [dec_else (by rw [hkr]; decide +kernel) (by rw [hkr]; decide +kernel), ew]; rfl
      refine ev_setN (K := K) 0 (· = decD (k :: n :: r)) (ev_catT (m1 := 0) (m2 := 0) (P1 := (· = .tuple [.str k, .int (ivalW n), dateD r])) (P2 := (· = .tuple [.str wa, .str wb])) (ev_var (i := 5) rfl (dp_no (Df.to hf s58)) rfl) (ev_dgetX (i := 6) rfl e8 (ev_var (i := 3) rfl (.str _) rfl) hval hu8) (fun d e e1 e2 => ⟨_, _, e1, e2, by exact (by decide : 5 ≤ 100000), by rw [hdec]⟩)) (Nat.zero_le _) fun H9 v9 d9 s9 hd9 e9 => ?_
      subst e9
      dsimp only [List.set]
      have s19 := s15.trans (s58.trans s9)
      refine (evb_test (K := K) (m := 0) (b := isDecree (decD (k :: n :: r))) (ev_callB (R := (· = [decD (k :: n :: r)])) (eva_c (ev_var (i := 5) rfl (dp_no hd9) rfl) eva_n) (fun l e => ⟨_, e, gD, rfl⟩)) (Nat.zero_le _)) H9 (Same.refl _) _ fun H10 s10 => ?_
      by_cases hR : isDecree (decD (k :: n :: r)) = true
      · rw [if_pos hR] at q
        rw [hR]
        refine iteT (ev_no (K := K) 0 (· = .tuple [.str "none", decD (k :: n :: r)]) (ev_t (eva_c (ev_str rfl) (eva_c (ev_var (i := 5) rfl (dp_no (Df.to hd9 s10)) rfl) eva_n)) (by exact (by decide : 2 ≤ 100000))) (Nat.zero_le _) fun H11 v11 d11 s11 hd11 e11 => by subst e11; exact q H11 v11 (s1.trans (s19.trans (s10.trans s11))) hd11)
      · rw [if_neg hR] at q
        rw [Bool.eq_false_iff.mpr hR]
        refine iteF (ev_no (K := K) 0 (· = .tuple [.str "place", .int (((k :: n :: r).length : Nat) : Int)]) (ev_t (eva_c (ev_str rfl) (eva_c ?_ eva_n)) (by exact (by decide : 2 ≤ 100000))) (Nat.zero_le _) fun H11 v11 d11 s11 hd11 e11 => by subst e11; exact q H11 v11 (s1.trans (s19.trans (s10.trans s11))) hd11)
        have e := ev_lenX (K := K) (S := noS) (a := none) (m := 0) (σ := [some (.str x), some v1, some (.ref p1), some (.str k), some .non, some v9, some (.ref p2)]) (H0 := H10) (es := (k :: n :: r).map PyData.str) (eva_c (ev_var (i := 1) rfl (dp_no (Df.to hd1 (s19.trans s10))) rfl) eva_n)
        rw [List.length_map] at e
        exact e
    · refine if_b (b := false) (kq "rule" _ _ (by rw [hkr]; decide +kernel)) (fun z => nomatch z) (fun _ B1 b1 => ?_)
      refine if_b (b := false) (kq "jump" _ _ (by rw [hkr]; decide +kernel)) (fun z => nomatch z) (fun _ B2 b2 => ?_)
      refine if_b (b := false) (kq "rename" _ _ (by rw [hkr]; decide +kernel)) (fun z => nomatch z) (fun _ B3 b3 => ?_)
      have sb := b1.trans (b2.trans b3)
      have s58 := s56.trans sb
      have e8 := sb _ _ e6
      have hval : valV (mergeK [] (kM t1 t2 t3 t4)) (.inr k) = some (.ref t4) := by rw [hkr]; exact kM_at4
      have hu8 := Df.to (ht t4 (by simp)) sb
      have l0 : r.drop 3 = [] := by
        have := hN (by rw [hkr]; decide +kernel)
        rw [hfs] at this
        simp only [List.length_cons, List.length_nil] at this
        exact List.length_eq_zero_iff.mp (by rw [List.length_drop]; omega)
      have hdec : decD (k :: n :: r) = .tuple ([.str k, .int (ivalW n), dateD r] ++ []) := by rw [dec_else (by rw [hkr]; decide +kernel) (by rw [hkr]; decide +kernel), l0]; rfl
      refine ev_setN (K := K) 0 (· = decD (k :: n :: r)) (ev_catT (m1 := 0) (m2 := 0) (P1 := (· = .tuple [.str k, .int (ivalW n), dateD r])) (P2 := (· = .tuple [])) (ev_var (i := 5) rfl (dp_no (Df.to hf s58)) rfl) (ev_dgetX (i := 6) rfl e8 (ev_var (i := 3) rfl (.str _) rfl) hval hu8) (fun d e e1 e2 => ⟨_, _, e1, e2, by exact (by decide : 3 ≤ 100000), by rw [hdec]⟩)) (Nat.zero_le _) fun H9 v9 d9 s9 hd9 e9 => ?_
      subst e9
      dsimp only [List.set]
      have s19 := s15.trans (s58.trans s9)
      refine (evb_test (K := K) (m := 0) (b := isDecree (decD (k :: n :: r))) (ev_callB (R := (· = [decD (k :: n :: r)])) (eva_c (ev_var (i := 5) rfl (dp_no hd9) rfl) eva_n) (fun l e => ⟨_, e, gD, rfl⟩)) (Nat.zero_le _)) H9 (Same.refl _) _ fun H10 s10 => ?_
      by_cases hR : isDecree (decD (k :: n :: r)) = true
      · rw [if_pos hR] at q
        rw [hR]
        refine iteT (ev_no (K := K) 0 (· = .tuple [.str "none", decD (k :: n :: r)]) (ev_t (eva_c (ev_str rfl) (eva_c (ev_var (i := 5) rfl (dp_no (Df.to hd9 s10)) rfl) eva_n)) (by exact (by decide : 2 ≤ 100000))) (Nat.zero_le _) fun H11 v11 d11 s11 hd11 e11 => by subst e11; exact q H11 v11 (s1.trans (s19.trans (s10.trans s11))) hd11)
      · rw [if_neg hR] at q
        rw [Bool.eq_false_iff.mpr hR]
        refine iteF (ev_no (K := K) 0 (· = .tuple [.str "place", .int (((k :: n :: r).length : Nat) : Int)]) (ev_t (eva_c (ev_str rfl) (eva_c ?_ eva_n)) (by exact (by decide : 2 ≤ 100000))) (Nat.zero_le _) fun H11 v11 d11 s11 hd11 e11 => by subst e11; exact q H11 v11 (s1.trans (s19.trans (s10.trans s11))) hd11)
        have e := ev_lenX (K := K) (S := noS) (a := none) (m := 0) (σ := [some (.str x), some v1, some (.ref p1), some (.str k), some .non, some v9, some (.ref p2)]) (H0 := H10) (es := (k :: n :: r).map PyData.str) (eva_c (ev_var (i := 1) rfl (dp_no (Df.to hd1 (s19.trans s10))) rfl) eva_n)
        rw [List.length_map] at e
        exact e
end

section
variable {P : Program} {w : World} {K : PySem.W.Frag} {mg : Str → Option Value} {base : Heap}
/-! #### the source of the draws -/
def spSource (K : PySem.W.Frag) : Sp := fun vs H Q _ => ∃ (a : Addr) (ns : List Int) (i : Nat), vs = [.ref a, .int i] ∧ SqL K H a (ns.map V.int) ∧ i ≤ 100 ∧ ∀ p H', H p = none → Same H H' → Src H' p 0 → Q (.ref p) H'
theorem ok_source (T : Top K mg) : FnOk P w K mg base CX0 1 T.a__law_source T.d__law_source ["_law_script", "_law_at"] (spSource K) := by
  refine T.F__law_source.ok sc__law_source (fun vs H Q E h => by obtain ⟨a, ns, i, rfl, _⟩ := h; rfl) (fun cdv A outer s H vs Q E hr h => ?_)
  obtain ⟨a, ns, i, rfl, hS, hi, q⟩ := h
  refine ⟨_, pss_cons (ps_set (i := 2) sc__law_source.nd rfl (.inl rfl) (pe_ifExp (pt_cmpR op_lt (pv 1) (pe_callB call_len_seq (by rfl) T.n_len PySem.boot_len (pa_cons (pv 0) pa_nil)) (nomark _)) (pe_ix ix_list (pv 0) (pv 1) (fun _ _ => rfl)) pe_int))
    (pss_cons (ps_set (i := 3) sc__law_source.nd rfl (.inl rfl) (pe_ifExp (pt_cmpR op_ge (pe_callB call_abs (by rfl) T.n_abs (by decide +kernel) (pa_cons (pv 2) pa_nil)) (pe_op op_pow pe_int pe_int) (nomark _)) (pe_callB call_abs (by rfl) T.n_abs (by decide +kernel) (pa_cons (pv 2) pa_nil)) pe_int))
    (pss_one (ps_ret (pe_lst (pa_cons (pv 3) (pa_cons (pe_op op_mod (pe_op op_add (pe_op op_add (pe_op op_add (pe_op op_mod (pv 2) pe_int) (pe_op op_mul (pe_op op_mul pe_int (pv 1)) (pv 1))) (pe_op op_mul pe_int (pv 1))) pe_int) pe_int) (pa_cons pe_int pa_nil))))))), ?_⟩
  refine by_int (te := tIf _ _ _) (p := fun _ => True) (fun G hG => ?_) (fun c _ => ?_)
  · refine ⟨.int i, rfl, .ref a, rfl, a, _, rfl, .inl hS, (i : Int), _, rfl, rfl, _, rfl, ite2 (fun h1 => ?_) (fun h1 => hG 0 trivial)⟩
    have h2 : (i : Int) < ((ns.map V.int).length : Int) := of_decide_eq_true h1
    have h3 : i < ns.length := by
      rw [List.length_map] at h2
      omega
    have e : (ns.map V.int)[i]? = some (.int ns[i]) := by
      rw [List.getElem?_map, List.getElem?_eq_getElem h3]
      rfl
    exact ⟨.ref a, rfl, .int i, rfl, a, _, _, _, rfl, rfl, hS, atI_nat e, hG _ trivial⟩
  dsimp only [gName]
  refine by_int (te := tIf _ _ _) (p := fun g => 0 ≤ g) (fun G hG => ?_) (fun g g0 => ?_)
  · refine ⟨.int c, rfl, c, rfl, 10, 18, rfl, rfl, ⟨by decide, by decide, by decide⟩, _, _, rfl, rfl, _, rfl, ite2 (fun _ => ?_) (fun _ => hG 0 (Int.le_refl _))⟩
    exact ⟨.int c, rfl, c, rfl, hG _ (by split <;> omega)⟩
  have b1 : CMul 9973 (i : Int) := .inl ⟨by decide, by decide⟩
  have b2 : CMul (9973 * (i : Int)) (i : Int) := .inr ⟨by omega, by omega⟩
  have b3 : CMul 31 (i : Int) := .inl ⟨by decide, by decide⟩
  refine ⟨.int g, rfl, .int c, rfl, c, 2305843009213693951, rfl, rfl, (show (0 : Int) < 2305843009213693951 by decide), .int i, rfl, 9973, i, rfl, rfl, b1, .int i, rfl, _, i, rfl, rfl, b2, _, _, rfl, rfl, .int i, rfl, 31, i, rfl, rfl, b3, _, _, rfl, rfl, _, 7, rfl, rfl, _, 2305843009213693951, rfl, rfl, (show (0 : Int) < 2305843009213693951 by decide), (by show 3 ≤ sizeLine; decide), fun p np => ?_⟩
  refine q p _ np (same_new np) ⟨g, _, 0, upd_same, g0, Int.emod_nonneg _ (by decide), ?_, Int.le_refl _, Int.le_refl _⟩
  exact Int.lt_trans (Int.emod_lt_of_pos _ (by decide)) (by decide)
end

section
variable {P : Program} {w : World} {K : PySem.W.Frag} {mg : Str → Option Value} {base : Heap}
/-! #### a draw: some number below many -/
def spDraw : Sp := fun vs H Q _ => ∃ (a : Addr) (n : Nat) (many : Int), vs = [.ref a, .int many] ∧ Src H a n ∧ n + 1 ≤ most ∧ 1 ≤ many ∧ many < 2 ^ 300 ∧
  ∀ H' k, 0 ≤ k → k < many → Keeps (one (some a)) H H' → Src H' a (n + 1) → Q (.int k) H'
def primes : List V := [.int 2147483647, .int 2147483629, .int 2147483587, .int 2147483579, .int 2147483563, .int 2147483549, .int 2147483543]
theorem prime_at {k : Int} (h0 : 0 ≤ k) (h7 : k < 7) : ∃ p : Int, atI primes k = some (.int p) ∧ 0 < p ∧ p < 2 ^ 31 := by
  have : k = 0 ∨ k = 1 ∨ k = 2 ∨ k = 3 ∨ k = 4 ∨ k = 5 ∨ k = 6 := by omega
  rcases this with rfl | rfl | rfl | rfl | rfl | rfl | rfl <;> exact ⟨_, rfl, by decide, by decide⟩
theorem base_small {b t : Int} (b0 : 0 ≤ b) (b1 : b < 2 ^ 61) (t0 : 0 ≤ t) (t1 : t ≤ 2000000) : ((b + 50021 * t) * (2 * t + 3) + 6151 * t * t).natAbs < 2 ^ 100 := by
  have x := wide_lt (i := b + 50021 * t) (j := 2 * t + 3) (a := 62) (b := 32) (by omega) (by omega)
  have y := wide_lt (i := 6151 * t) (j := t) (a := 40) (b := 22) (by omega) (by omega)
  generalize (b + 50021 * t) * (2 * t + 3) = u at x ⊢
  generalize 6151 * t * t = v at y ⊢
  omega
theorem ok_draw (T : Top K mg) : FnOk P w K mg base CX0 1 T.a__law_draw T.d__law_draw ["_law_source_here", "_law_many"] spDraw := by
  refine T.F__law_draw.ok sc__law_draw (fun vs H Q E h => by obtain ⟨a, n, many, rfl, _⟩ := h; rfl) (fun cdv A outer s H vs Q E hr h => ?_)
  obtain ⟨a, n, many, rfl, ⟨g, b, t, e, g0, b0, b1, t0, tn⟩, few, m1, m2, q⟩ := h
  have nd := (sc__law_draw).nd
  refine ⟨_, pss_cons (ps_if (pt_cmpR op_gt (pe_ix ix_list (pv 0) pe_int (fun _ _ => rfl)) pe_int (nomark _))
      (pss_cons (ps_set (i := 2) sc__law_draw.nd rfl (.inl rfl) (pe_op op_mod (pe_ix ix_list (pv 0) pe_int (fun _ _ => rfl)) (pv 1)))
      (pss_cons (ps_asg (pe_op op_fdivW (pe_ix ix_list (pv 0) pe_int (fun _ _ => rfl)) (pv 1)) (pg_sub (pv 0) pe_int set_list))
      (pss_one (ps_ret (pv 2))))) pss_nil)
    (pss_cons (ps_set (i := 3) sc__law_draw.nd rfl (.inl rfl) (pe_tup (pa_cons pe_int (pa_cons pe_int (pa_cons pe_int (pa_cons pe_int (pa_cons pe_int (pa_cons pe_int (pa_cons pe_int pa_nil)))))))))
    (Evl.pss_cut (ps_asg (pe_op op_add (pe_ix ix_list (pv 0) pe_int (fun _ _ => rfl)) pe_int) (pg_sub (pv 0) pe_int set_list))
    (pss_cons (ps_set (i := 4) sc__law_draw.nd rfl (.inl rfl) (pe_ix ix_list (pv 0) pe_int (fun _ _ => rfl)))
    (pss_cons (ps_set (i := 5) sc__law_draw.nd rfl (.inl rfl) (pe_op op_add (pe_op op_mul (pe_op op_add (pe_ix ix_list (pv 0) pe_int (fun _ _ => rfl)) (pe_op op_mul pe_int (pv 4))) (pe_op op_add (pe_op op_mul pe_int (pv 4)) pe_int)) (pe_op op_mul (pe_op op_mul pe_int (pv 4)) (pv 4))))
    (pss_cons (ps_set (i := 6) sc__law_draw.nd rfl (.inl rfl) (pe_op op_mod (pe_op op_powB (pv 5) pe_int) (pe_ix ix_tup (pv 3) (pe_op op_mod (pv 4) pe_int) (fun _ _ => rfl))))
    (pss_one (ps_ret (pe_op op_mod (pe_op op_fdiv (pe_op op_mod (pe_op op_mul (pv 6) (pe_op op_add (pe_op op_add (pe_op op_fdiv (pv 6) pe_int) (pe_op op_mul pe_int (pv 4))) pe_int)) (pe_ix ix_tup (pv 3) (pe_op op_mod (pe_op op_add (pv 4) pe_int) pe_int) (fun _ _ => rfl))) pe_int) (pv 1))))))))), ?_⟩
  have mp : (0 : Int) < many := by omega
  have few' : n + 1 ≤ 1000000 := few
  refine ⟨.ref a, rfl, a, _, 0, _, rfl, rfl, SqL.of e, rfl, g, 0, rfl, rfl, _, rfl, ite2 (fun h1 => ?_) (fun h1 => ?_)⟩
  · refine ⟨.ref a, rfl, a, _, 0, _, rfl, rfl, SqL.of e, rfl, .int many, rfl, g, many, rfl, rfl, mp, ?_⟩
    refine ⟨.ref a, rfl, a, _, 0, _, rfl, rfl, SqL.of e, rfl, .int many, rfl, g, many, rfl, rfl, wide_div mp (b := 300) (by omega) (by decide) (by decide), ?_⟩
    refine ⟨.ref a, rfl, a, _, 0, 0, rfl, rfl, e, rfl, .int (g % many), rfl, ?_⟩
    refine q _ _ (Int.emod_nonneg _ (by omega)) (Int.emod_lt_of_pos _ mp) (Keeps.set (one_self a)) ⟨g / many, b, t, upd_same, Int.ediv_nonneg g0 (by omega), b0, b1, t0, by omega⟩
  · refine ⟨(by show 7 ≤ sizeLine; decide), fun p np => ?_⟩
    have npa : a ≠ p := ne_of_none e np
    have e1 : (upd H p (.tup primes)) a = some (.lst [.int g, .int b, .int t]) := by
      rw [upd_ne npa]
      exact e
    refine ⟨fun σ' H2 => ∃ u : Int, σ' = [some (.ref a), some (.int many), none, some (.ref p), none, none, none] ∧ H2 a = some (.lst [.int g, .int b, .int u]) ∧ SqT K H2 p primes ∧ Keeps (one (some a)) H H2 ∧ 0 ≤ u ∧ u ≤ n + 1, ?_, ?_⟩
    · refine ⟨.ref a, rfl, a, _, 2, _, rfl, rfl, SqL.of e1, rfl, t, 1, rfl, rfl, .ref a, rfl, a, _, 2, 2, rfl, rfl, e1, rfl, ?_⟩
      exact ⟨t + 1, rfl, upd_same, SqT.of (by rw [upd_ne npa.symm]; exact upd_same), (Keeps.new np).trans (Keeps.set (one_self a)), by omega, by omega⟩
    rintro σ' H2 ⟨u, rfl, e2, e3, kp, u0, un⟩
    have u1 : u ≤ 2000000 := by omega
    obtain ⟨p1, hp1, pp1, pl1⟩ := prime_at (k := u % 7) (Int.emod_nonneg _ (by decide)) (Int.emod_lt_of_pos _ (by decide))
    obtain ⟨p2, hp2, pp2, pl2⟩ := prime_at (k := (u + 2) % 7) (Int.emod_nonneg _ (by decide)) (Int.emod_lt_of_pos _ (by decide))
    have small := base_small b0 b1 u0 u1
    have c1 : CMul 50021 u := .inl ⟨by decide, by decide⟩
    have c2 : CMul 2 u := .inl ⟨by decide, by decide⟩
    have c3 : CMul (b + 50021 * u) (2 * u + 3) := .inr ⟨by omega, by omega⟩
    have c4 : CMul 6151 u := .inl ⟨by decide, by decide⟩
    have c5 : CMul (6151 * u) u := .inr ⟨by omega, by omega⟩
    have c6 : CMul 3 u := .inl ⟨by decide, by decide⟩
    refine ⟨.ref a, rfl, a, _, 2, _, rfl, rfl, SqL.of e2, rfl, ?_⟩
    refine ⟨.ref a, rfl, a, _, 1, _, rfl, rfl, SqL.of e2, rfl, .int u, rfl, 50021, u, rfl, rfl, c1, b, _, rfl, rfl, .int u, rfl, 2, u, rfl, rfl, c2, _, 3, rfl, rfl, _, _, rfl, rfl, c3, .int u, rfl, 6151, u, rfl, rfl, c4, .int u, rfl, _, u, rfl, rfl, c5, _, _, rfl, rfl, ?_⟩
    dsimp only
    generalize (b + 50021 * u) * (2 * u + 3) + 6151 * u * u = z at small ⊢
    have cp : CPowB z 3 := by
      refine ⟨by decide, ?_⟩
      have := PySem.Flt.log2_lt_of (n := z.natAbs) (k := 100) (by decide) small
      omega
    refine ⟨.int z, rfl, z, 3, rfl, rfl, cp, .ref p, rfl, .int u, rfl, u, 7, rfl, rfl, (show (0 : Int) < 7 by decide), p, _, _, _, rfl, rfl, e3, hp1, _, p1, rfl, rfl, pp1, ?_⟩
    have f0 : 0 ≤ z ^ (3 : Int).toNat % p1 := Int.emod_nonneg _ (by omega)
    have f1 : z ^ (3 : Int).toNat % p1 < p1 := Int.emod_lt_of_pos _ pp1
    dsimp only
    generalize z ^ (3 : Int).toNat % p1 = f at f0 f1 ⊢
    have c7 : CMul f (f / 4091 + 3 * u + 1) := .inl ⟨by omega, by omega⟩
    refine ⟨.int f, rfl, .int f, rfl, f, 4091, rfl, rfl, ⟨by decide, by decide⟩, .int u, rfl, 3, u, rfl, rfl, c6, _, _, rfl, rfl, _, 1, rfl, rfl, _, _, rfl, rfl, c7, .ref p, rfl, .int u, rfl, u, 2, rfl, rfl, _, 7, rfl, rfl, (show (0 : Int) < 7 by decide), p, _, _, _, rfl, rfl, e3, hp2, _, p2, rfl, rfl, pp2, _, 16, rfl, rfl, ⟨by decide, by decide⟩, .int many, rfl, _, many, rfl, rfl, mp, ?_⟩
    exact q H2 _ (Int.emod_nonneg _ (by omega)) (Int.emod_lt_of_pos _ mp) kp ⟨g, b, u, e2, g0, b0, b1, u0, by omega⟩
/-- draw(source, te): below what te gives -/
theorem ev_draw {S : Addr → Bool} {a : Addr} {σ : L2.St} {H0 : Hp} {i : Nat} {te : TE} {m : Nat} {p : Int → Prop} {C : PyData → Prop} (hs : σ[i]? = some (some (.ref a))) (ht : Ev K S a σ H0 te m fun d => ∃ k, d = .int k ∧ p k)
    (hp : ∀ k, p k → 1 ≤ k ∧ k < 2 ^ 300 ∧ ∀ j, 0 ≤ j → j < k → C (.int j)) : Ev K S a σ H0 (tCall spDraw [] E0 (tCons (tVar i) (tCons te tNil))) (m + 1) C := by
  intro H n Q k r b q
  refine ⟨.ref a, hs, ht H n _ k r (by omega) fun H1 v d k1 r1 hd p1 => ?_⟩
  obtain ⟨many, rfl, hm⟩ := p1
  cases hd
  obtain ⟨q1, q2, q3⟩ := hp many hm
  exact ⟨a, n + m, many, rfl, r1.src a rfl, by omega, q1, q2, fun H2 j j0 j1 k2 s2 => q H2 _ _ (k1.trans k2) (r1.stepS k2 (by rw [← Nat.add_assoc]; exact s2)) (.int j) (q3 j j0 j1)⟩
end

section
variable {P : Program} {w : World} {K : PySem.W.Frag} {mg : Str → Option Value} {base : Heap}
/-! #### a word, a line -/
def WordOk (z : Str) : Prop := z.length ≤ 64 ∧ tidy z = true ∧ 32 ∉ TL.tl z
instance (z : Str) : Decidable (WordOk z) := by unfold WordOk; exact inferInstance
abbrev mK : List Str := ["rule", "jump", "rename", "restore", "Rule"]
abbrev mN : List Str := ["0", "7", "10", "007", "-1"]
abbrev mI : List Str := ["0", "-3", "12", "-0", "1a"]
abbrev mD : List Str := ["1", "60", "3", "0", "61"]
abbrev mA : List Str := ["a", "zz", "may", "", "a1"]
abbrev mM : List Str := ["a:1", "b:60", "a:2", "/", "a:0"]
def WordPre (ds : List PyData) : Prop := ∃ f : Str, ds = [.str f] ∧ f ∈ letters
def WordPost (_ : List PyData) (d : PyData) : Prop := ∃ z : Str, d = .str z ∧ WordOk z
theorem ev_min2I {S : Addr → Bool} {a : Option Addr} {σ : L2.St} {H0 : Hp} {ta tb : TE} {m1 m2 : Nat} {i j : Int} {P : PyData → Prop} (ha : Ev K S a σ H0 ta m1 fun d => ∃ k, d = .int k ∧ 0 ≤ k ∧ k < i) (hb : Ev K S a σ H0 tb m2 fun d => ∃ k, d = .int k ∧ 0 ≤ k ∧ k < j) (h : ∀ k, 0 ≤ k → k < i → P (.int k)) : Ev K S a σ H0 (tCB (fun xs H Q => ∃ i j, xs = [V.int i, V.int j] ∧ Q (V.int (if j < i then j else i)) H) (tCons ta (tCons tb tNil))) (m1 + m2) P := by
  intro H n Q k r b q
  refine ha H n _ k r (by omega) fun H1 v d k1 r1 hd ⟨x, e, x0, x1⟩ => ?_
  subst e
  cases hd
  refine hb H1 (n + m1) _ (k.trans (keeps_one r.sa k1)) r1 (by omega) fun H2 v d k2 r2 hd ⟨y, e, y0, y1⟩ => ?_
  subst e
  cases hd
  refine ⟨x, y, rfl, q H2 _ _ (k1.trans k2) (by rw [← Nat.add_assoc]; exact r2) (.int _) (h _ ?_ ?_)⟩ <;> split <;> omega
section
variable {S : Addr → Bool} {a : Option Addr} {σ : L2.St} {H H0 : Hp} {te ta tc : TE} {E : Ends} {i m n : Nat} {P : PyData → Prop}
theorem ev_set1 (P : PyData → Prop) (m : Nat) (r : Rn S a n H) (b : n + m ≤ most) (h : Ev K S a σ H te m P) (q : ∀ H' v d, Keeps (one a) H H' → Rn S a (n + m) H' → Df K (hid S H') v d → P d → E.nx (σ.set i (some v)) H') : tAsg te (gName i) E σ H := h H n _ Keeps.rfl r b q
theorem ev_ifF (h : Ev K S a σ H0 te 0 (· = .bool false)) (h2 : Ev K S a σ H0 ta m P) : Ev K S a σ H0 (tIf (tTest te) tc ta) m P := by
  intro H n Q k r b q
  refine h H n _ k r (by omega) fun H1 v d k1 r1 hd e => ?_
  subst e
  cases hd
  exact ⟨_, rfl, iteF (h2 H1 n _ (k.trans (keeps_one r.sa k1)) r1 b fun H2 v d k2 r2 hd p => q H2 v d (k1.trans k2) r2 hd p)⟩
end
set_option maxHeartbeats 4000000 in
theorem ok_law_word (T : Top K mg) : FnOk P w K mg base CX0 2 T.a__law_word T.d__law_word ["_law_source_here", "_law_form"] (spRng K 4 WordPre WordPost) := by
  have G__law_draw : FnOk P w K mg base CX0 1 T.a__law_draw T.d__law_draw ["_law_source_here", "_law_many"] spDraw := ok_draw T
  refine T.F__law_word.ok sc__law_word (spRng_len fun ds ⟨_, e, _⟩ => by rw [e]; rfl) (fun cdv A0 outer s0 H vs Q E hr h => ?_)
  obtain ⟨a, S, ws0, ds, n, rfl, r, few, hw, ⟨f, rfl, hf⟩, q⟩ := h
  obtain ⟨v1, rr, rfl, hd, hnil⟩ := DfAll.c hw
  have e0 := DfAll.n hnil
  subst e0
  cases hd
  have few' : n + 4 ≤ 1000000 := few
  refine ⟨_, (pss_cons (ps_set (i := 2) sc__law_word.nd rfl (.inl rfl) (pe_disp (pps_cons pe_str (pe_lst (pa_cons pe_str (pa_cons pe_str (pa_cons pe_str (pa_cons pe_str (pa_cons pe_str pa_nil)))))) (pps_cons pe_str (pe_lst (pa_cons pe_str (pa_cons pe_str (pa_cons pe_str (pa_cons pe_str (pa_cons pe_str pa_nil)))))) pps_nil)) rfl rfl (by decide) (by decide))) (pss_cons (ps_expr (pe_bm PySem.F.plainAttrs_dict PySem.F.slot_dict_update PySem.F.type_dict_update mt_dupdate (pv 2) (pa_cons (pe_disp (pps_cons pe_str (pe_lst (pa_cons pe_str (pa_cons pe_str (pa_cons pe_str (pa_cons pe_str (pa_cons pe_str pa_nil)))))) (pps_cons pe_str (pe_lst (pa_cons pe_str (pa_cons pe_str (pa_cons pe_str (pa_cons pe_str (pa_cons pe_str pa_nil)))))) pps_nil)) rfl rfl (by decide) (by decide)) pa_nil))) (pss_cons (ps_expr (pe_bm PySem.F.plainAttrs_dict PySem.F.slot_dict_update PySem.F.type_dict_update mt_dupdate (pv 2) (pa_cons (pe_disp (pps_cons pe_str (pe_lst (pa_cons pe_str (pa_cons pe_str (pa_cons pe_str (pa_cons pe_str (pa_cons pe_str pa_nil)))))) pps_nil) rfl rfl (by decide) (by decide)) pa_nil))) (pss_cons (ps_expr (pe_bm PySem.F.plainAttrs_dict PySem.F.slot_dict_update PySem.F.type_dict_update mt_dupdate (pv 2) (pa_cons (pe_disp (pps_cons pe_str (pe_lst (pa_cons pe_str (pa_cons pe_str (pa_cons pe_str (pa_cons pe_str (pa_cons pe_str pa_nil)))))) pps_nil) rfl rfl (by decide) (by decide)) pa_nil))) (pss_cons (ps_if (pt_cmpR op_eq (pe_call G__law_draw hr (by rfl) T.m__law_draw T.F__law_draw.kp T.b__law_draw .nil pass0 (pa_cons (pv 0) (pa_cons pe_int pa_nil))) pe_int (by rfl)) (pss_one (ps_set (i := 1) sc__law_word.nd rfl (.inl rfl) (pe_ix ix_str pe_str (pe_call G__law_draw hr (by rfl) T.m__law_draw T.F__law_draw.kp T.b__law_draw .nil pass0 (pa_cons (pv 0) (pa_cons pe_int pa_nil))) (fun _ _ => rfl)))) pss_nil) (pss_cons (ps_set (i := 3) sc__law_word.nd rfl (.inl rfl) (pe_dget (Nat.lt_of_le_of_lt (Nat.add_le_add_left (by decide : 1 ≤ 64) _) hr.units) (pv 2) (pv 1) (fun _ _ => rfl))) (pss_one (ps_ret (pe_ifExp (pt_cmpR op_ne (pv 1) pe_str (by rfl)) (pe_ix ix_list (pv 3) (pe_callB (call_min2 rfl) (by rfl) T.n_min (by decide +kernel) (pa_cons (pe_call G__law_draw hr (by rfl) T.m__law_draw T.F__law_draw.kp T.b__law_draw .nil pass0 (pa_cons (pv 0) (pa_cons pe_int pa_nil))) (pa_cons (pe_call G__law_draw hr (by rfl) T.m__law_draw T.F__law_draw.kp T.b__law_draw .nil pass0 (pa_cons (pv 0) (pa_cons pe_int pa_nil))) pa_nil))) (fun _ _ => rfl)) (pe_ix ix_list (pv 3) (pe_call G__law_draw hr (by rfl) T.m__law_draw T.F__law_draw.kp T.b__law_draw .nil pass0 (pa_cons (pv 0) (pa_cons pe_int pa_nil))) (fun _ _ => rfl))))))))))), ?_⟩
  refine disp2L_set (v1 := mK.map V.str) (v2 := mN.map V.str) (by decide +kernel) (fun H Q q => q) (fun H Q q => q) (by decide) (by decide) fun p l1 l2 H1 np s1 ep e1 e2 o1 o2 => ?_
  dsimp only [List.set]
  refine upd2L (K := K) (i := 2) (v1 := mI.map V.str) (v2 := mD.map V.str) rfl ep (by show 2 ≤ 1000; decide) (by decide +kernel) (fun H Q q => q) (fun H Q q => q) (by decide) (by decide) fun l3 l4 H2 b2 ep2 e3 e4 o3 o4 => ?_
  refine upd1L (K := K) (i := 2) (v1 := mA.map V.str) rfl ep2 (Nat.le_trans (mergeK_len _ _) (by show 2 + 2 ≤ 1000; decide)) (fun H Q q => q) (by decide) fun l5 H3 b3 ep3 e5 o5 => ?_
  refine upd1L (K := K) (i := 2) (v1 := mM.map V.str) rfl ep3 (Nat.le_trans (mergeK_len _ _) (Nat.le_trans (Nat.add_le_add_right (mergeK_len _ _) _) (by show 2 + 2 + 1 ≤ 1000; decide))) (fun H Q q => q) (by decide) fun l6 H4 b4 ep4 e6 o6 => ?_
  have sm : Same H H4 := fun b o e => by
    have hb : b ≠ p := fun z => by rw [z, np] at e; cases e
    exact b4 b o hb (b3 b o hb (b2 b o hb (s1 b o e)))
  have sm3 : Same H H3 := fun b o e => by
    have hb : b ≠ p := fun z => by rw [z, np] at e; cases e
    exact b3 b o hb (b2 b o hb (s1 b o e))
  have sm2 : Same H H2 := fun b o e => by
    have hb : b ≠ p := fun z => by rw [z, np] at e; cases e
    exact b2 b o hb (s1 b o e)
  have look : ∀ g ∈ letters, ∃ (l : Addr) (ms : List Str), valV (mergeK (mergeK (mergeK [(.inr "k", .ref l1), (.inr "n", .ref l2)] [(.inr "i", .ref l3), (.inr "d", .ref l4)]) [(.inr "a", .ref l5)]) [(.inr "m", .ref l6)]) (.inr g) = some (.ref l) ∧ H4 l = some (.lst (ms.map V.str)) ∧ ms.length = 5 ∧ (∀ z ∈ ms, WordOk z) ∧ H l = none := by
    intro g hg
    rw [valV_merge nd1, valV_merge nd1, valV_merge (nd2 (by decide +kernel))]
    have hg : g = "i" ∨ g = "n" ∨ g = "k" ∨ g = "d" ∨ g = "a" ∨ g = "m" := by simpa using hg
    have n1 := ne_dk ep e1
    have n2 := ne_dk ep e2
    have n3 := ne_dk ep2 e3
    have n4 := ne_dk ep2 e4
    have n5 := ne_dk ep3 e5
    rcases hg with rfl | rfl | rfl | rfl | rfl | rfl
    · refine ⟨l3, mI, ?_, b4 _ _ n3 (b3 _ _ n3 e3), rfl, by decide +kernel, none_of s1 o3⟩
      rw [val1_none (by decide +kernel), val1_none (by decide +kernel), valV_pos rfl]
      rfl
    · refine ⟨l2, mN, ?_, b4 _ _ n2 (b3 _ _ n2 (b2 _ _ n2 e2)), rfl, by decide +kernel, o2⟩
      rw [val1_none (by decide +kernel), val1_none (by decide +kernel), val2_none (by decide +kernel) (by decide +kernel), val2_snd (by decide +kernel)]
      rfl
    · refine ⟨l1, mK, ?_, b4 _ _ n1 (b3 _ _ n1 (b2 _ _ n1 e1)), rfl, by decide +kernel, o1⟩
      rw [val1_none (by decide +kernel), val1_none (by decide +kernel), val2_none (by decide +kernel) (by decide +kernel), valV_pos rfl]
      rfl
    · refine ⟨l4, mD, ?_, b4 _ _ n4 (b3 _ _ n4 e4), rfl, by decide +kernel, none_of s1 o4⟩
      rw [val1_none (by decide +kernel), val1_none (by decide +kernel), val2_snd (by decide +kernel)]
      rfl
    · refine ⟨l5, mA, ?_, b4 _ _ n5 e5, rfl, by decide +kernel, none_of sm2 o5⟩
      rw [val1_none (by decide +kernel), valV_pos rfl]
      rfl
    · refine ⟨l6, mM, ?_, e6, rfl, by decide +kernel, none_of sm3 o6⟩
      rw [valV_pos rfl]
      rfl
  generalize mergeK (mergeK (mergeK [(.inr "k", .ref l1), (.inr "n", .ref l2)] [(.inr "i", .ref l3), (.inr "d", .ref l4)]) [(.inr "a", .ref l5)]) [(.inr "m", .ref l6)] = M at ep4 look
  have r4 := r.same sm
  refine if_ev (K := K) (m := 0 + 1 + 0) r4 (show _ ≤ 1000000 by omega) (ev_eqIx (q1 := fun _ => True) (q2 := (· = 0)) (ev_draw (m := 0) (p := (· = 12)) rfl (ev_int ⟨_, rfl, rfl⟩) (fun k e => by subst e; exact ⟨by decide, Int.lt_trans (b := 100) (by decide) (by decide), fun j j0 j1 => ⟨j, rfl, trivial⟩⟩)) (ev_int ⟨_, rfl, rfl⟩) (fun x y _ _ => ⟨_, rfl⟩)) fun b H5 k5 r5 => ?_
  cases b with
  | true =>
    rw [if_pos rfl]
    refine ev_set1 (K := K) (fun d => ∃ g : Str, d = .str g ∧ g ∈ letters) (0 + (0 + 1)) r5 (show _ ≤ 1000000 by omega) ?_ fun G vg dg k6 r6 hdg ⟨g, eg, hg⟩ => ?_
    · refine ev_ixS (P1 := (· = .str "knidam")) (P2 := fun e => ∃ i : Int, e = .int i ∧ 0 ≤ i ∧ i < 6) (ev_str rfl) (ev_draw (m := 0) (p := (· = 6)) rfl (ev_int ⟨_, rfl, rfl⟩) (fun k e => by subst e; exact ⟨by decide, Int.lt_trans (b := 100) (by decide) (by decide), fun j j0 j1 => ⟨j, rfl, j0, j1⟩⟩)) fun d e e1 ⟨i, e2, i0, i6⟩ => ?_
      have hi : i = 0 ∨ i = 1 ∨ i = 2 ∨ i = 3 ∨ i = 4 ∨ i = 5 := by omega
      have ec : ("knidam" : Str).cps.toList = [107, 110, 105, 100, 97, 109] := by decide +kernel
      rcases hi with rfl | rfl | rfl | rfl | rfl | rfl
      · exact ⟨_, 0, 107, e1, e2, by decide +kernel, by rw [ec]; rfl, _, rfl, by decide +kernel⟩
      · exact ⟨_, 1, 110, e1, e2, by decide +kernel, by rw [ec]; rfl, _, rfl, by decide +kernel⟩
      · exact ⟨_, 2, 105, e1, e2, by decide +kernel, by rw [ec]; rfl, _, rfl, by decide +kernel⟩
      · exact ⟨_, 3, 100, e1, e2, by decide +kernel, by rw [ec]; rfl, _, rfl, by decide +kernel⟩
      · exact ⟨_, 4, 97, e1, e2, by decide +kernel, by rw [ec]; rfl, _, rfl, by decide +kernel⟩
      · exact ⟨_, 5, 109, e1, e2, by decide +kernel, by rw [ec]; rfl, _, rfl, by decide +kernel⟩
    subst eg
    cases hdg
    dsimp only [List.set]
    have kG := k5.trans k6
    have rG : Rn S (some a) (n + 2) G := r6.up (by omega)
    obtain ⟨l, ms, hval, hl, h5, hms, nl⟩ := look g hg
    have gp := kG.at (one_no (no_a r np)) ep4
    have gl := kG.at (one_no (no_a r nl)) hl
    refine ⟨.ref p, rfl, .str g, rfl, p, .ref l, rfl, by rw [← hval]; exact DGet.k (k := .inr g) gp, ?_⟩
    dsimp only [gName, List.set]
    have sl : S l = false := r.th.new nl
    have dl : Df K (hid S G) (.ref l) (.list (ms.map PyData.str)) := .lst (.inl (.inl (by rw [hid_at sl]; exact gl))) dp_ofStrs
    have PK : ∀ {te : TE} {m : Nat}, Ev K S (some a) [some (.ref a), some (.str g), some (.ref p), some (.ref l)] G te m (fun e => ∃ i : Int, e = .int i ∧ 0 ≤ i ∧ i < 5) → Ev K S (some a) [some (.ref a), some (.str g), some (.ref p), some (.ref l)] G (tOp (rIxL K) (tVar 3) te) (0 + m) (fun d => ∃ z, d = .str z ∧ WordOk z) := fun {te m} h => ev_pick (k := 5) (ev_var (i := 3) rfl dl ⟨_, rfl, by rw [List.length_map]; exact h5, fun e he => by obtain ⟨z, hz, rfl⟩ := List.mem_map.mp he; exact ⟨z, rfl, hms z hz⟩⟩) h
    have D5 : ∀ {G : Hp} (N : Int), 1 ≤ N → N < 1000 → Ev K S (some a) [some (.ref a), some (.str g), some (.ref p), some (.ref l)] G (tCall spDraw [] E0 (tCons (tVar 0) (tCons (tC (.int N)) tNil))) (0 + 1) (fun e => ∃ i : Int, e = .int i ∧ 0 ≤ i ∧ i < N) := fun N h1 h2 => ev_draw (m := 0) (p := (· = N)) rfl (ev_int ⟨_, rfl, rfl⟩) (fun k e => by subst e; exact ⟨h1, Int.lt_trans (b := 1000) h2 (by decide), fun j j0 j1 => ⟨j, rfl, j0, j1⟩⟩)
    by_cases gm : g = "m"
    · refine ev_ret (K := K) (fun d => ∃ z, d = .str z ∧ WordOk z) (0 + (0 + 1)) rG (show _ ≤ 1000000 by omega) (ev_ifF ?_ (PK (D5 5 (by decide) (by decide)))) fun H' v d k' r' hd pd => q H' v d ((Keeps.same sm).trans (kG.trans k')) (r'.up (by omega)) hd pd
      have e := ev_neSX (K := K) (S := S) (a := some a) (σ := [some (.ref a), some (.str g), some (.ref p), some (.ref l)]) (H0 := G) (m1 := 0) (m2 := 0) (x := g) (y := "m") (ev_var (i := 1) rfl (.str g) rfl) (ev_str rfl)
      rw [decide_eq_true gm] at e
      exact e
    · refine ev_ret (K := K) (fun d => ∃ z, d = .str z ∧ WordOk z) (0 + ((0 + 1) + (0 + 1))) rG (show _ ≤ 1000000 by omega) (ev_ifT ?_ (PK (ev_min2I (D5 5 (by decide) (by decide)) (D5 8 (by decide) (by decide)) fun k k0 k1 => ⟨k, rfl, k0, k1⟩))) fun H' v d k' r' hd pd => q H' v d ((Keeps.same sm).trans (kG.trans k')) (r'.up (by omega)) hd pd
      have e := ev_neSX (K := K) (S := S) (a := some a) (σ := [some (.ref a), some (.str g), some (.ref p), some (.ref l)]) (H0 := G) (m1 := 0) (m2 := 0) (x := g) (y := "m") (ev_var (i := 1) rfl (.str g) rfl) (ev_str rfl)
      rw [decide_eq_false gm] at e
      exact e
  | false =>
    rw [if_neg Bool.false_ne_true]
    have hg := hf
    generalize f = g at hg ⊢
    have kG := k5
    have rG : Rn S (some a) (n + 2) H5 := r5.up (by omega)
    generalize H5 = G at kG rG ⊢
    show tSeq _ _ _ _ _
    obtain ⟨l, ms, hval, hl, h5, hms, nl⟩ := look g hg
    have gp := kG.at (one_no (no_a r np)) ep4
    have gl := kG.at (one_no (no_a r nl)) hl
    refine ⟨.ref p, rfl, .str g, rfl, p, .ref l, rfl, by rw [← hval]; exact DGet.k (k := .inr g) gp, ?_⟩
    dsimp only [gName, List.set]
    have sl : S l = false := r.th.new nl
    have dl : Df K (hid S G) (.ref l) (.list (ms.map PyData.str)) := .lst (.inl (.inl (by rw [hid_at sl]; exact gl))) dp_ofStrs
    have PK : ∀ {te : TE} {m : Nat}, Ev K S (some a) [some (.ref a), some (.str g), some (.ref p), some (.ref l)] G te m (fun e => ∃ i : Int, e = .int i ∧ 0 ≤ i ∧ i < 5) → Ev K S (some a) [some (.ref a), some (.str g), some (.ref p), some (.ref l)] G (tOp (rIxL K) (tVar 3) te) (0 + m) (fun d => ∃ z, d = .str z ∧ WordOk z) := fun {te m} h => ev_pick (k := 5) (ev_var (i := 3) rfl dl ⟨_, rfl, by rw [List.length_map]; exact h5, fun e he => by obtain ⟨z, hz, rfl⟩ := List.mem_map.mp he; exact ⟨z, rfl, hms z hz⟩⟩) h
    have D5 : ∀ {G : Hp} (N : Int), 1 ≤ N → N < 1000 → Ev K S (some a) [some (.ref a), some (.str g), some (.ref p), some (.ref l)] G (tCall spDraw [] E0 (tCons (tVar 0) (tCons (tC (.int N)) tNil))) (0 + 1) (fun e => ∃ i : Int, e = .int i ∧ 0 ≤ i ∧ i < N) := fun N h1 h2 => ev_draw (m := 0) (p := (· = N)) rfl (ev_int ⟨_, rfl, rfl⟩) (fun k e => by subst e; exact ⟨h1, Int.lt_trans (b := 1000) h2 (by decide), fun j j0 j1 => ⟨j, rfl, j0, j1⟩⟩)
    by_cases gm : g = "m"
    · refine ev_ret (K := K) (fun d => ∃ z, d = .str z ∧ WordOk z) (0 + (0 + 1)) rG (show _ ≤ 1000000 by omega) (ev_ifF ?_ (PK (D5 5 (by decide) (by decide)))) fun H' v d k' r' hd pd => q H' v d ((Keeps.same sm).trans (kG.trans k')) (r'.up (by omega)) hd pd
      have e := ev_neSX (K := K) (S := S) (a := some a) (σ := [some (.ref a), some (.str g), some (.ref p), some (.ref l)]) (H0 := G) (m1 := 0) (m2 := 0) (x := g) (y := "m") (ev_var (i := 1) rfl (.str g) rfl) (ev_str rfl)
      rw [decide_eq_true gm] at e
      exact e
    · refine ev_ret (K := K) (fun d => ∃ z, d = .str z ∧ WordOk z) (0 + ((0 + 1) + (0 + 1))) rG (show _ ≤ 1000000 by omega) (ev_ifT ?_ (PK (ev_min2I (D5 5 (by decide) (by decide)) (D5 8 (by decide) (by decide)) fun k k0 k1 => ⟨k, rfl, k0, k1⟩))) fun H' v d k' r' hd pd => q H' v d ((Keeps.same sm).trans (kG.trans k')) (r'.up (by omega)) hd pd
      have e := ev_neSX (K := K) (S := S) (a := some a) (σ := [some (.ref a), some (.str g), some (.ref p), some (.ref l)]) (H0 := G) (m1 := 0) (m2 := 0) (x := g) (y := "m") (ev_var (i := 1) rfl (.str g) rfl) (ev_str rfl)
      rw [decide_eq_false gm] at e
      exact e
end

section
variable {P : Program} {w : World} {K : PySem.W.Frag} {mg : Str → Option Value} {base : Heap}
/-! #### lines -/
def WS (ws : List Str) : Prop := ∀ w ∈ ws, w.length ≤ 64 ∧ tidy w = true ∧ 32 ∉ TL.tl w
def WL (n : Nat) (d : PyData) : Prop := ∃ ws : List Str, d = .list (ws.map PyData.str) ∧ WS ws ∧ ws.length ≤ n
/-- a line as it is bent and read: n words at most -/
def LineOk (n : Nat) (x : Str) : Prop := x.length ≤ 80000 ∧ tidy x = true ∧ (wordsL x).length ≤ n ∧ ∀ w ∈ wordsL x, w.length ≤ 64 ∧ tidy w = true
theorem LineOk.words {n : Nat} {x : Str} (h : LineOk n x) (hn : n ≤ 1000) : Words (wordsL x) := ⟨Nat.le_trans h.2.2.1 hn, h.2.2.2⟩
theorem lineOk_join {n : Nat} {ws : List Str} (h : WS ws) (l : ws.length ≤ n) (hn : n ≤ 1000) : LineOk n (Txt.join spc ws) := by
  have h1 := StrLaws.join_length_le spc ws
  have h2 := StrLaws.sumLen_le (B := 64) ws fun w hw => (h w hw).1
  rw [show spc.length = 1 by decide +kernel] at h1
  refine ⟨by rw [TL.join_eq]; omega, tidy_iff.mpr fun c hc => ?_, ?_⟩
  · have hc : c ∈ TL.tl (Txt.join spc ws) := hc
    rw [TL.join_eq, TL.tl_join, tl_spc] at hc
    rcases mem_joinL hc with z | ⟨p, hp, z⟩
    · rw [List.mem_singleton.mp z]
      decide
    · obtain ⟨w, hw, rfl⟩ := List.mem_map.mp hp
      exact tidy_iff.mp (h w hw).2.1 c z
  · by_cases hx : Txt.join spc ws = ""
    · have e : wordsL (Txt.join spc ws) = [] := if_pos hx
      rw [e]
      exact ⟨Nat.zero_le _, fun w hw => absurd hw List.not_mem_nil⟩
    · have e : wordsL (Txt.join spc ws) = Txt.split (Txt.join spc ws) spc := if_neg hx
      have ne : ws ≠ [] := fun z => hx (by rw [z]; decide +kernel)
      rw [e, words_join ne fun w hw => (h w hw).2.2]
      exact ⟨l, fun w hw => ⟨(h w hw).1, (h w hw).2.1⟩⟩
section
variable {S : Addr → Bool} {a : Option Addr} {σ : L2.St} {H0 : Hp} {te ta tb : TE} {tl th : TO} {m m1 m2 m3 i j : Nat} {p1 p2 : Option Int → Prop}
theorem ev_catWL (ha : Ev K S a σ H0 ta m1 (WL i)) (hb : Ev K S a σ H0 tb m2 (WL j)) (few : i + j ≤ 10000) : Ev K S a σ H0 (tOp (rCatQ K) ta tb) (m1 + m2) (WL (i + j)) :=
  ev_catL ha hb fun d e ⟨ws, e1, h1, l1⟩ ⟨us, e2, h2, l2⟩ => ⟨ws.map PyData.str, us.map PyData.str, e1, e2, by rw [List.length_map, List.length_map]; omega, ws ++ us, by rw [List.map_append], fun w hw => (List.mem_append.mp hw).elim (h1 w) (h2 w), by rw [List.length_append]; omega⟩
theorem cutD_map (ws : List Str) (lo hi : Option Int) : DD.cutD (ws.map PyData.str) lo hi = (((ws.drop (HT.sIx ws.length 0 lo)).take (HT.sIx ws.length ws.length hi - HT.sIx ws.length 0 lo)).map PyData.str) := by
  unfold DD.cutD
  rw [List.length_map, List.map_take, List.map_drop]
theorem ev_cutWL (h : Ev K S a σ H0 te m1 (WL i)) (hl : EvO K S a σ H0 tl m2 p1) (hh : EvO K S a σ H0 th m3 p2) : Ev K S a σ H0 (tSl (rSlL K) te tl th) (m1 + m2 + m3) (WL i) :=
  ev_cutL h hl hh fun d lo hi ⟨ws, e, hw, l⟩ _ _ => ⟨_, e, _, congrArg PyData.list (cutD_map ws lo hi), fun w h' => hw w (List.mem_of_mem_drop (List.mem_of_mem_take h')), by rw [List.length_take, List.length_drop]; omega⟩
theorem ev_revWL (h : Ev K S a σ H0 te m (WL i)) : Ev K S a σ H0 (tRevL K te) m (WL i) := by
  intro H n Q k r b q
  refine h H n _ k r b fun H1 x d k1 r1 hd ⟨ws, e, hw, l⟩ => ?_
  subst e
  obtain ⟨y, vs, rfl, hL, hv⟩ := Df.lst_inv hd
  refine ⟨y, vs, rfl, Same.seq hid_same hL, fun p np => q _ _ _ (k1.trans (Keeps.new np)) (r1.same (same_new np)) (Df.newL (DfAll.rev hv) np (r1.th.new np)) ⟨ws.reverse, by rw [List.map_reverse], fun w h' => hw w (List.mem_reverse.mp h'), by rw [List.length_reverse]; exact l⟩⟩
theorem ev_joinWL (h : Ev K S a σ H0 te m (WL i)) (few : i ≤ 1000) : Ev K S a σ H0 (tM1 (rJoinQ K) (tC (.str " ")) te) m (fun d => ∃ x, d = .str x ∧ LineOk i x) :=
  ev_joinS h fun d ⟨ws, e, hw, l⟩ => ⟨ws, e, by
    have h2 := StrLaws.sumLen_le (B := 64) ws fun w h' => (hw w h').1
    rw [show spc.length = 1 by decide +kernel]
    omega, _, rfl, lineOk_join hw l few⟩
theorem LineOk.up {i j : Nat} {x : Str} (h : LineOk i x) (ij : i ≤ j) : LineOk j x := ⟨h.1, h.2.1, Nat.le_trans h.2.2.1 ij, h.2.2.2⟩
end
end

section
variable {P : Program} {w : World} {K : PySem.W.Frag} {mg : Str → Option Value} {base : Heap}
theorem strs_of_all {ds : List PyData} {p : Str → Prop} (h : ∀ e ∈ ds, ∃ w, e = .str w ∧ p w) : ∃ ws : List Str, ds = ws.map PyData.str ∧ ∀ w ∈ ws, p w := by
  induction ds with
  | nil => exact ⟨[], rfl, fun w h => absurd h List.not_mem_nil⟩
  | cons d ds ih =>
    obtain ⟨ws, e, hw⟩ := ih fun e he => h e (List.mem_cons_of_mem _ he)
    obtain ⟨w, e1, hp⟩ := h d List.mem_cons_self
    refine ⟨w :: ws, by rw [e, e1]; rfl, fun z hz => ?_⟩
    rcases List.mem_cons.mp hz with rfl | hz
    · exact hp
    · exact hw z hz
/-! #### a line drawn -/
section
variable {S : Addr → Bool} {a : Option Addr} {σ : L2.St} {tn te : TE} {m : Nat}
theorem ev_setSF {u : TS} {E : Ends} {vs : List Nat} {slot n i j L : Nat} {H : Hp} {Ps : Str → Prop} {Pe : PyData → Prop} (r : Rn S a n H) (b : n + (m + L * j) ≤ most) (hn : Ev K S a σ H tn m fun d => ∃ s, d = .str s ∧ Ps s) (hw : ∀ x, wipe ((wipe σ vs).set slot (some x)) vs = wipe σ vs) (few : ∀ s, Ps s → s.length ≤ L) (hL : L ≤ 100000)
    (he : ∀ s, Ps s → ∀ D H1, ∀ (i : Nat) (c : Nat), s.cps[i]? = some c → Ev K (plusA S D) a ((wipe σ vs).set slot (some (.str ⟨#[c]⟩))) H1 te j Pe)
    (q : ∀ H' D xs ds, H D = none → Keeps (one a) H H' → Rn (plusA S D) a (n + (m + L * j)) H' → H' D = some (.lst xs) → DfAll K (hid (plusA S D) H') xs ds → ds.length ≤ L → (∀ e ∈ ds, Pe e) → u E (σ.set i (some (.ref D))) H') :
    tSeq (tAsg (tLc (iStr tn) (gName slot) tYes te vs) (gName i)) u E σ H := by
  show tLc (iStr tn) (gName slot) tYes te vs σ H (fun v H' => u E (σ.set i (some v)) H')
  refine hn H n _ Keeps.rfl r (by omega) fun H1 x d k1 r1 hd ⟨s, e, hs⟩ => ?_
  subst e
  cases hd
  have fs := few s hs
  have lm : s.length * j ≤ L * j := Nat.mul_le_mul_right _ fs
  refine ⟨s, rfl, ?_⟩
  refine lc_evF (K := K) (Q := fun v H' => u E (σ.set i (some v)) H') (S := S) (a := a) (m := j) (n := n + m) (P := fun _ => Pe) (X := fun i x => ∃ c, s.cps[i]? = some c ∧ x = .str ⟨#[c]⟩) (walk_str (z := s)) rfl hw r1 (by show n + m + s.length * j ≤ most; omega) (Nat.le_trans fs hL) (fun _ _ _ _ => trivial) (fun D hD i x hi hx => ?_) (fun H' D xs ds hD kk rr e1 hds hl hp => ?_)
  · obtain ⟨c, hc, rfl⟩ := hx
    exact he s hs D _ i c hc
  · have hl : ds.length = s.length := hl
    have rr : Rn (plusA S D) a (n + m + s.length * j) H' := rr
    exact q H' D xs ds (by
      cases hz : H D with
      | none => rfl
      | some o =>
        rw [k1.at (one_no (no_a r1 hD)) hz] at hD
        cases hD) (k1.trans kk) (rr.up (by omega)) e1 hds (by omega) fun e he' => by
      obtain ⟨i, hi, rfl⟩ := List.mem_iff_getElem.mp he'
      exact hp i _ (List.getElem?_eq_getElem hi)
end
def LinePre (ds : List PyData) : Prop := ds = []
def LinePost (_ : List PyData) (d : PyData) : Prop := ∃ x : Str, d = .str x ∧ LineOk 12 x
abbrev fLines : List Str := ["kniadiadmmm", "kniadiad", "kniadaa", "kniad", "iad", "mmmmmm"]
set_option maxHeartbeats 4000000 in
theorem ok_law_line (T : Top K mg) : FnOk P w K mg base CX0 3 T.a__law_line T.d__law_line ["_law_source_here"] (spRng K 47 LinePre LinePost) := by
  have G__law_draw : FnOk P w K mg base CX0 1 T.a__law_draw T.d__law_draw ["_law_source_here", "_law_many"] spDraw := ok_draw T
  have G__law_word : FnOk P w K mg base CX0 2 T.a__law_word T.d__law_word ["_law_source_here", "_law_form"] (spRng K 4 WordPre WordPost) := ok_law_word T
  refine T.F__law_line.ok sc__law_line (spRng_len fun ds e => by rw [show ds = [] from e]; rfl) (fun cdv A0 outer s0 H vs Q E hr h => ?_)
  obtain ⟨a, S, ws0, ds, n, rfl, r, few, hw, hds, q⟩ := h
  obtain rfl : ds = [] := hds
  have e0 := DfAll.n hw
  subst e0
  have hr1 : Room 1 _ := hr.mono (by decide)
  have few' : n + 47 ≤ 1000000 := few
  refine ⟨_, (pss_cons (ps_set (i := 1) sc__law_line.nd rfl (.inl rfl) (pe_ix ix_list (pe_lst (pa_cons pe_str (pa_cons pe_str (pa_cons pe_str (pa_cons pe_str (pa_cons pe_str (pa_cons pe_str pa_nil))))))) (pe_call G__law_draw hr1 (by rfl) T.m__law_draw T.F__law_draw.kp T.b__law_draw .nil pass0 (pa_cons (pv 0) (pa_cons pe_int pa_nil))) (fun _ _ => rfl))) (pss_cons (ps_setLc (i := 2) (own := [("_law_form", 3)]) (g := gName 3) (tt := tYes) (by rfl) sc__law_line.nd rfl rfl (by rfl) (pi_str (pe_slice sl_str (pv 1) po_none (po_some (pe_op op_sub (pe_callB call_len_str (by rfl) T.n_len PySem.boot_len (pa_cons (pv 1) pa_nil)) (pe_call G__law_draw hr1 (by rfl) T.m__law_draw T.F__law_draw.kp T.b__law_draw .nil pass0 (pa_cons (pv 0) (pa_cons pe_int pa_nil))))))) (blkOk_by (own := [("_law_form", 3)]) (N := ["_law_source_here", "_law_forms", "_law_words", "_law_form"]) (sc := defScope s__law_line) (by decide +kernel)) (fun _ _ _ _ _ => (pg_name (i := 3) sc__law_line.nd rfl (.inl rfl))) (fun _ _ _ _ _ => pts_nil) (fun _ _ _ _ _ => (pe_call G__law_word hr (by rfl) T.m__law_word T.F__law_word.kp T.b__law_word .nil pass0 (pa_cons (pv 0) (pa_cons (pv 3) pa_nil))))) (pss_cons (ps_if (pt_cmpR op_eq (pe_call G__law_draw hr1 (by rfl) T.m__law_draw T.F__law_draw.kp T.b__law_draw .nil pass0 (pa_cons (pv 0) (pa_cons pe_int pa_nil))) pe_int (by rfl)) (pss_one (ps_expr (pe_bm PySem.F.plainAttrs_list PySem.F.slot_list_append PySem.F.type_list_append mt_append (pv 2) (pa_cons pe_str pa_nil)))) pss_nil) (pss_one (ps_ret (pe_join pe_str (pv 2))))))), ?_⟩
  refine ev_set (K := K) (fun d => ∃ f : Str, d = .str f ∧ f ∈ fLines) (0 + (0 + 1)) r (show _ ≤ 1000000 by omega) ?_ fun H1 vf df k1 r1 hf ⟨f, ef, hfl⟩ => ?_
  · refine ev_pick (k := 6) (m1 := 0) (m2 := 0 + 1) (P := fun d => ∃ f : Str, d = .str f ∧ f ∈ fLines) (Ev.mono (ev_l (ds := fLines.map PyData.str) (eva_c (ev_str rfl) (eva_c (ev_str rfl) (eva_c (ev_str rfl) (eva_c (ev_str rfl) (eva_c (ev_str rfl) (eva_c (ev_str rfl) eva_n)))))) (by decide)) fun d e => ⟨_, e, rfl, fun x hx => by obtain ⟨z, hz, rfl⟩ := List.mem_map.mp hx; exact ⟨z, rfl, hz⟩⟩) (ev_draw (m := 0) (p := (· = 6)) rfl (ev_int ⟨_, rfl, rfl⟩) (fun k e => by subst e; exact ⟨by decide, Int.lt_trans (b := 100) (by decide) (by decide), fun j j0 j1 => ⟨j, rfl, j0, j1⟩⟩))
  subst ef
  cases hf
  dsimp only [List.set]
  have l11 : f.length ≤ 11 ∧ ∀ c ∈ TL.tl f, (⟨#[c]⟩ : Str) ∈ letters := by
    have : ∀ f ∈ fLines, f.length ≤ 11 ∧ ∀ c ∈ TL.tl f, (⟨#[c]⟩ : Str) ∈ letters := by decide +kernel
    exact this f hfl
  refine ev_setSF (K := K) (m := 0 + 0 + (0 + (0 + 1))) (j := 4) (L := 11) (Ps := fun s => s.length ≤ 11 ∧ ∀ c ∈ TL.tl s, (⟨#[c]⟩ : Str) ∈ letters) (Pe := fun d => ∃ z : Str, d = .str z ∧ WordOk z) r1 (show _ ≤ 1000000 by omega) ?_ (fun _ => rfl) (fun s hs => hs.1) (by decide) (fun s hs D G i c hc => ?_) fun H2 D xs ds nD k2 r2 eD hds2 hl2 hp2 => ?_
  · refine ev_cutS (P1 := (· = .str f)) (p1 := (· = none)) (p2 := fun _ => True) (ev_var (i := 1) rfl (.str f) rfl) evo_none ?_ (fun d lo hi e _ _ => ⟨f, e, by omega, _, rfl, ?_, fun c hc => ?_⟩)
    · intro G n' Q' k' r' b' q'
      refine evo_some (K := K) (p := fun _ => True) (ev_ints (m1 := 0) (m2 := 0 + 1) (f := fun i j => i - j) (p1 := fun _ => True) (p2 := fun _ => True) (Ev.mono (ev_lenSX (x := f) (eva_c (ev_var (i := 1) rfl (.str f) rfl) eva_n) (by omega)) fun d e => ⟨_, e, trivial⟩) (ev_draw (m := 0) (p := (· = 2)) rfl (ev_int ⟨_, rfl, rfl⟩) (fun k e => by subst e; exact ⟨by decide, Int.lt_trans (b := 100) (by decide) (by decide), fun j j0 j1 => ⟨j, rfl, trivial⟩⟩)) (fun i j _ _ => ⟨_, rfl, trivial⟩)) G n' Q' k' r' b' fun H' o k'' r'' _ => q' H' o k'' r'' trivial
    · rw [TL.len_tl, tl_cutS, List.length_take, List.length_drop]
      have := TL.len_tl f
      omega
    · rw [tl_cutS] at hc
      exact l11.2 c (List.mem_of_mem_drop (List.mem_of_mem_take hc))
  · have hm : c ∈ TL.tl s := by
      have : (TL.tl s)[i]? = some c := by rw [Array.getElem?_toList]; exact hc
      exact List.mem_of_getElem? this
    exact ev_rng (m1 := 0) (m := 4) (R := (· = [.str ⟨#[c]⟩])) rfl (eva_c (ev_var (i := 3) rfl (.str _) rfl) eva_n) (fun l e => ⟨_, e, hs.2 c hm⟩) (fun l d e hp => hp)
  have sD : S D = false := r1.th.new nD
  have aD : some a ≠ some D := no_a r1 nD
  obtain ⟨ws, rfl, hws⟩ := strs_of_all hp2
  obtain rfl := dp_strs hds2
  rw [List.length_map] at hl2
  have rS : ∀ {N : Nat} {G : Hp}, Rn (plusA S D) (some a) N G → Rn S (some a) N G := fun rr => ⟨r.sa, fun b hb => rr.th b (by show (S b || decide (b = D)) = true; rw [hb]; rfl), rr.src⟩
  have fin : ∀ (us : List Str) (G : Hp), us.length ≤ 12 → (∀ z ∈ us, WordOk z) → Keeps (one (some a)) H G → Rn (plusA S D) (some a) (n + 47) G → G D = some (.lst (us.map V.str)) → tRet (tM1 (rJoinQ K) (tC (.str " ")) (tVar 2)) { nx := fun x H' => Q V.non H', rt := Q } [some (.ref a), some (.str f), some (.ref D), none] G := fun us G lu hu kG rG eG => by
    have dL : Df K (hid S G) (.ref D) (.list (us.map PyData.str)) := .lst (.inl (.inl (by rw [hid_at sD]; exact eG))) dp_ofStrs
    refine ev_ret (K := K) (S := S) (a := some a) (fun d => ∃ x, d = .str x ∧ LineOk 12 x) 0 (rS rG) (show _ ≤ 1000000 by omega) (ev_joinWL (i := 12) (ev_var (i := 2) rfl dL ⟨us, rfl, hu, lu⟩) (by decide)) fun H' v d k' r' hd pd => q H' v d (kG.trans k') r' hd pd
  have k12 := k1.trans k2
  refine if_ev (K := K) (m := 0 + 1 + 0) r2 (show _ ≤ 1000000 by omega) (ev_eqIx (q1 := fun _ => True) (q2 := (· = 0)) (ev_draw (m := 0) (p := (· = 8)) rfl (ev_int ⟨_, rfl, rfl⟩) (fun k e => by subst e; exact ⟨by decide, Int.lt_trans (b := 100) (by decide) (by decide), fun j j0 j1 => ⟨j, rfl, trivial⟩⟩)) (ev_int ⟨_, rfl, rfl⟩) (fun x y _ _ => ⟨_, rfl⟩)) fun b H3 k3 r3 => ?_
  have eD3 := k3.at (one_no aD) eD
  cases b with
  | true =>
    rw [if_pos rfl]
    refine ev_append (K := K) (S := plusA S D) (a := some a) (P := (· = .str "x")) (i := 2) rfl eD3 aD (by rw [List.length_map]; omega) 0 r3 (show _ ≤ 1000000 by omega) (ev_str rfl) fun H4 v4 d4 k4 r4 eD4 hd4 e4 => ?_
    subst e4
    cases hd4
    refine fin (ws ++ [("x" : Str)]) _ (by rw [List.length_append, List.length_singleton]; omega) (fun z hz => ?_) (k1.trans (keeps_upd (k2.trans (k3.trans k4)) nD)) (r4.up (by omega)) (by rw [upd_same, List.map_append]; rfl)
    rcases List.mem_append.mp hz with hz | hz
    · exact hws z hz
    · rw [List.mem_singleton.mp hz]
      decide +kernel
  | false =>
    rw [if_neg Bool.false_ne_true]
    exact fin ws H3 (by omega) hws (k12.trans k3) (r3.up (by omega)) eD3
end

section
variable {P : Program} {w : World} {K : PySem.W.Frag} {mg : Str → Option Value} {base : Heap}
/-! #### told -/
abbrev qL : Str := Str.ofString "law" ++ ".<locals>." ++ "<lambda>"
def T1 (T : Top K mg) : List (Addr × Str) := [(T.P_law, qL)]
theorem mem_law (T : Top K mg) : (T.P_law, qL) ∈ T1 T := List.mem_singleton.mpr rfl
theorem hu_law (T : Top K mg) : ∀ p ∈ T1 T, p.1 = T.P_law → p.2 = qL := fun p hp e => by rw [List.mem_singleton.mp hp]
def toldP (K : PySem.W.Frag) (CT : Addr) (cls : Value) (d : Option Addr) (Q : VK) (H : Hp) : Prop := ∃ (dd : Addr) (i : Int), d = some dd ∧ cls = .ref CT ∧ H dd = some (.xd [("place", .int i)]) ∧ ∀ H2 u, Same H H2 → Df K H2 u (.tuple [.str "place", .int i]) → Q u H2
def TTo (K : PySem.W.Frag) (CT : Addr) : (XK → Hp → VK → Prop) → Hp → VK → Prop := fun tl H Q => tl (fun cls d H' => toldP K CT cls d Q H') H (kNone Q)
theorem told_gives1 {X : Cx} (T : Top X.K X.mg) {q : Str} {cdg : Value} : LamX.GivesTo X ["_law_call", "e"] "_law_told" (defScope s__law_told) T.a__law_told cdg (defBody s__law_told) "_law_call" q (TTo X.K T.C_NoText) := by
  intro f c' s H Q tl act hc h
  refine ⟨_, pss_one (ps_try_or (i := 1) (tb := fun W D σ H => ∃ Ech : XK, (∀ cls d σ' H', σ'.length = 2 → Ech cls d H' → W cls d σ' H') ∧ σ[0]? = some (some (.ref f)) ∧ H c' = some (LamX.CodeO c' q) ∧ tl Ech H (kNone D.rt)) (Wo := fun _ _ _ _ => False)
    (l := [(.ref T.C_NoText, (fun a cls d => tRet (tTupF (tCons (tC (.str "place")) (tCons (tXf a cls d T.C_NoText "place" (tVar 1)) tNil)))))]) rfl rfl sc__law_told.nd rfl rfl L2.takes0 (fun W pn xe tk _ => ?_)
    (.cons ⟨by rfl, by decide, .inl T.X_NoText.g⟩ (fun ea eo cl dd pn hz hf => pss_one (ps_ret (pe_tupF (pa_cons pe_str (pa_cons (pe_xf T.X_NoText.xf T.X_NoText.no hz hf (pv 1)) pa_nil))))) .nil)), ?_⟩
  · refine ⟨fun pins s' σ H' D I h' => ?_⟩
    obtain ⟨Ech, hW, h1, h2, h3⟩ := h'
    have hp := fun p1 p2 => act (fun cls d σ' H' => σ'.length = 2 → W cls d σ' H') pn xe Ech p1 p2 (takes_len tk rfl) (fun cls d σ' H' e l => hW cls d σ' H' l e)
    exact (pss_one (ps_ret (pe_tupF (pa_cons pe_str (pa_cons (hp _ _) pa_nil))))).run pins s' σ H' D I ⟨h1, h2, h3⟩
  · refine ⟨_, fun cls d σ' H' l e => ?_, rfl, hc, h⟩
    obtain ⟨y0, y1, rfl⟩ : ∃ y0 y1, σ' = [y0, y1] := by
      match σ', l with
      | [y0, y1], _ => exact ⟨y0, y1, rfl⟩
    obtain ⟨dd, i, rfl, rfl, hdd, fin⟩ := e
    refine ⟨true, T.X_NoText.te, fun _ a0 ha0 => ?_, fun z => nomatch z⟩
    refine ⟨.ref a0, rfl, rfl, rfl, dd, _, .int i, rfl, hdd, lookup_one _ _, Nat.le_trans (show _ ≤ 1000000 by exact (by decide : 2 ≤ 1000000)) line20, fun p o np ho => ?_⟩
    exact fin _ _ (same_new np) (.tup ⟨o, ho, .inl upd_same⟩ (.cons (.str _) (.cons (.int _) .nil)))
def toldG (R : Str → Nat ⊕ PyData) (x : Str) : PyData := match R x with
  | .inl k => .tuple [.str "place", .int (k : Nat)]
  | .inr d => .tuple [.str "none", d]
theorem read_told {T' : List (Addr × Str)} {CT : Addr} {R : Str → Nat ⊕ PyData} {H1 : Hp} {Q : VK} {x : Str} (hx : LineOk 1000 x) (t1 : LamX.Tabs T' H1) (kQ : ∀ H2 u, LamX.ExtN H1 H2 → LamX.Tabs T' H2 → Df K H2 u (toldG R x) → Q u H2) :
    spReadG K CT R [.str x] H1 (kNone Q) (fun cls d H' => toldP K CT cls d Q H') := by
  refine ⟨.str x, .str x, rfl, .str x, ⟨hx.2.1, by show 10 * x.length + 4 ≤ 900000; have := hx.1; omega, Nat.zero_le _⟩, fun y e => by cases e; exact hx.words (Nat.le_refl _), fun y z e hr H' v' s hv => ?_, fun y k e hk H' dd s hdd => ?_, fun z => nomatch z⟩
  · cases e
    refine ⟨Nat.le_trans (show _ ≤ 1000000 by exact (by decide : 2 ≤ 1000000)) line20, fun p o np ho => kQ _ _ (ext_same (s.trans (same_new np))) (tabs_same t1 (s.trans (same_new np))) ?_⟩
    unfold toldG
    rw [hr]
    exact .tup ⟨o, ho, .inl upd_same⟩ (.cons (.str _) (.cons (Df.to hv (same_new np)) .nil))
  · cases e
    refine ⟨dd, ((k : Nat) : Int), rfl, rfl, upd_same, fun H2 u s2 hu => kQ H2 u (ext_same (s.trans ((same_new hdd).trans s2))) (tabs_same t1 (s.trans ((same_new hdd).trans s2))) ?_⟩
    unfold toldG
    rw [hk]
    exact hu
theorem due_told (x : Str) : dueK x = toldG readKL x := by
  unfold dueK toldG readKL
  cases placeK (wordsL x) with
  | some k => rfl
  | none =>
    dsimp only
    by_cases h : isDecree (decD (wordsL x)) = true
    · rw [if_pos h, if_pos h]
    · rw [if_neg h, if_neg h]
/-- found != due or found[0] == "none" and show(found[1]) != line: not so -/
theorem test_told {σ : L2.St} {H : Hp} {te tsh : TE} {u : V} {R : Str → Nat ⊕ PyData} {x : Str} (hu : Df K H u (toldG R x)) (h5 : σ[5]? = some (some u)) (h8 : σ[8]? = some (some (.str x))) (sh : SeqAt.shaped (toldG R x) = true) (eq : PyData.eqv (toldG R x) (toldG R x) = true) (due : Ev K noS none σ H te 0 (· = toldG R x)) (shw : ∀ y, R x = .inr y → Ev K noS none σ H tsh 0 (· = .str x)) :
    EvB σ H (tOr (tB (tOp (rNeD K) (tVar 5) te)) (tAnd (tB (tOp rEq (tOp (rIxT K) (tVar 5) (tC (.int 0))) (tC (.str "none")))) (tB (tOp rNe tsh (tVar 8))))) false := by
  have n1 : EvB σ H (tB (tOp (rNeD K) (tVar 5) te)) false := by
    have e := evb_val (K := K) (m := 0) (ev_neD (m1 := 0) (m2 := 0) (ev_var (i := 5) h5 (dp_no hu) rfl) due sh sh) (Nat.zero_le _)
    rw [eq] at e
    exact e
  refine evb_or (b1 := false) (b2 := false) n1 fun _ => ?_
  cases hR : R x with
  | inl k =>
    have ht : toldG R x = .tuple [.str "place", .int ((k : Nat) : Int)] := by unfold toldG; rw [hR]
    rw [ht] at hu
    exact evb_and (b1 := false) (b2 := true) (evb_val (K := K) (m := 0) (ev_eqS (m1 := 0) (m2 := 0) (x := "place") (y := "none") (ev_ixTX (m1 := 0) (m2 := 0) (ev_var (i := 5) h5 (dp_no hu) rfl) (ev_int (i := 0) rfl) rfl) (ev_str rfl) (by rw [decide_eq_false (by decide +kernel)])) (Nat.zero_le _)) (fun z => nomatch z)
  | inr y =>
    have ht : toldG R x = .tuple [.str "none", y] := by unfold toldG; rw [hR]
    rw [ht] at hu
    refine evb_and (b1 := true) (b2 := false) (evb_val (K := K) (m := 0) (ev_eqS (m1 := 0) (m2 := 0) (x := "none") (y := "none") (ev_ixTX (m1 := 0) (m2 := 0) (ev_var (i := 5) h5 (dp_no hu) rfl) (ev_int (i := 0) rfl) rfl) (ev_str rfl) (by rw [decide_eq_true rfl])) (Nat.zero_le _)) fun _ => ?_
    have e := evb_val (K := K) (m := 0) (ev_neSX (m1 := 0) (m2 := 0) (x := x) (y := x) (shw y hR) (ev_var (i := 8) h8 (.str x) rfl)) (Nat.zero_le _)
    rw [decide_eq_true rfl] at e
    exact e
theorem ev_callDue {σ : L2.St} {H0 : Hp} {tr : TA} {x : Str} {E : XK} (h : EvA K noS none σ H0 tr 0 (· = [.str x])) (fx : x.length ≤ 100000) (hW : Words (wordsL x)) : Ev K noS none σ H0 (tCall (spDue K) [] E tr) 0 (· = toldG readKL x) := by
  intro H n Q k r' b q
  refine h H n _ k r' b fun H1 vs ds k1 r1 hd e => ?_
  subst e
  obtain ⟨v, _, rfl, h1, h2⟩ := DfAll.c hd
  obtain rfl := DfAll.n h2
  cases h1
  exact ⟨x, rfl, fx, hW, fun H2 u s hu => q H2 _ _ (k1.trans (Keeps.same s)) (r1.same s) (dp_no hu) (due_told x)⟩
theorem ev_callSK {σ : L2.St} {H0 : Hp} {tr : TA} {ws : List Str} {E : XK} (h : EvA K noS none σ H0 tr 0 (· = [decD ws])) (hW : Words ws) (hp : placeK ws = none) (hD : isDecree (decD ws) = true) : Ev K noS none σ H0 (tCall (spSK K) [] E tr) 0 (· = .str (Txt.join spc ws)) := by
  intro H n Q k r' b q
  refine h H n _ k r' b fun H1 vs ds k1 r1 hd e => ?_
  subst e
  obtain ⟨v, _, rfl, h1, h2⟩ := DfAll.c hd
  obtain rfl := DfAll.n h2
  exact ⟨v, ws, rfl, no_dp h1, hW, hp, hD, fun H2 s => q H2 _ _ (k1.trans (Keeps.same s)) (r1.same s) (.str _) rfl⟩
theorem sh_of {d : PyData} (h1 : fine d = true) (h2 : d.depth ≤ 60) : SeqAt.shaped d = true ∧ PyData.eqv d d = true := ⟨shaped_of h1 h2, SeqAt.eqv_refl d (lay_of d h1)⟩
end

section
variable {P : Program} {w : World} {K : PySem.W.Frag} {mg : Str → Option Value} {base : Heap}
/-! #### the law -/
def spLaw {K : PySem.W.Frag} {mg : Str → Option Value} (T : Top K mg) : Sp := fun vs H Q _ => ∃ (a : Addr) (ns : List Int), vs = [.ref a] ∧ SqL K H a (ns.map V.int) ∧ ns.length ≤ 63 ∧ H T.P_law = some (.tbl #[]) ∧ ∀ H', Q (.bl true) H'
theorem placeF_lt : ∀ {fs : List (Str → Bool)} {k j : Nat} {ws : List Str}, placeF fs k ws = some j → j ≤ k + fs.length
  | [], _, _, _, h => nomatch h
  | f :: fs, k, j, ws, h => by
    unfold placeF at h
    rw [List.length_cons]
    cases e : ws[k]? with
    | none => rw [e] at h; cases h; omega
    | some w =>
      rw [e] at h
      dsimp only at h
      by_cases hf : f w = true
      · rw [if_pos hf] at h
        have := placeF_lt h
        omega
      · rw [if_neg hf] at h
        cases h
        omega
theorem place_le : ∀ (ws : List Str) (o : Bool) (k j : Nat), placeL o k ws = some j → j ≤ k + ws.length
  | [], o, k, j, h => by
    have h' : (if o = true then some k else none) = some j := h
    by_cases ho : o = true
    · rw [if_pos ho] at h'
      cases h'
      exact Nat.le_refl _
    · rw [if_neg ho] at h'
      cases h'
  | u :: ws, o, k, j, h => by
    have h' : (if u = sla ∧ o = false then placeL true (k + 1) ws else if monW u = true then placeL false (k + 1) ws else some k) = some j := h
    rw [List.length_cons]
    by_cases h1 : u = sla ∧ o = false
    · rw [if_pos h1] at h'
      have := place_le ws _ _ _ h'
      omega
    · rw [if_neg h1] at h'
      by_cases h2 : monW u = true
      · rw [if_pos h2] at h'
        have := place_le ws _ _ _ h'
        omega
      · rw [if_neg h2] at h'
        cases h'
        omega
theorem placeK_le {ws : List Str} {j : Nat} (h : placeK ws = some j) : j ≤ ws.length + 20 := by
  unfold placeK at h
  cases ef : fKind (ws.getD 0 "") with
  | none => rw [ef] at h; cases h; omega
  | some fs =>
    rw [ef] at h
    dsimp only at h
    have lf : fs.length ≤ 7 := by
      rcases fKind_inv ef with ⟨_, e⟩ | ⟨_, e⟩ | ⟨_, e⟩ | ⟨_, e⟩ <;> rw [e] <;> decide
    cases ep : placeF (fs.map formB) 1 ws with
    | some i =>
      rw [ep] at h
      cases h
      have := placeF_lt ep
      rw [List.length_map] at this
      omega
    | none =>
      rw [ep] at h
      dsimp only at h
      by_cases hr : ws.getD 0 "" = "rule"
      · rw [if_pos hr] at h
        have := place_le _ _ _ _ h
        rw [List.length_drop] at this
        omega
      · rw [if_neg hr] at h
        by_cases hl : 1 + fs.length < ws.length
        · rw [if_pos hl] at h
          cases h
          omega
        · rw [if_neg hl] at h
          cases h
/-- a place told -/
theorem pl_good {k : Nat} (h : k ≤ 2000) : fine (.tuple [.str "place", .int (k : Nat)]) = true ∧ (PyData.tuple [.str "place", .int (k : Nat)]).depth ≤ 60 := by
  refine ⟨?_, by show 0 + 1 ≤ 60; decide⟩
  show (tidy "place" && (decide (((k : Nat) : Int).natAbs < 10 ^ 80) && true)) = true
  rw [show tidy "place" = true by decide +kernel, decide_eq_true (Nat.lt_of_le_of_lt (by omega : ((k : Nat) : Int).natAbs ≤ 2000) (by decide +kernel))]
  rfl
theorem none_good {d : PyData} (h : fine d = true) (h2 : d.depth ≤ 50) : fine (.tuple [.str "none", d]) = true ∧ (PyData.tuple [.str "none", d]).depth ≤ 60 := by
  refine ⟨?_, by show max 0 (max d.depth 0) + 1 ≤ 60; omega⟩
  show (tidy "none" && (fine d && true)) = true
  rw [show tidy "none" = true by decide +kernel, h]
  rfl
theorem readKL_inv {x : Str} {y : PyData} (h : readKL x = .inr y) : placeK (wordsL x) = none ∧ isDecree (decD (wordsL x)) = true ∧ y = decD (wordsL x) := by
  unfold readKL at h
  cases ep : placeK (wordsL x) with
  | some k => rw [ep] at h; cases h
  | none =>
    rw [ep] at h
    dsimp only at h
    by_cases hd : isDecree (decD (wordsL x)) = true
    · rw [if_pos hd] at h
      cases h
      exact ⟨rfl, hd, rfl⟩
    · rw [if_neg hd] at h
      cases h
theorem toldK_good {x : Str} (h : Words (wordsL x)) : fine (toldG readKL x) = true ∧ (toldG readKL x).depth ≤ 60 := by
  rw [← due_told]
  unfold dueK
  have := h.1
  cases ep : placeK (wordsL x) with
  | some k =>
    have := placeK_le ep
    exact pl_good (by omega)
  | none =>
    dsimp only
    obtain ⟨k, n, r, fs, e, _, _, _, _, dok, h5, _, _⟩ := dec_of_place h ep
    have g := decD_good h dok h5
    by_cases hd : isDecree (decD (wordsL x)) = true
    · rw [if_pos hd]
      exact none_good g.fin g.dp
    · rw [if_neg hd]
      exact pl_good (by omega)
theorem toldD_good {x : Str} (h : Words (wordsL x)) : fine (toldG readDL x) = true ∧ (toldG readDL x).depth ≤ 60 := by
  unfold toldG readDL
  cases ep : placeF (fDate.map formB) 0 (wordsL x) with
  | some k =>
    have := placeF_lt ep
    exact pl_good (Nat.le_trans this (by decide))
  | none =>
    dsimp only
    by_cases hl : 3 < (wordsL x).length
    · rw [if_pos hl]
      exact pl_good (by decide)
    · rw [if_neg hl]
      have g := dateD_good (date_of_place h ep)
      rw [List.drop_zero] at g
      exact none_good g.1 (Nat.le_trans g.2.2 (by decide))
theorem toldR_good {x : Str} (h : Words (wordsL x)) : fine (toldG readL x) = true ∧ (toldG readL x).depth ≤ 60 := by
  unfold toldG readL
  have := h.1
  cases ep : placeL true 0 (wordsL x) with
  | some k =>
    have := place_le _ _ _ _ ep
    exact pl_good (by omega)
  | none =>
    dsimp only
    have g := ruleD_good h.1 (place_all _ _ _ ep)
    by_cases hR : isRule (ruleD (wordsL x)) = true
    · rw [if_pos hR]
      exact none_good g.fin g.dp
    · rw [if_neg hR]
      exact pl_good (by omega)
theorem src_ext {H H' : Hp} {p : Addr} {n : Nat} (s : Src H p n) (e : LamX.ExtN H H') : Src H' p n := by
  obtain ⟨g, b, t, h, r⟩ := s
  exact ⟨g, b, t, e _ _ h (fun _ z => nomatch z), r⟩
theorem extN_hid {S : Addr → Bool} {H H' : Hp} (e : LamX.ExtN H H') : LamX.ExtN (hid S H) (hid S H') := fun b o h n => by
  obtain ⟨h1, h2⟩ := hid_some h
  rw [hid_at h1]
  exact e b o h2 n
theorem date_told (x : Str) : (placeW "iad" false (wordsL x) = none ∧ placeF (fDate.map formB) 0 (wordsL x) = none ∧ (wordsL x).length ≤ 3 ∧ readDL x = .inr (dateD (wordsL x))) ∨ ∃ k, placeW "iad" false (wordsL x) = some k ∧ readDL x = .inl k := by
  unfold placeW readDL
  rw [forms_3]
  cases ep : placeF (fDate.map formB) 0 (wordsL x) with
  | some k => exact .inr ⟨k, rfl, rfl⟩
  | none =>
    dsimp only
    have l3 : Str.length "iad" = 3 := by decide +kernel
    rw [l3, if_neg Bool.false_ne_true]
    by_cases hl : 3 < (wordsL x).length
    · rw [if_pos hl, if_pos hl]
      exact .inr ⟨3, rfl, rfl⟩
    · rw [if_neg hl, if_neg hl]
      exact .inl ⟨rfl, rfl, by omega, rfl⟩
theorem plV_df {H : Hp} : ∀ o : Option Nat, Df K H (plV o) (plD o)
  | some k => .int _
  | none => .non
theorem ev_set1N {σ : L2.St} {H : Hp} {te : TE} {E : Ends} {i : Nat} (P : PyData → Prop) (h : Ev K noS none σ H te 0 P) (q : ∀ H' v d, Same H H' → Df K H' v d → P d → E.nx (σ.set i (some v)) H') : tAsg te (gName i) E σ H := ev_no 0 P h (Nat.zero_le _) q
theorem line_of {x : Str} (h : wordsL x ≠ []) : Txt.join spc (wordsL x) = x := (words_of_line fun e => h (if_pos e)).2.1
theorem evb_isN0 {σ : L2.St} {H : Hp} {i : Nat} (hv : σ[i]? = some (some V.non)) : EvB σ H (tTest (tOp (fun x y H Q => y = V.non ∧ Q (V.bl (decide (x = V.non))) H) (tVar i) (tC .non))) true := fun G s Q q => ⟨.non, hv, rfl, true, rfl, q G (Same.refl G)⟩
theorem evb_isN1 {σ : L2.St} {H : Hp} {i : Nat} {k : Int} (hv : σ[i]? = some (some (.int k))) : EvB σ H (tTest (tOp (fun x y H Q => y = V.non ∧ Q (V.bl (decide (x = V.non))) H) (tVar i) (tC .non))) false := fun G s Q q => ⟨.int k, hv, rfl, false, rfl, q G (Same.refl G)⟩
theorem ok_law (T : Top K mg) (hp : T.par = w.params) (TBL : LamX.TabB base mg T.c_law T.P_law) : FnR P w K mg base CX0 11 T.a_law T.d_law ["_law_script"] (spLaw T) := by
  have G__law_source : FnOk P w K mg base CX0 1 T.a__law_source T.d__law_source ["_law_script", "_law_at"] (spSource K) := ok_source T
  have G__law_line : FnOk P w K mg base CX0 3 T.a__law_line T.d__law_line ["_law_source_here"] (spRng K 47 LinePre LinePost) := ok_law_line T
  have G__law_split : FnOk P w K mg base CX0 1 T.a__law_split T.d__law_split ["_law_line_here"] (spSplit K) := ok_split T
  have G_read_decree : FnOk P w K mg base (L2.CX P w) 8 T.a_read_decree T.d_read_decree ["text"] (spReadG K T.C_NoText readKL) := ok_read_decree T hp
  have G_read_date : FnOk P w K mg base (L2.CX P w) 6 T.a_read_date T.d_read_date ["text"] (spReadG K T.C_NoText readDL) := ok_read_date T
  have G_read_rule : FnOk P w K mg base (L2.CX P w) 6 T.a_read_rule T.d_read_rule ["text"] (spReadG K T.C_NoText readL) := ok_read_rule T
  have G_show_decree : FnOk P w K mg base (L2.CX P w) 8 T.a_show_decree T.d_show_decree ["decree"] (spSK K) := ok_show_decree T
  have G_show_date : FnOk P w K mg base CX0 4 T.a_show_date T.d_show_date ["date"] (spSD K) := ok_show_date T
  have G_show_rule : FnOk P w K mg base (L2.CX P w) 6 T.a_show_rule T.d_show_rule ["rule"] (spShow K T.C_NoRule) := ok_show_rule T
  have G__law_due : FnOk P w K mg base CX0 6 T.a__law_due T.d__law_due ["_law_line_here"] (spDue K) := ok_law_due T
  have G__law_place : FnOk P w K mg base CX0 5 T.a__law_place T.d__law_place ["_law_words", "_law_forms", "_law_has_rule"] (spPl K) := ok_law_place T
  have G__law_three : FnOk P w K mg base CX0 1 T.a__law_three T.d__law_three ["_law_words", "_law_at"] (sp3 K) := ok_law_three T
  have G__law_rule_place : FnOk P w K mg base CX0 4 T.a__law_rule_place T.d__law_rule_place ["_law_words", "_law_at"] (spPlace K) := ok_rule_place T
  have G__law_years : FnOk P w K mg base CX0 1 T.a__law_years T.d__law_years ["_law_words"] (spYr K) := ok_law_years T
  have G__law_is_rule : FnOk P w K mg base CX0 4 T.a__law_is_rule T.d__law_is_rule ["_law_value"] (spB K isRule) := ok_lrule T
  obtain ⟨oc, od, kV, doc, pm, an, cdt, ct, osl, efd, lk, hcd⟩ := T.F__law_told.ex
  have hbT := T.b__law_told
  rw [efd] at lk hbT
  refine okR0C T.F_law sc_law (fun vs H Q E h => by obtain ⟨a, ns, rfl, _⟩ := h; rfl) (fun A outer s H vs Q E gd hr h => ?_)
  obtain ⟨a0, ns, rfl, hS, few, hPL, q⟩ := h
  have hr1 : Room 1 _ := hr.mono (by decide)
  have hr3 : Room 3 _ := hr.mono (by decide)
  have hr4 : Room 4 _ := hr.mono (by decide)
  have hr5 : Room 5 _ := hr.mono (by decide)
  have hr6 : Room 6 _ := hr.mono (by decide)
  have hr8 : Room 8 _ := hr.mono (by decide)
  have GV := told_gives1 (X := (cxOf CX0 P w K mg base ["_law_script", "_law_at", "_law_source_here", "_law_turn", "_law_words", "_law_found", "_law_place_here", "_law_due_here", "_law_line_here"] "law" (defScope s_law) T.a_law T.d_law.code A outer s H E).nox) T (q := (cxOf CX0 P w K mg base ["_law_script", "_law_at", "_law_source_here", "_law_turn", "_law_words", "_law_found", "_law_place_here", "_law_due_here", "_law_line_here"] "law" (defScope s_law) T.a_law T.d_law.code A outer s H E).nox.env.qual ++ "<lambda>") (cdg := cdt)
  refine ⟨_, (pss_cons (ps_for PassesOwn.never rfl (pi_range1 rfl T.n_range (pa_cons (pe_callB (call_max2 rfl) (by rfl) T.n_max (by decide +kernel) (pa_cons pe_int (pa_cons (pe_callB (call_min2 rfl) (by rfl) T.n_min (by decide +kernel) (pa_cons pe_int (pa_cons (pe_callB call_len_seq (by rfl) T.n_len PySem.boot_len (pa_cons (pv 0) pa_nil)) pa_nil))) pa_nil))) pa_nil)) (pg_name (i := 1) sc_law.nd rfl (.inl rfl)) (pss_cons (ps_set (i := 2) sc_law.nd rfl (.inl rfl) (pe_call G__law_source hr1 (by rfl) T.m__law_source T.F__law_source.kp T.b__law_source .nil pass0 (pa_cons (pv 0) (pa_cons (pv 1) pa_nil)))) (pss_one (ps_for PassesOwn.never rfl (pi_range1 rfl T.n_range (pa_cons pe_int pa_nil)) (pg_name (i := 3) sc_law.nd rfl (.inl rfl)) (pss_cons (ps_set (i := 8) sc_law.nd rfl (.inr rfl) (pe_call G__law_line hr3 (by rfl) T.m__law_line T.F__law_line.kp T.b__law_line .nil pass0 (pa_cons (pv 2) pa_nil))) (pss_cons (ps_set (i := 4) sc_law.nd rfl (.inl rfl) (pe_call G__law_split hr1 (by rfl) T.m__law_split T.F__law_split.kp T.b__law_split .nil pass0 (pa_cons (pv 8) pa_nil))) (pss_cons (ps_set (i := 5) sc_law.nd rfl (.inl rfl) (LamX.pe_lamcall (T := T1 T) (k := 8) (by rfl) T.m__law_told T.F__law_told.kp lk hcd hbT sc__law_told rfl (.inl rfl) GV TBL T.e_law (mem_law T) (hu_law T) hr (LamX.lamS_by (sc := defScope s_law) (by decide +kernel)) rfl (fun _ _ _ _ _ => rfl) (fun A2 o2 s2 H2 E2 f2 c2 hr7 => (pe_call G_read_decree hr7 (by rfl) T.m_read_decree T.F_read_decree.kp T.b_read_decree .nil (passes_call (takes_of rfl rfl rfl rfl) (fun _ _ _ _ z => z)) (pa_cons (pv 8) pa_nil))))) (pss_cons (ps_if (PW.pt (pw_or (pt_cmpR (op_neD hr.units) (pv 5) (pe_call G__law_due hr6 (by rfl) T.m__law_due T.F__law_due.kp T.b__law_due .nil pass0 (pa_cons (pv 8) pa_nil)) (by rfl)) (pw_or1 (PW.pt (pw_and (pt_cmpR op_eq (pe_ix ix_tup (pv 5) pe_int (fun _ _ => rfl)) pe_str (by rfl)) (pw_and1 (pt_cmpR op_ne (pe_call G_show_decree hr8 (by rfl) T.m_show_decree T.F_show_decree.kp T.b_show_decree .nil (passF rfl rfl) (pa_cons (pe_ix ix_tup (pv 5) pe_int (fun _ _ => rfl)) pa_nil)) (pv 8) (by rfl)))))))) (pss_one (ps_ret pe_bl)) pss_nil) (pss_cons (ps_par (i := 5) (j := 6) (by rfl) sc_law.nd rfl rfl (by decide) rfl rfl (pa_cons (LamX.pe_lamcall (T := T1 T) (k := 8) (by rfl) T.m__law_told T.F__law_told.kp lk hcd hbT sc__law_told rfl (.inl rfl) GV TBL T.e_law (mem_law T) (hu_law T) hr (LamX.lamS_by (sc := defScope s_law) (by decide +kernel)) rfl (fun _ _ _ _ _ => rfl) (fun A2 o2 s2 H2 E2 f2 c2 hr7 => (pe_call G_read_date (hr7.mono (by decide)) (by rfl) T.m_read_date T.F_read_date.kp T.b_read_date .nil (passes_call (takes_of rfl rfl rfl rfl) (fun _ _ _ _ z => z)) (pa_cons (pv 8) pa_nil)))) (pa_cons (pe_call G__law_place hr5 (by rfl) T.m__law_place T.F__law_place.kp T.b__law_place .nil pass0 (pa_cons (pv 4) (pa_cons pe_str (pa_cons pe_bl pa_nil)))) pa_nil)) (by rfl)) (pss_cons (ps_set (i := 7) sc_law.nd rfl (.inl rfl) (pe_ifExp (pt_cmpR op_isN (pv 6) pe_non (by rfl)) (pe_tupF (pa_cons pe_str (pa_cons (pe_call G__law_three hr1 (by rfl) T.m__law_three T.F__law_three.kp T.b__law_three .nil pass0 (pa_cons (pv 4) (pa_cons pe_int pa_nil))) pa_nil))) (pe_tupF (pa_cons pe_str (pa_cons (pv 6) pa_nil))))) (pss_cons (ps_if (PW.pt (pw_or (pt_cmpR (op_neD hr.units) (pv 5) (pv 7) (by rfl)) (pw_or1 (PW.pt (pw_and (pt_cmpR op_eq (pe_ix ix_tup (pv 5) pe_int (fun _ _ => rfl)) pe_str (by rfl)) (pw_and1 (pt_cmpR op_ne (pe_call G_show_date hr4 (by rfl) T.m_show_date T.F_show_date.kp T.b_show_date .nil pass0 (pa_cons (pe_ix ix_tup (pv 5) pe_int (fun _ _ => rfl)) pa_nil)) (pv 8) (by rfl)))))))) (pss_one (ps_ret pe_bl)) pss_nil) (pss_cons (ps_par (i := 5) (j := 6) (by rfl) sc_law.nd rfl rfl (by decide) rfl rfl (pa_cons (LamX.pe_lamcall (T := T1 T) (k := 8) (by rfl) T.m__law_told T.F__law_told.kp lk hcd hbT sc__law_told rfl (.inl rfl) GV TBL T.e_law (mem_law T) (hu_law T) hr (LamX.lamS_by (sc := defScope s_law) (by decide +kernel)) rfl (fun _ _ _ _ _ => rfl) (fun A2 o2 s2 H2 E2 f2 c2 hr7 => (pe_call G_read_rule (hr7.mono (by decide)) (by rfl) T.m_read_rule T.F_read_rule.kp T.b_read_rule .nil (passes_call (takes_of rfl rfl rfl rfl) (fun _ _ _ _ z => z)) (pa_cons (pv 8) pa_nil)))) (pa_cons (pe_call G__law_rule_place hr4 (by rfl) T.m__law_rule_place T.F__law_rule_place.kp T.b__law_rule_place .nil pass0 (pa_cons (pv 4) (pa_cons pe_int pa_nil))) pa_nil)) (by rfl)) (pss_cons (ps_set (i := 7) sc_law.nd rfl (.inl rfl) (pe_tupF (pa_cons pe_str (pa_cons (pv 6) pa_nil)))) (pss_cons (ps_if (pt_cmpR op_isN (pv 6) pe_non (by rfl)) (pss_one (ps_set (i := 7) sc_law.nd rfl (.inl rfl) (pe_ifExp (pt_val (pe_call G__law_is_rule hr4 (by rfl) T.m__law_is_rule T.F__law_is_rule.kp T.b__law_is_rule .nil pass0 (pa_cons (pe_call G__law_years hr1 (by rfl) T.m__law_years T.F__law_years.kp T.b__law_years .nil pass0 (pa_cons (pv 4) pa_nil)) pa_nil))) (pe_tupF (pa_cons pe_str (pa_cons (pe_call G__law_years hr1 (by rfl) T.m__law_years T.F__law_years.kp T.b__law_years .nil pass0 (pa_cons (pv 4) pa_nil)) pa_nil))) (pe_tupF (pa_cons pe_str (pa_cons (pe_callB call_len_seq (by rfl) T.n_len PySem.boot_len (pa_cons (pv 4) pa_nil)) pa_nil)))))) pss_nil) (pss_one (ps_if (PW.pt (pw_or (pt_cmpR (op_neD hr.units) (pv 5) (pv 7) (by rfl)) (pw_or1 (PW.pt (pw_and (pt_cmpR op_eq (pe_ix ix_tup (pv 5) pe_int (fun _ _ => rfl)) pe_str (by rfl)) (pw_and1 (pt_cmpR op_ne (pe_call G_show_rule hr6 (by rfl) T.m_show_rule T.F_show_rule.kp T.b_show_rule .nil (passF rfl rfl) (pa_cons (pe_ix ix_tup (pv 5) pe_int (fun _ _ => rfl)) pa_nil)) (pv 8) (by rfl)))))))) (pss_one (ps_ret pe_bl)) pss_nil)))))))))))))))) (pss_one (ps_ret pe_bl))), ?_⟩
  have hT0 : LamX.Tabs (T1 T) H := fun p hp' => by
    rw [List.mem_singleton.mp hp']
    exact LamX.TabS.nil hPL
  have elen : ((ns.map V.int).length : Int) ≤ 63 := by rw [List.length_map]; omega
  refine ⟨.ref a0, rfl, a0, _, rfl, .inl hS, 4, _, rfl, 1, _, rfl, _, rfl, by split <;> (try split) <;> omega, by split <;> (try split) <;> omega, ?_⟩
  refine for_range (fun i σ H1 => ∃ x1 x2 x3 x4 x5 x6 x7 x8, σ = [some (.ref a0), x1, x2, x3, x4, x5, x6, x7, x8] ∧ SqL K H1 a0 (ns.map V.int) ∧ LamX.Tabs (T1 T) H1) ⟨_, _, _, _, _, _, _, _, rfl, hS, hT0⟩ ?turn ?fin
  case fin =>
    rintro σ G ⟨x1, x2, x3, x4, x5, x6, x7, x8, rfl, _, _⟩
    exact q G
  clear hS hT0
  rintro i0 σ H hi ⟨x1, x2, x3, x4, x5, x6, x7, x8, rfl, hS, hT⟩
  have hi100 : i0 ≤ 100 := by
    have : i0 < 100 := Nat.lt_of_lt_of_le hi (by split <;> (try split) <;> omega)
    omega
  dsimp only [gName]
  refine ⟨.ref a0, rfl, .int (0 + i0), rfl, a0, ns, i0, by rw [Int.zero_add]; rfl, hS, hi100, fun p H1 np s1 src => ?_⟩
  dsimp only [gName]
  have hS1 : SqL K (hid (one (some p)) H1) a0 (ns.map V.int) := Same.seq (same_hid_new s1 np) hS
  have hT1 := tabs_same hT s1
  refine ⟨24, rfl, by decide, by decide, ?_⟩
  rw [show (24 : Int).toNat = 24 from rfl]
  refine for_range (lo := 0) (n := 24) (fun j σ G => ∃ y3 y4 y5 y6 y7 y8, σ = [some (.ref a0), some (.int (0 + (i0 : Int))), some (.ref p), y3, y4, y5, y6, y7, y8] ∧ Src G p (47 * j) ∧ LamX.Tabs (T1 T) G ∧ SqL K (hid (one (some p)) G) a0 (ns.map V.int)) ⟨_, _, _, _, _, _, rfl, src, hT1, hS1⟩ ?turn24 ?fin24
  case fin24 =>
    rintro σ G ⟨y3, y4, y5, y6, y7, y8, rfl, _, tb, sq⟩
    exact ⟨_, _, _, _, _, _, _, _, rfl, Same.seq hid_same sq, tb⟩
  rintro j σ G hj ⟨y3, y4, y5, y6, y7, y8, rfl, sc, tb, sq⟩
  dsimp only [gName, List.set]
  have rg : Rn (one (some p)) (some p) (47 * j) G := rn_src sc
  refine ev_set (K := K) (fun d => ∃ x, d = .str x ∧ LineOk 12 x) (0 + 47) rg (show _ ≤ 1000000 by omega) (ev_rng (m1 := 0) (m := 47) (R := (· = [])) rfl eva_n (fun l e => e) (fun l d e hp => hp)) fun G1 vb db k1 r1 hb ⟨x, eb, ok12⟩ => ?_
  subst eb
  cases hb
  dsimp only [List.set]
  have tb1 := tabs_keep tb sc k1
  have sq1 : SqL K (hid (one (some p)) G1) a0 (ns.map V.int) := Same.seq (keeps_one rg.sa k1) sq
  have sr1 := r1.src p rfl
  have ok := ok12.up (j := 1000) (by decide)
  have fx : x.length ≤ 100000 := Nat.le_trans ok.1 (by decide)
  have hW : Words (wordsL x) := ok.words (Nat.le_refl _)
  refine ⟨.str x, rfl, x, rfl, fx, fun G2 vw s2 hw => ?_⟩
  dsimp only [gName, List.set]
  have tb2 := tabs_same tb1 s2
  refine ⟨tb2, fun Ga ea ta => ⟨.str x, rfl, read_told (R := readKL) ok ta fun G3 u e3 t3 hu => ?_⟩⟩
  dsimp only [gName, List.set]
  have e13 := (ext_same s2).trans (ea.trans e3)
  have hw3 := hw.ext (ea.trans e3)
  have sh1 := sh_of (toldK_good hW).1 (toldK_good hW).2
  refine if_b (b := false) (test_told (R := readKL) hu rfl rfl sh1.1 sh1.2 (ev_callDue (eva_c (ev_var (i := 8) rfl (.str x) rfl) eva_n) fx hW) (fun y hR => ?show1)) (fun z => nomatch z) (fun _ G4 s4 => ?_)
  case show1 =>
    obtain ⟨hpl, hD, rfl⟩ := readKL_inv hR
    have ht : toldG readKL x = .tuple [.str "none", decD (wordsL x)] := by unfold toldG; rw [hR]
    rw [ht] at hu
    have e := ev_callSK (K := K) (σ := [some (.ref a0), some (.int (0 + (i0 : Int))), some (.ref p), some (.int (0 + (j : Int))), some vw, some u, y6, y7, some (.str x)]) (H0 := G3) (ws := wordsL x) (E := E0) (eva_c (ev_ixTX (m1 := 0) (m2 := 0) (ev_var (i := 5) rfl (dp_no hu) rfl) (ev_int (i := 1) rfl) rfl) eva_n) hW hpl hD
    rw [line_of fun z => by rw [z] at hpl; exact absurd hpl (by decide +kernel)] at e
    exact e
  have tb4 := tabs_same t3 s4
  refine ⟨tb4, fun Gb eb tb' => ⟨.str x, rfl, read_told (R := readDL) ok tb' fun G5 u2 e5 t5 hu2 => ?_⟩⟩
  have hw5 : Df K G5 vw (.list ((wordsL x).map PyData.str)) := (Df.to hw3 s4).ext (eb.trans e5)
  refine ⟨vw, rfl, vw, wordsL x, "iad", false, rfl, hw5, hW, by decide +kernel, by decide +kernel, by decide +kernel, fun G6 s6 => ?_⟩
  refine ⟨_, _, rfl, ?_⟩
  dsimp only [gName, List.set]
  have e16 := e13.trans ((ext_same s4).trans ((eb.trans e5).trans (ext_same s6)))
  have hw6 := Df.to hw5 s6
  have sh2 := sh_of (toldD_good hW).1 (toldD_good hW).2
  refine ev_setN (K := K) 0 (· = toldG readDL x) ?dueD (Nat.zero_le _) fun G7 v7 d7 s7 hd7 e7 => ?_
  case dueD =>
    rcases date_told x with ⟨ho, hpf, hl3, hrd⟩ | ⟨k, ho, hrd⟩
    · rw [ho]
      have ht : toldG readDL x = .tuple [.str "none", dateD (wordsL x)] := by unfold toldG; rw [hrd]
      rw [ht]
      refine ev_ifB (b := true) (evb_isN0 (i := 6) rfl) (fun _ => ev_t (eva_c (ev_str rfl) (eva_c (ev_call3 (ws := wordsL x) (j := 0) (eva_c (ev_var (i := 4) rfl (dp_no hw6) rfl) (eva_c (ev_int rfl) eva_n)) (date_of_place hW hpf)) eva_n)) (by exact (by decide : 2 ≤ 100000))) (fun z => nomatch z)
    · rw [ho]
      have ht : toldG readDL x = .tuple [.str "place", .int (k : Nat)] := by unfold toldG; rw [hrd]
      rw [ht]
      refine ev_ifB (b := false) (evb_isN1 (i := 6) rfl) (fun z => nomatch z) (fun _ => ev_t (eva_c (ev_str rfl) (eva_c (ev_var (i := 6) rfl (.int _) rfl) eva_n)) (by exact (by decide : 2 ≤ 100000)))
  subst e7
  dsimp only [List.set]
  have hu27 := Df.to hu2 (s6.trans s7)
  refine if_b (b := false) (test_told (R := readDL) hu27 rfl rfl sh2.1 sh2.2 (ev_var (i := 7) rfl (dp_no hd7) rfl) (fun y hR => ?show2)) (fun z => nomatch z) (fun _ G8 s8 => ?_)
  case show2 =>
    rcases date_told x with ⟨ho, hpf, hl3, hrd⟩ | ⟨k, ho, hrd⟩
    · have ht : toldG readDL x = .tuple [.str "none", dateD (wordsL x)] := by unfold toldG; rw [hrd]
      rw [ht] at hu27
      have hdo := date_of_place hW hpf
      rw [List.drop_zero] at hdo
      have e := ev_callSD (K := K) (σ := [some (.ref a0), some (.int (0 + (i0 : Int))), some (.ref p), some (.int (0 + (j : Int))), some vw, some u2, some (plV (placeW "iad" false (wordsL x))), some v7, some (.str x)]) (H0 := G7) (S := noS) (a := none) (ws := wordsL x) (E := E0) (eva_c (ev_ixTX (m1 := 0) (m2 := 0) (ev_var (i := 5) rfl (dp_no hu27) rfl) (ev_int (i := 1) rfl) rfl) eva_n) hdo
      rw [List.take_of_length_le hl3, line_of fun z => by rw [z] at hpf; exact absurd hpf (by decide +kernel)] at e
      exact e
    · rw [hrd] at hR
      cases hR
  have e18 := e16.trans ((ext_same s7).trans (ext_same s8))
  have tb8 := tabs_same t5 (s6.trans (s7.trans s8))
  refine ⟨tb8, fun Gc ec tc => ⟨.str x, rfl, read_told (R := readL) ok tc fun G9 u3 e9 t9 hu3 => ?_⟩⟩
  have hw9 : Df K G9 vw (.list ((wordsL x).map PyData.str)) := (Df.to hw6 (s7.trans s8)).ext (ec.trans e9)
  refine ⟨vw, rfl, vw, wordsL x, 0, rfl, hw9, hW, Nat.zero_le _, fun G10 s10 => ?_⟩
  rw [List.drop_zero]
  refine ⟨_, _, rfl, ?_⟩
  dsimp only [gName, List.set]
  have hw10 := Df.to hw9 s10
  refine ev_setN (K := K) 0 (· = .tuple [.str "place", plD (placeL true 0 (wordsL x))]) (ev_t (eva_c (ev_str rfl) (eva_c (ev_var (i := 6) rfl (dp_no (plV_df _)) rfl) eva_n)) (by exact (by decide : 2 ≤ 100000))) (Nat.zero_le _) fun G11 v11 d11 s11 hd11 e11 => ?_
  subst e11
  dsimp only [List.set]
  have e111 := e18.trans ((ec.trans e9).trans ((ext_same s10).trans (ext_same s11)))
  have hu11 := Df.to hu3 (s10.trans s11)
  have hw11 := Df.to hw10 s11
  have t11 := tabs_same t9 (s10.trans s11)
  cases ep0 : placeL true 0 (wordsL x) with
  | some k =>
    rw [ep0] at hd11
    have ht : toldG readL x = .tuple [.str "place", .int (k : Nat)] := by unfold toldG readL; rw [ep0]
    refine if_b (b := false) (evb_isN1 (i := 6) rfl) (fun z => nomatch z) (fun _ G12 s12 => ?_)
    have huG := Df.to hu11 s12
    have hdG : Df K G12 v11 (toldG readL x) := by rw [ht]; exact Df.to hd11 s12
    have eG := e111.trans (ext_same s12)
    have tG := tabs_same t11 s12
    have sh3 := sh_of (toldR_good hW).1 (toldR_good hW).2
    refine if_b (b := false) (test_told (R := readL) huG rfl rfl sh3.1 sh3.2 (ev_var (i := 7) rfl (dp_no hdG) rfl) (fun y hR => ?_)) (fun z => nomatch z) (fun _ GZ sZ => ?_)
    · have hR2 := hR
      unfold readL at hR2
      cases ep : placeL true 0 (wordsL x) with
      | some k => rw [ep] at hR2; cases hR2
      | none =>
        rw [ep] at hR2
        dsimp only at hR2
        by_cases hr : isRule (ruleD (wordsL x)) = true
        · rw [if_pos hr] at hR2
          cases hR2
          have ht : toldG readL x = .tuple [.str "none", ruleD (wordsL x)] := by unfold toldG; rw [hR]
          rw [ht] at huG
          have gR := ruleD_good hW.1 (place_all _ _ _ ep)
          have e := ev_callShow (K := K) (σ := [some (.ref a0), some (.int (0 + (i0 : Int))), some (.ref p), some (.int (0 + (j : Int))), some vw, some u3, some (.int ((k : Nat) : Int)), some v11, some (.str x)]) (H0 := G12) (S := noS) (a := none) (CR := T.C_NoRule) (d := ruleD (wordsL x)) (E := E0) (eva_c (ev_ixTX (m1 := 0) (m2 := 0) (ev_var (i := 5) rfl (dp_no huG) rfl) (ev_int (i := 1) rfl) rfl) eva_n) gR hr
          rw [ruleS_ruleD ep, line_of fun z => by rw [z] at ep; exact absurd ep (by decide)] at e
          exact e
        · rw [if_neg hr] at hR2
          cases hR2
    · have eZ := eG.trans (ext_same sZ)
      exact ⟨_, _, _, _, _, _, rfl, (src_ext sr1 eZ).up (by omega), tabs_same tG sZ, seqL_ext (extN_hid eZ) sq1⟩
  | none =>
    refine if_b (b := true) (evb_isN0 (i := 6) rfl) (fun _ G12 s12 => ?_) (fun z => nomatch z)
    have hw12 := Df.to hw11 s12
    have gR := ruleD_good hW.1 (place_all _ _ _ ep0)
    have yr : ∀ G, Same G12 G → Ev K noS none [some (.ref a0), some (.int (0 + (i0 : Int))), some (.ref p), some (.int (0 + (j : Int))), some vw, some u3, some .non, some v11, some (.str x)] G (tCall (spYr K) [] E0 (tCons (tVar 4) tNil)) 0 (· = ruleD (wordsL x)) := fun G s => ev_callYr (j := 0) (eva_c (ev_var (i := 4) rfl (dp_no (Df.to hw12 s)) rfl) eva_n) hW ep0
    refine ev_set1N (K := K) (· = toldG readL x) ?dueR fun G13 v13 d13 s13 hd13 e13' => ?_
    case dueR =>
      have ht : toldG readL x = if isRule (ruleD (wordsL x)) = true then .tuple [.str "none", ruleD (wordsL x)] else .tuple [.str "place", .int (((wordsL x).length : Nat) : Int)] := by
        unfold toldG readL
        rw [ep0]
        dsimp only
        by_cases hr : isRule (ruleD (wordsL x)) = true
        · rw [if_pos hr, if_pos hr]
        · rw [if_neg hr, if_neg hr]
      rw [ht]
      refine ev_ifB (b := isRule (ruleD (wordsL x))) (evb_val (K := K) (m := 0) (ev_callB (R := (· = [ruleD (wordsL x)])) (eva_c (yr G12 (Same.refl _)) eva_n) (fun l e => ⟨_, e, gR, rfl⟩)) (Nat.zero_le _)) (fun hb => ?_) (fun hb => ?_)
      · rw [if_pos hb]
        exact ev_t (eva_c (ev_str rfl) (eva_c (yr G12 (Same.refl _)) eva_n)) (by exact (by decide : 2 ≤ 100000))
      · rw [if_neg (by rw [hb]; exact Bool.false_ne_true)]
        refine ev_t (eva_c (ev_str rfl) (eva_c ?_ eva_n)) (by exact (by decide : 2 ≤ 100000))
        have e := ev_lenX (K := K) (S := noS) (a := none) (m := 0) (σ := [some (.ref a0), some (.int (0 + (i0 : Int))), some (.ref p), some (.int (0 + (j : Int))), some vw, some u3, some .non, some v11, some (.str x)]) (H0 := G12) (es := (wordsL x).map PyData.str) (eva_c (ev_var (i := 4) rfl (dp_no hw12) rfl) eva_n)
        rw [List.length_map] at e
        exact e
    subst e13'
    dsimp only [List.set]
    have huG := Df.to hu11 (s12.trans s13)
    have hdG := hd13
    have eG := e111.trans ((ext_same s12).trans (ext_same s13))
    have tG := tabs_same t11 (s12.trans s13)
    have sh3 := sh_of (toldR_good hW).1 (toldR_good hW).2
    refine if_b (b := false) (test_told (R := readL) huG rfl rfl sh3.1 sh3.2 (ev_var (i := 7) rfl (dp_no hdG) rfl) (fun y hR => ?_)) (fun z => nomatch z) (fun _ GZ sZ => ?_)
    · have hR2 := hR
      unfold readL at hR2
      cases ep : placeL true 0 (wordsL x) with
      | some k => rw [ep] at hR2; cases hR2
      | none =>
        rw [ep] at hR2
        dsimp only at hR2
        by_cases hr : isRule (ruleD (wordsL x)) = true
        · rw [if_pos hr] at hR2
          cases hR2
          have ht : toldG readL x = .tuple [.str "none", ruleD (wordsL x)] := by unfold toldG; rw [hR]
          rw [ht] at huG
          have gR := ruleD_good hW.1 (place_all _ _ _ ep)
          have e := ev_callShow (K := K) (σ := [some (.ref a0), some (.int (0 + (i0 : Int))), some (.ref p), some (.int (0 + (j : Int))), some vw, some u3, some .non, some v13, some (.str x)]) (H0 := G13) (S := noS) (a := none) (CR := T.C_NoRule) (d := ruleD (wordsL x)) (E := E0) (eva_c (ev_ixTX (m1 := 0) (m2 := 0) (ev_var (i := 5) rfl (dp_no huG) rfl) (ev_int (i := 1) rfl) rfl) eva_n) gR hr
          rw [ruleS_ruleD ep, line_of fun z => by rw [z] at ep; exact absurd ep (by decide)] at e
          exact e
        · rw [if_neg hr] at hR2
          cases hR2
    · have eZ := eG.trans (ext_same sZ)
      exact ⟨_, _, _, _, _, _, rfl, (src_ext sr1 eZ).up (by omega), tabs_same tG sZ, seqL_ext (extN_hid eZ) sq1⟩
end

theorem mkAll {l : PySem.W.OpenLaw} {w : World} {K : PySem.W.Frag} {h : Heap} {mg : Str → Option Value} {fa : Addr} {k : Nat} {q : Program} {sp : Top K mg → Sp} (KX : K.In h) (G : h.Ns mainGlobals mg) (hfa : mg "law" = some (.ref fa)) (tabs : TabsOf q K h)
    (okL : ∀ (T : Top K mg) (base : Heap), T.par = w.params → TabB base mg T.c_law T.P_law → FnR l.prog w K mg base CX0 k T.a_law T.d_law ["_law_script"] (sp T))
    (okS : ∀ (T : Top K mg) (H : Hp) (a : Addr) (ns : List Int), ns.length ≤ 63 → H T.P_law = some (.tbl #[]) → SqL K H a (ns.map V.int) → sp T [.ref a] H (fun v _ => v = .bl true) fun _ _ _ => False)
    {f0 f1 f2 f3 f4 f5 f6 f7 f8 f9 f10 f11 f12 f13 f14 f15 f16 f17 f18 f19 f20 f21 f22 f23 f24 f25 f26 f27 f28 f29 f30 f31 f32 f33 f34 f35 f36 f37 f38 f39 f40 f41 f42 f43 f44 f45 f46 f47 f48 f49 f50 f51 f52 : Addr} {od0 an0 od1 an1 od2 an2 od3 an3 od4 an4 od5 an5 od6 an6 od7 an7 od8 an8 od9 an9 od10 an10 od11 an11 od12 an12 od13 an13 od14 an14 od15 an15 od16 an16 od17 an17 od18 an18 od19 an19 od20 an20 od21 an21 od22 an22 od23 an23 od24 an24 od25 an25 od26 an26 od27 an27 od28 an28 od29 an29 od30 an30 od31 an31 od32 an32 od33 an33 od34 an34 od35 an35 od36 an36 od37 an37 od38 an38 od39 an39 od40 an40 od41 an41 od42 an42 od43 an43 od44 an44 od45 an45 od46 an46 od47 an47 od48 an48 od49 an49 od50 an50 od51 an51 od52 an52 : Option Addr} {sl0 sl1 sl2 sl3 sl4 sl5 sl6 sl7 sl8 sl9 sl10 sl11 sl12 sl13 sl14 sl15 sl16 sl17 sl18 sl19 sl20 sl21 sl22 sl23 sl24 sl25 sl26 sl27 sl28 sl29 sl30 sl31 sl32 sl33 sl34 sl35 sl36 sl37 sl38 sl39 sl40 sl41 sl42 sl43 sl44 sl45 sl46 sl47 sl48 sl49 sl50 sl51 sl52 : Array (Option Value)}
    {oc0 kV0 dc0 pm0 cd0 ct0 oc1 kV1 dc1 pm1 cd1 ct1 oc2 kV2 dc2 pm2 cd2 ct2 oc3 kV3 dc3 pm3 cd3 ct3 oc4 kV4 dc4 pm4 cd4 ct4 oc5 kV5 dc5 pm5 cd5 ct5 oc6 kV6 dc6 pm6 cd6 ct6 oc7 kV7 dc7 pm7 cd7 ct7 oc8 kV8 dc8 pm8 cd8 ct8 oc9 kV9 dc9 pm9 cd9 ct9 oc10 kV10 dc10 pm10 cd10 ct10 oc11 kV11 dc11 pm11 cd11 ct11 oc12 kV12 dc12 pm12 cd12 ct12 oc13 kV13 dc13 pm13 cd13 ct13 oc14 kV14 dc14 pm14 cd14 ct14 oc15 kV15 dc15 pm15 cd15 ct15 oc16 kV16 dc16 pm16 cd16 ct16 oc17 kV17 dc17 pm17 cd17 ct17 oc18 kV18 dc18 pm18 cd18 ct18 oc19 kV19 dc19 pm19 cd19 ct19 oc20 kV20 dc20 pm20 cd20 ct20 oc21 kV21 dc21 pm21 cd21 ct21 oc22 kV22 dc22 pm22 cd22 ct22 oc23 kV23 dc23 pm23 cd23 ct23 oc24 kV24 dc24 pm24 cd24 ct24 oc25 kV25 dc25 pm25 cd25 ct25 oc26 kV26 dc26 pm26 cd26 ct26 oc27 kV27 dc27 pm27 cd27 ct27 oc28 kV28 dc28 pm28 cd28 ct28 oc29 kV29 dc29 pm29 cd29 ct29 oc30 kV30 dc30 pm30 cd30 ct30 oc31 kV31 dc31 pm31 cd31 ct31 oc32 kV32 dc32 pm32 cd32 ct32 oc33 kV33 dc33 pm33 cd33 ct33 oc34 kV34 dc34 pm34 cd34 ct34 oc35 kV35 dc35 pm35 cd35 ct35 oc36 kV36 dc36 pm36 cd36 ct36 oc37 kV37 dc37 pm37 cd37 ct37 oc38 kV38 dc38 pm38 cd38 ct38 oc39 kV39 dc39 pm39 cd39 ct39 oc40 kV40 dc40 pm40 cd40 ct40 oc41 kV41 dc41 pm41 cd41 ct41 oc42 kV42 dc42 pm42 cd42 ct42 oc43 kV43 dc43 pm43 cd43 ct43 oc44 kV44 dc44 pm44 cd44 ct44 oc45 kV45 dc45 pm45 cd45 ct45 oc46 kV46 dc46 pm46 cd46 ct46 oc47 kV47 dc47 pm47 cd47 ct47 oc48 kV48 dc48 pm48 cd48 ct48 oc49 kV49 dc49 pm49 cd49 ct49 oc50 kV50 dc50 pm50 cd50 ct50 oc51 kV51 dc51 pm51 cd51 ct51 oc52 kV52 dc52 pm52 ct52 : Value} {u0 u1 u2 u3 u4 u5 : Tok}
    (a0 : PySem.W.nsIn K mainGlobals "is_int" = some (some (.ref f0)))
    (l0 : K.lookup f0 = some ⟨oc0, od0, .func (PySem.W.fnOf "is_int" "is_int" (defArgs s_is_int) (defBody s_is_int) (defScope s_is_int) .none kV0 dc0 pm0 an0 cd0 ct0), sl0⟩)
    (c0 : PySem.W.codeIn K cd0 "is_int" = true) (k0 : PySem.W.keepIn K (.ref f0) = true)
    (a1 : PySem.W.nsIn K mainGlobals "is_day" = some (some (.ref f1)))
    (l1 : K.lookup f1 = some ⟨oc1, od1, .func (PySem.W.fnOf "is_day" "is_day" (defArgs s_is_day) (defBody s_is_day) (defScope s_is_day) .none kV1 dc1 pm1 an1 cd1 ct1), sl1⟩)
    (c1 : PySem.W.codeIn K cd1 "is_day" = true) (k1 : PySem.W.keepIn K (.ref f1) = true)
    (a2 : PySem.W.nsIn K mainGlobals "is_name" = some (some (.ref f2)))
    (l2 : K.lookup f2 = some ⟨oc2, od2, .func (PySem.W.fnOf "is_name" "is_name" (defArgs s_is_name) (defBody s_is_name) (defScope s_is_name) .none kV2 dc2 pm2 an2 cd2 ct2), sl2⟩)
    (c2 : PySem.W.codeIn K cd2 "is_name" = true) (k2 : PySem.W.keepIn K (.ref f2) = true)
    (a3 : PySem.W.nsIn K mainGlobals "is_rule" = some (some (.ref f3)))
    (l3 : K.lookup f3 = some ⟨oc3, od3, .func (PySem.W.fnOf "is_rule" "is_rule" (defArgs s_is_rule) (defBody s_is_rule) (defScope s_is_rule) .none kV3 dc3 pm3 an3 cd3 ct3), sl3⟩)
    (c3 : PySem.W.codeIn K cd3 "is_rule" = true) (k3 : PySem.W.keepIn K (.ref f3) = true)
    (a4 : PySem.W.nsIn K mainGlobals "is_year" = some (some (.ref f4)))
    (l4 : K.lookup f4 = some ⟨oc4, od4, .func (PySem.W.fnOf "is_year" "is_year" (defArgs s_is_year) (defBody s_is_year) (defScope s_is_year) .none kV4 dc4 pm4 an4 cd4 ct4), sl4⟩)
    (c4 : PySem.W.codeIn K cd4 "is_year" = true) (k4 : PySem.W.keepIn K (.ref f4) = true)
    (a5 : PySem.W.nsIn K mainGlobals "is_month" = some (some (.ref f5)))
    (l5 : K.lookup f5 = some ⟨oc5, od5, .func (PySem.W.fnOf "is_month" "is_month" (defArgs s_is_month) (defBody s_is_month) (defScope s_is_month) .none kV5 dc5 pm5 an5 cd5 ct5), sl5⟩)
    (c5 : PySem.W.codeIn K cd5 "is_month" = true) (k5 : PySem.W.keepIn K (.ref f5) = true)
    (a6 : PySem.W.nsIn K mainGlobals "is_day_of_month" = some (some (.ref f6)))
    (l6 : K.lookup f6 = some ⟨oc6, od6, .func (PySem.W.fnOf "is_day_of_month" "is_day_of_month" (defArgs s_is_day_of_month) (defBody s_is_day_of_month) (defScope s_is_day_of_month) .none kV6 dc6 pm6 an6 cd6 ct6), sl6⟩)
    (c6 : PySem.W.codeIn K cd6 "is_day_of_month" = true) (k6 : PySem.W.keepIn K (.ref f6) = true)
    (a7 : PySem.W.nsIn K mainGlobals "is_date" = some (some (.ref f7)))
    (l7 : K.lookup f7 = some ⟨oc7, od7, .func (PySem.W.fnOf "is_date" "is_date" (defArgs s_is_date) (defBody s_is_date) (defScope s_is_date) .none kV7 dc7 pm7 an7 cd7 ct7), sl7⟩)
    (c7 : PySem.W.codeIn K cd7 "is_date" = true) (k7 : PySem.W.keepIn K (.ref f7) = true)
    (a8 : PySem.W.nsIn K mainGlobals "has_date" = some (some (.ref f8)))
    (l8 : K.lookup f8 = some ⟨oc8, od8, .func (PySem.W.fnOf "has_date" "has_date" (defArgs s_has_date) (defBody s_has_date) (defScope s_has_date) .none kV8 dc8 pm8 an8 cd8 ct8), sl8⟩)
    (c8 : PySem.W.codeIn K cd8 "has_date" = true) (k8 : PySem.W.keepIn K (.ref f8) = true)
    (a9 : PySem.W.nsIn K mainGlobals "includes" = some (some (.ref f9)))
    (l9 : K.lookup f9 = some ⟨oc9, od9, .func (PySem.W.fnOf "includes" "includes" (defArgs s_includes) (defBody s_includes) (defScope s_includes) .none kV9 dc9 pm9 an9 cd9 ct9), sl9⟩)
    (c9 : PySem.W.codeIn K cd9 "includes" = true) (k9 : PySem.W.keepIn K (.ref f9) = true)
    (a10 : PySem.W.nsIn K mainGlobals "is_decree" = some (some (.ref f10)))
    (l10 : K.lookup f10 = some ⟨oc10, od10, .func (PySem.W.fnOf "is_decree" "is_decree" (defArgs s_is_decree) (defBody s_is_decree) (defScope s_is_decree) .none kV10 dc10 pm10 an10 cd10 ct10), sl10⟩)
    (c10 : PySem.W.codeIn K cd10 "is_decree" = true) (k10 : PySem.W.keepIn K (.ref f10) = true)
    (a11 : PySem.W.nsIn K mainGlobals "write_integer" = some (some (.ref f11)))
    (l11 : K.lookup f11 = some ⟨oc11, od11, .func (PySem.W.fnOf "write_integer" "write_integer" (defArgs s_write_integer) (defBody s_write_integer) (defScope s_write_integer) .none kV11 dc11 pm11 an11 cd11 ct11), sl11⟩)
    (c11 : PySem.W.codeIn K cd11 "write_integer" = true) (k11 : PySem.W.keepIn K (.ref f11) = true)
    (a12 : PySem.W.nsIn K mainGlobals "read_integer" = some (some (.ref f12)))
    (l12 : K.lookup f12 = some ⟨oc12, od12, .func (PySem.W.fnOf "read_integer" "read_integer" (defArgs s_read_integer) (defBody s_read_integer) (defScope s_read_integer) .none kV12 dc12 pm12 an12 cd12 ct12), sl12⟩)
    (c12 : PySem.W.codeIn K cd12 "read_integer" = true) (k12 : PySem.W.keepIn K (.ref f12) = true)
    (a13 : PySem.W.nsIn K mainGlobals "is_integer_word" = some (some (.ref f13)))
    (l13 : K.lookup f13 = some ⟨oc13, od13, .func (PySem.W.fnOf "is_integer_word" "is_integer_word" (defArgs s_is_integer_word) (defBody s_is_integer_word) (defScope s_is_integer_word) .none kV13 dc13 pm13 an13 cd13 ct13), sl13⟩)
    (c13 : PySem.W.codeIn K cd13 "is_integer_word" = true) (k13 : PySem.W.keepIn K (.ref f13) = true)
    (a14 : PySem.W.nsIn K mainGlobals "is_count_word" = some (some (.ref f14)))
    (l14 : K.lookup f14 = some ⟨oc14, od14, .func (PySem.W.fnOf "is_count_word" "is_count_word" (defArgs s_is_count_word) (defBody s_is_count_word) (defScope s_is_count_word) .none kV14 dc14 pm14 an14 cd14 ct14), sl14⟩)
    (c14 : PySem.W.codeIn K cd14 "is_count_word" = true) (k14 : PySem.W.keepIn K (.ref f14) = true)
    (a15 : PySem.W.nsIn K mainGlobals "is_day_word" = some (some (.ref f15)))
    (l15 : K.lookup f15 = some ⟨oc15, od15, .func (PySem.W.fnOf "is_day_word" "is_day_word" (defArgs s_is_day_word) (defBody s_is_day_word) (defScope s_is_day_word) .none kV15 dc15 pm15 an15 cd15 ct15), sl15⟩)
    (c15 : PySem.W.codeIn K cd15 "is_day_word" = true) (k15 : PySem.W.keepIn K (.ref f15) = true)
    (a16 : PySem.W.nsIn K mainGlobals "is_month_word" = some (some (.ref f16)))
    (l16 : K.lookup f16 = some ⟨oc16, od16, .func (PySem.W.fnOf "is_month_word" "is_month_word" (defArgs s_is_month_word) (defBody s_is_month_word) (defScope s_is_month_word) .none kV16 dc16 pm16 an16 cd16 ct16), sl16⟩)
    (c16 : PySem.W.codeIn K cd16 "is_month_word" = true) (k16 : PySem.W.keepIn K (.ref f16) = true)
    (a17 : PySem.W.nsIn K mainGlobals "has_form" = some (some (.ref f17)))
    (l17 : K.lookup f17 = some ⟨oc17, od17, .func (PySem.W.fnOf "has_form" "has_form" (defArgs s_has_form) (defBody s_has_form) (defScope s_has_form) .none kV17 dc17 pm17 an17 cd17 ct17), sl17⟩)
    (c17 : PySem.W.codeIn K cd17 "has_form" = true) (k17 : PySem.W.keepIn K (.ref f17) = true)
    (a18 : PySem.W.nsIn K mainGlobals "show_rule" = some (some (.ref f18)))
    (l18 : K.lookup f18 = some ⟨oc18, od18, .func (PySem.W.fnOf "show_rule" "show_rule" (defArgs s_show_rule) (defBody s_show_rule) (defScope s_show_rule) .none kV18 dc18 pm18 an18 cd18 ct18), sl18⟩)
    (c18 : PySem.W.codeIn K cd18 "show_rule" = true) (k18 : PySem.W.keepIn K (.ref f18) = true)
    (a19 : PySem.W.nsIn K mainGlobals "show_date" = some (some (.ref f19)))
    (l19 : K.lookup f19 = some ⟨oc19, od19, .func (PySem.W.fnOf "show_date" "show_date" (defArgs s_show_date) (defBody s_show_date) (defScope s_show_date) .none kV19 dc19 pm19 an19 cd19 ct19), sl19⟩)
    (c19 : PySem.W.codeIn K cd19 "show_date" = true) (k19 : PySem.W.keepIn K (.ref f19) = true)
    (a20 : PySem.W.nsIn K mainGlobals "show_decree" = some (some (.ref f20)))
    (l20 : K.lookup f20 = some ⟨oc20, od20, .func (PySem.W.fnOf "show_decree" "show_decree" (defArgs s_show_decree) (defBody s_show_decree) (defScope s_show_decree) .none kV20 dc20 pm20 an20 cd20 ct20), sl20⟩)
    (c20 : PySem.W.codeIn K cd20 "show_decree" = true) (k20 : PySem.W.keepIn K (.ref f20) = true)
    (a21 : PySem.W.nsIn K mainGlobals "read_rule" = some (some (.ref f21)))
    (l21 : K.lookup f21 = some ⟨oc21, od21, .func (PySem.W.fnOf "read_rule" "read_rule" (defArgs s_read_rule) (defBody s_read_rule) (defScope s_read_rule) .none kV21 dc21 pm21 an21 cd21 ct21), sl21⟩)
    (c21 : PySem.W.codeIn K cd21 "read_rule" = true) (k21 : PySem.W.keepIn K (.ref f21) = true)
    (a22 : PySem.W.nsIn K mainGlobals "read_date" = some (some (.ref f22)))
    (l22 : K.lookup f22 = some ⟨oc22, od22, .func (PySem.W.fnOf "read_date" "read_date" (defArgs s_read_date) (defBody s_read_date) (defScope s_read_date) .none kV22 dc22 pm22 an22 cd22 ct22), sl22⟩)
    (c22 : PySem.W.codeIn K cd22 "read_date" = true) (k22 : PySem.W.keepIn K (.ref f22) = true)
    (a23 : PySem.W.nsIn K mainGlobals "read_decree" = some (some (.ref f23)))
    (l23 : K.lookup f23 = some ⟨oc23, od23, .func (PySem.W.fnOf "read_decree" "read_decree" (defArgs s_read_decree) (defBody s_read_decree) (defScope s_read_decree) .none kV23 dc23 pm23 an23 cd23 ct23), sl23⟩)
    (c23 : PySem.W.codeIn K cd23 "read_decree" = true) (k23 : PySem.W.keepIn K (.ref f23) = true)
    (a24 : PySem.W.nsIn K mainGlobals "words_of" = some (some (.ref f24)))
    (l24 : K.lookup f24 = some ⟨oc24, od24, .func (PySem.W.fnOf "words_of" "words_of" (defArgs s_words_of) (defBody s_words_of) (defScope s_words_of) .none kV24 dc24 pm24 an24 cd24 ct24), sl24⟩)
    (c24 : PySem.W.codeIn K cd24 "words_of" = true) (k24 : PySem.W.keepIn K (.ref f24) = true)
    (a25 : PySem.W.nsIn K mainGlobals "check_words" = some (some (.ref f25)))
    (l25 : K.lookup f25 = some ⟨oc25, od25, .func (PySem.W.fnOf "check_words" "check_words" (defArgs s_check_words) (defBody s_check_words) (defScope s_check_words) .none kV25 dc25 pm25 an25 cd25 ct25), sl25⟩)
    (c25 : PySem.W.codeIn K cd25 "check_words" = true) (k25 : PySem.W.keepIn K (.ref f25) = true)
    (a26 : PySem.W.nsIn K mainGlobals "check_end" = some (some (.ref f26)))
    (l26 : K.lookup f26 = some ⟨oc26, od26, .func (PySem.W.fnOf "check_end" "check_end" (defArgs s_check_end) (defBody s_check_end) (defScope s_check_end) .none kV26 dc26 pm26 an26 cd26 ct26), sl26⟩)
    (c26 : PySem.W.codeIn K cd26 "check_end" = true) (k26 : PySem.W.keepIn K (.ref f26) = true)
    (a27 : PySem.W.nsIn K mainGlobals "check_rule_words" = some (some (.ref f27)))
    (l27 : K.lookup f27 = some ⟨oc27, od27, .func (PySem.W.fnOf "check_rule_words" "check_rule_words" (defArgs s_check_rule_words) (defBody s_check_rule_words) (defScope s_check_rule_words) .none kV27 dc27 pm27 an27 cd27 ct27), sl27⟩)
    (c27 : PySem.W.codeIn K cd27 "check_rule_words" = true) (k27 : PySem.W.keepIn K (.ref f27) = true)
    (a28 : PySem.W.nsIn K mainGlobals "make_date" = some (some (.ref f28)))
    (l28 : K.lookup f28 = some ⟨oc28, od28, .func (PySem.W.fnOf "make_date" "make_date" (defArgs s_make_date) (defBody s_make_date) (defScope s_make_date) .none kV28 dc28 pm28 an28 cd28 ct28), sl28⟩)
    (c28 : PySem.W.codeIn K cd28 "make_date" = true) (k28 : PySem.W.keepIn K (.ref f28) = true)
    (a29 : PySem.W.nsIn K mainGlobals "make_rule" = some (some (.ref f29)))
    (l29 : K.lookup f29 = some ⟨oc29, od29, .func (PySem.W.fnOf "make_rule" "make_rule" (defArgs s_make_rule) (defBody s_make_rule) (defScope s_make_rule) .none kV29 dc29 pm29 an29 cd29 ct29), sl29⟩)
    (c29 : PySem.W.codeIn K cd29 "make_rule" = true) (k29 : PySem.W.keepIn K (.ref f29) = true)
    (a30 : PySem.W.nsIn K mainGlobals "make_decree" = some (some (.ref f30)))
    (l30 : K.lookup f30 = some ⟨oc30, od30, .func (PySem.W.fnOf "make_decree" "make_decree" (defArgs s_make_decree) (defBody s_make_decree) (defScope s_make_decree) .none kV30 dc30 pm30 an30 cd30 ct30), sl30⟩)
    (c30 : PySem.W.codeIn K cd30 "make_decree" = true) (k30 : PySem.W.keepIn K (.ref f30) = true)
    (a31 : PySem.W.nsIn K mainGlobals "_law_source" = some (some (.ref f31)))
    (l31 : K.lookup f31 = some ⟨oc31, od31, .func (PySem.W.fnOf "_law_source" "_law_source" (defArgs s__law_source) (defBody s__law_source) (defScope s__law_source) .none kV31 dc31 pm31 an31 cd31 ct31), sl31⟩)
    (c31 : PySem.W.codeIn K cd31 "_law_source" = true) (k31 : PySem.W.keepIn K (.ref f31) = true)
    (a32 : PySem.W.nsIn K mainGlobals "_law_draw" = some (some (.ref f32)))
    (l32 : K.lookup f32 = some ⟨oc32, od32, .func (PySem.W.fnOf "_law_draw" "_law_draw" (defArgs s__law_draw) (defBody s__law_draw) (defScope s__law_draw) .none kV32 dc32 pm32 an32 cd32 ct32), sl32⟩)
    (c32 : PySem.W.codeIn K cd32 "_law_draw" = true) (k32 : PySem.W.keepIn K (.ref f32) = true)
    (a33 : PySem.W.nsIn K mainGlobals "_law_has" = some (some (.ref f33)))
    (l33 : K.lookup f33 = some ⟨oc33, od33, .func (PySem.W.fnOf "_law_has" "_law_has" (defArgs s__law_has) (defBody s__law_has) (defScope s__law_has) .none kV33 dc33 pm33 an33 cd33 ct33), sl33⟩)
    (c33 : PySem.W.codeIn K cd33 "_law_has" = true) (k33 : PySem.W.keepIn K (.ref f33) = true)
    (a34 : PySem.W.nsIn K mainGlobals "_law_whole" = some (some (.ref f34)))
    (l34 : K.lookup f34 = some ⟨oc34, od34, .func (PySem.W.fnOf "_law_whole" "_law_whole" (defArgs s__law_whole) (defBody s__law_whole) (defScope s__law_whole) .none kV34 dc34 pm34 an34 cd34 ct34), sl34⟩)
    (c34 : PySem.W.codeIn K cd34 "_law_whole" = true) (k34 : PySem.W.keepIn K (.ref f34) = true)
    (a35 : PySem.W.nsIn K mainGlobals "_law_is_name" = some (some (.ref f35)))
    (l35 : K.lookup f35 = some ⟨oc35, od35, .func (PySem.W.fnOf "_law_is_name" "_law_is_name" (defArgs s__law_is_name) (defBody s__law_is_name) (defScope s__law_is_name) .none kV35 dc35 pm35 an35 cd35 ct35), sl35⟩)
    (c35 : PySem.W.codeIn K cd35 "_law_is_name" = true) (k35 : PySem.W.keepIn K (.ref f35) = true)
    (a36 : PySem.W.nsIn K mainGlobals "_law_is_month" = some (some (.ref f36)))
    (l36 : K.lookup f36 = some ⟨oc36, od36, .func (PySem.W.fnOf "_law_is_month" "_law_is_month" (defArgs s__law_is_month) (defBody s__law_is_month) (defScope s__law_is_month) .none kV36 dc36 pm36 an36 cd36 ct36), sl36⟩)
    (c36 : PySem.W.codeIn K cd36 "_law_is_month" = true) (k36 : PySem.W.keepIn K (.ref f36) = true)
    (a37 : PySem.W.nsIn K mainGlobals "_law_is_year" = some (some (.ref f37)))
    (l37 : K.lookup f37 = some ⟨oc37, od37, .func (PySem.W.fnOf "_law_is_year" "_law_is_year" (defArgs s__law_is_year) (defBody s__law_is_year) (defScope s__law_is_year) .none kV37 dc37 pm37 an37 cd37 ct37), sl37⟩)
    (c37 : PySem.W.codeIn K cd37 "_law_is_year" = true) (k37 : PySem.W.keepIn K (.ref f37) = true)
    (a38 : PySem.W.nsIn K mainGlobals "_law_is_rule" = some (some (.ref f38)))
    (l38 : K.lookup f38 = some ⟨oc38, od38, .func (PySem.W.fnOf "_law_is_rule" "_law_is_rule" (defArgs s__law_is_rule) (defBody s__law_is_rule) (defScope s__law_is_rule) .none kV38 dc38 pm38 an38 cd38 ct38), sl38⟩)
    (c38 : PySem.W.codeIn K cd38 "_law_is_rule" = true) (k38 : PySem.W.keepIn K (.ref f38) = true)
    (a39 : PySem.W.nsIn K mainGlobals "_law_is_date" = some (some (.ref f39)))
    (l39 : K.lookup f39 = some ⟨oc39, od39, .func (PySem.W.fnOf "_law_is_date" "_law_is_date" (defArgs s__law_is_date) (defBody s__law_is_date) (defScope s__law_is_date) .none kV39 dc39 pm39 an39 cd39 ct39), sl39⟩)
    (c39 : PySem.W.codeIn K cd39 "_law_is_date" = true) (k39 : PySem.W.keepIn K (.ref f39) = true)
    (a40 : PySem.W.nsIn K mainGlobals "_law_is_decree" = some (some (.ref f40)))
    (l40 : K.lookup f40 = some ⟨oc40, od40, .func (PySem.W.fnOf "_law_is_decree" "_law_is_decree" (defArgs s__law_is_decree) (defBody s__law_is_decree) (defScope s__law_is_decree) .none kV40 dc40 pm40 an40 cd40 ct40), sl40⟩)
    (c40 : PySem.W.codeIn K cd40 "_law_is_decree" = true) (k40 : PySem.W.keepIn K (.ref f40) = true)
    (a41 : PySem.W.nsIn K mainGlobals "_law_is_whole_word" = some (some (.ref f41)))
    (l41 : K.lookup f41 = some ⟨oc41, od41, .func (PySem.W.fnOf "_law_is_whole_word" "_law_is_whole_word" (defArgs s__law_is_whole_word) (defBody s__law_is_whole_word) (defScope s__law_is_whole_word) .none kV41 dc41 pm41 an41 cd41 ct41), sl41⟩)
    (c41 : PySem.W.codeIn K cd41 "_law_is_whole_word" = true) (k41 : PySem.W.keepIn K (.ref f41) = true)
    (a42 : PySem.W.nsIn K mainGlobals "_law_fits" = some (some (.ref f42)))
    (l42 : K.lookup f42 = some ⟨oc42, od42, .func (PySem.W.fnOf "_law_fits" "_law_fits" (defArgs s__law_fits) (defBody s__law_fits) (defScope s__law_fits) .none kV42 dc42 pm42 an42 cd42 ct42), sl42⟩)
    (c42 : PySem.W.codeIn K cd42 "_law_fits" = true) (k42 : PySem.W.keepIn K (.ref f42) = true)
    (a43 : PySem.W.nsIn K mainGlobals "_law_rule_place" = some (some (.ref f43)))
    (l43 : K.lookup f43 = some ⟨oc43, od43, .func (PySem.W.fnOf "_law_rule_place" "_law_rule_place" (defArgs s__law_rule_place) (defBody s__law_rule_place) (defScope s__law_rule_place) .none kV43 dc43 pm43 an43 cd43 ct43), sl43⟩)
    (c43 : PySem.W.codeIn K cd43 "_law_rule_place" = true) (k43 : PySem.W.keepIn K (.ref f43) = true)
    (a44 : PySem.W.nsIn K mainGlobals "_law_place" = some (some (.ref f44)))
    (l44 : K.lookup f44 = some ⟨oc44, od44, .func (PySem.W.fnOf "_law_place" "_law_place" (defArgs s__law_place) (defBody s__law_place) (defScope s__law_place) .none kV44 dc44 pm44 an44 cd44 ct44), sl44⟩)
    (c44 : PySem.W.codeIn K cd44 "_law_place" = true) (k44 : PySem.W.keepIn K (.ref f44) = true)
    (a45 : PySem.W.nsIn K mainGlobals "_law_split" = some (some (.ref f45)))
    (l45 : K.lookup f45 = some ⟨oc45, od45, .func (PySem.W.fnOf "_law_split" "_law_split" (defArgs s__law_split) (defBody s__law_split) (defScope s__law_split) .none kV45 dc45 pm45 an45 cd45 ct45), sl45⟩)
    (c45 : PySem.W.codeIn K cd45 "_law_split" = true) (k45 : PySem.W.keepIn K (.ref f45) = true)
    (a46 : PySem.W.nsIn K mainGlobals "_law_told" = some (some (.ref f46)))
    (l46 : K.lookup f46 = some ⟨oc46, od46, .func (PySem.W.fnOf "_law_told" "_law_told" (defArgs s__law_told) (defBody s__law_told) (defScope s__law_told) .none kV46 dc46 pm46 an46 cd46 ct46), sl46⟩)
    (c46 : PySem.W.codeIn K cd46 "_law_told" = true) (k46 : PySem.W.keepIn K (.ref f46) = true)
    (a47 : PySem.W.nsIn K mainGlobals "_law_word" = some (some (.ref f47)))
    (l47 : K.lookup f47 = some ⟨oc47, od47, .func (PySem.W.fnOf "_law_word" "_law_word" (defArgs s__law_word) (defBody s__law_word) (defScope s__law_word) .none kV47 dc47 pm47 an47 cd47 ct47), sl47⟩)
    (c47 : PySem.W.codeIn K cd47 "_law_word" = true) (k47 : PySem.W.keepIn K (.ref f47) = true)
    (a48 : PySem.W.nsIn K mainGlobals "_law_line" = some (some (.ref f48)))
    (l48 : K.lookup f48 = some ⟨oc48, od48, .func (PySem.W.fnOf "_law_line" "_law_line" (defArgs s__law_line) (defBody s__law_line) (defScope s__law_line) .none kV48 dc48 pm48 an48 cd48 ct48), sl48⟩)
    (c48 : PySem.W.codeIn K cd48 "_law_line" = true) (k48 : PySem.W.keepIn K (.ref f48) = true)
    (a49 : PySem.W.nsIn K mainGlobals "_law_years" = some (some (.ref f49)))
    (l49 : K.lookup f49 = some ⟨oc49, od49, .func (PySem.W.fnOf "_law_years" "_law_years" (defArgs s__law_years) (defBody s__law_years) (defScope s__law_years) .none kV49 dc49 pm49 an49 cd49 ct49), sl49⟩)
    (c49 : PySem.W.codeIn K cd49 "_law_years" = true) (k49 : PySem.W.keepIn K (.ref f49) = true)
    (a50 : PySem.W.nsIn K mainGlobals "_law_three" = some (some (.ref f50)))
    (l50 : K.lookup f50 = some ⟨oc50, od50, .func (PySem.W.fnOf "_law_three" "_law_three" (defArgs s__law_three) (defBody s__law_three) (defScope s__law_three) .none kV50 dc50 pm50 an50 cd50 ct50), sl50⟩)
    (c50 : PySem.W.codeIn K cd50 "_law_three" = true) (k50 : PySem.W.keepIn K (.ref f50) = true)
    (a51 : PySem.W.nsIn K mainGlobals "_law_due" = some (some (.ref f51)))
    (l51 : K.lookup f51 = some ⟨oc51, od51, .func (PySem.W.fnOf "_law_due" "_law_due" (defArgs s__law_due) (defBody s__law_due) (defScope s__law_due) .none kV51 dc51 pm51 an51 cd51 ct51), sl51⟩)
    (c51 : PySem.W.codeIn K cd51 "_law_due" = true) (k51 : PySem.W.keepIn K (.ref f51) = true)
    (a52 : PySem.W.nsIn K mainGlobals "law" = some (some (.ref f52)))
    {cT52 PT52 : Addr} {eT52 : Value} {dT52 : Option Addr} {vT52 : Array Value} {sT52 : Array (Option Value)}
    (l52 : K.lookup f52 = some ⟨oc52, od52, .func (PySem.W.fnOf "law" "law" (defArgs s_law) (defBody s_law) (defScope s_law) .none kV52 dc52 pm52 an52 (.ref cT52) ct52), sl52⟩)
    (c52 : PySem.W.codeIn K (.ref cT52) "law" = true) (k52 : PySem.W.keepIn K (.ref f52) = true)
    (lt52 : K.lookup cT52 = some ⟨eT52, dT52, .fields vT52, sT52⟩) (vt52 : vT52[11]? = some (.ref PT52)) (nt52 : K.lookup PT52 = none) (rq52 : ((recsOf q).any fun e => e.name == "law") = true)
    (z0 : PySem.W.nsIn K mainGlobals "isinstance" = some none)
    (z1 : PySem.W.nsIn K mainGlobals "int" = some none)
    (z2 : PySem.W.nsIn K mainGlobals "bool" = some none)
    (z3 : PySem.W.nsIn K mainGlobals "str" = some none)
    (z4 : PySem.W.nsIn K mainGlobals "len" = some none)
    (z5 : PySem.W.nsIn K mainGlobals "tuple" = some none)
    (z6 : PySem.W.nsIn K mainGlobals "all" = some none)
    (z7 : PySem.W.nsIn K mainGlobals "any" = some none)
    (z8 : PySem.W.nsIn K mainGlobals "reversed" = some none)
    (z9 : PySem.W.nsIn K mainGlobals "range" = some none)
    (z10 : PySem.W.nsIn K mainGlobals "enumerate" = some none)
    (z11 : PySem.W.nsIn K mainGlobals "abs" = some none)
    (z12 : PySem.W.nsIn K mainGlobals "dict" = some none)
    (z13 : PySem.W.nsIn K mainGlobals "min" = some none)
    (z14 : PySem.W.nsIn K mainGlobals "max" = some none)
    (z15 : PySem.W.nsIn K mainGlobals "ValueError" = some none)
    (x0 : PySem.W.nsIn K mainGlobals "LONGEST_NAME" = some (some (.int 8 u0)))
    (x1 : PySem.W.nsIn K mainGlobals "MOST_DAYS" = some (some (.int 60 u1)))
    (x2 : PySem.W.nsIn K mainGlobals "MOST_MONTHS" = some (some (.int 13 u2)))
    (x3 : PySem.W.nsIn K mainGlobals "MOST_YEARS" = some (some (.int 20 u3)))
    (x4 : PySem.W.nsIn K mainGlobals "PIECE" = some (some (.int 64 u4)))
    (x5 : PySem.W.nsIn K mainGlobals "PIECE_END" = some (some (.int 10000000000000000000000000000000000000000000000000000000000000000 u5)))
    {AG0 : Addr} (aAG0 : PySem.W.nsIn K mainGlobals "DATE_FORMS" = some (some (.ref AG0)))
    {uG0_0 uG0_1 uG0_2 : Tok} {nG0 : Nat} {slG0 : Array (Option Value)} (lAG0 : K.lookup AG0 = some ⟨.type "tuple", none, .seq #[.str "year" uG0_0, .str "name" uG0_1, .str "day" uG0_2] nG0, slG0⟩)
    {AG1 : Addr} (aAG1 : PySem.W.nsIn K mainGlobals "DECREE_FORMS" = some (some (.ref AG1)))
    {hG1_0 hG1_1 hG1_2 hG1_3 : Int} {qG1_0 qG1_1 qG1_2 qG1_3 : Tok} {AG1_0 AG1_1 AG1_2 AG1_3 : Addr} {mG1 : Nat}
    (lDG1 : K.lookup AG1 = some { cls := .type "dict", data := .dict #[⟨hG1_0, .str "rule" qG1_0, .ref AG1_0⟩, ⟨hG1_1, .str "jump" qG1_1, .ref AG1_1⟩, ⟨hG1_2, .str "rename" qG1_2, .ref AG1_2⟩, ⟨hG1_3, .str "restore" qG1_3, .ref AG1_3⟩] mG1 }) (kDG1 : PySem.W.KeysLit w.params [⟨hG1_0, .str "rule" qG1_0, .ref AG1_0⟩, ⟨hG1_1, .str "jump" qG1_1, .ref AG1_1⟩, ⟨hG1_2, .str "rename" qG1_2, .ref AG1_2⟩, ⟨hG1_3, .str "restore" qG1_3, .ref AG1_3⟩]) (sDG1 : (AG1 == sysModules) = false)
    {uG1_0_0 uG1_0_1 uG1_0_2 uG1_0_3 uG1_0_4 uG1_0_5 uG1_0_6 : Tok} {nG1_0 : Nat} {slG1_0 : Array (Option Value)} (lAG1_0 : K.lookup AG1_0 = some ⟨.type "tuple", none, .seq #[.str "made" uG1_0_0, .str "year" uG1_0_1, .str "name" uG1_0_2, .str "day" uG1_0_3, .str "year" uG1_0_4, .str "name" uG1_0_5, .str "day" uG1_0_6] nG1_0, slG1_0⟩)
    {uG1_1_0 uG1_1_1 uG1_1_2 uG1_1_3 uG1_1_4 uG1_1_5 uG1_1_6 : Tok} {nG1_1 : Nat} {slG1_1 : Array (Option Value)} (lAG1_1 : K.lookup AG1_1 = some ⟨.type "tuple", none, .seq #[.str "made" uG1_1_0, .str "year" uG1_1_1, .str "name" uG1_1_2, .str "day" uG1_1_3, .str "year" uG1_1_4, .str "name" uG1_1_5, .str "day" uG1_1_6] nG1_1, slG1_1⟩)
    {uG1_2_0 uG1_2_1 uG1_2_2 uG1_2_3 uG1_2_4 uG1_2_5 : Tok} {nG1_2 : Nat} {slG1_2 : Array (Option Value)} (lAG1_2 : K.lookup AG1_2 = some ⟨.type "tuple", none, .seq #[.str "made" uG1_2_0, .str "year" uG1_2_1, .str "name" uG1_2_2, .str "day" uG1_2_3, .str "name" uG1_2_4, .str "name" uG1_2_5] nG1_2, slG1_2⟩)
    {uG1_3_0 uG1_3_1 uG1_3_2 uG1_3_3 : Tok} {nG1_3 : Nat} {slG1_3 : Array (Option Value)} (lAG1_3 : K.lookup AG1_3 = some ⟨.type "tuple", none, .seq #[.str "made" uG1_3_0, .str "year" uG1_3_1, .str "name" uG1_3_2, .str "day" uG1_3_3] nG1_3, slG1_3⟩)
    (wValueError : PySem.W.findCls K (.type "ValueError") (.type "type") "__init__" = some (.val (.builtin "ValueError.__init__")))
    (xgn : PySem.W.specialIn K (.builtin "object.__class__") "__get__" = some (some (.builtin "getset_descriptor.__get__"))) (xgt : PySem.W.takesIn K (.builtin "object.__class__") = some true)
    {CENoText IENoText NENoText : Addr} {nmENoText qqENoText : Str} {bsENoText : List Value} {snENoText : List Str} {subENoText : List Value} {abENoText : Bool} {colENoText : Option Bool} {ddENoText : Option Addr} {m0ENoText m1ENoText m2ENoText m3ENoText m5ENoText : Option Value} {ocENoText kVENoText dcENoText pmENoText cdENoText ctENoText : Value} {odENoText anENoText : Option Addr} {slENoText : Array (Option Value)}
    (aCENoText : PySem.W.nsIn K mainGlobals "NoText" = some (some (.ref CENoText)))
    (xLENoText : K.lookup CENoText = some (excClassObj nmENoText qqENoText CENoText NENoText bsENoText [.type "ValueError", .type "Exception", .type "BaseException", .type "object"] true snENoText subENoText abENoText colENoText ddENoText m0ENoText m1ENoText m2ENoText m3ENoText m5ENoText "ValueError.__new__"))
    (saENoText : PySem.W.findIn K (.ref CENoText) "__setattr__" = some (some (.builtin "object.__setattr__"))) (gaENoText : PySem.W.findIn K (.ref CENoText) "__getattribute__" = some (some (.builtin "BaseException.__getattribute__"))) (ggENoText : PySem.W.findIn K (.ref CENoText) "__getattr__" = some none) (nfENoText : PySem.W.findIn K (.ref CENoText) "place" = some none)
    (i1ENoText : PySem.W.findIn K (.ref CENoText) "__init__" = some (some (.ref IENoText))) (t1ENoText : PySem.W.typeIn K (.ref IENoText) = some (.type "function"))
    (l1ENoText : K.lookup IENoText = some ⟨ocENoText, odENoText, .func (PySem.W.fnOf "__init__" "NoText.__init__" (defArgs s_NoText) (defBody s_NoText) (defScope s_NoText) .none kVENoText dcENoText pmENoText anENoText cdENoText ctENoText), slENoText⟩) (c1ENoText : PySem.W.codeIn K cdENoText "NoText.__init__" = true) (k1ENoText : PySem.W.keepIn K (.ref IENoText) = true)
    (kCENoText : PySem.W.keepIn K (.ref CENoText) = true) (eCENoText : PySem.W.subIn K (.ref CENoText) (.type "BaseException") = some true) (tCENoText : PySem.W.typeIn K (.ref CENoText) = some (.type "type")) (hCENoText : PySem.W.hasDictIn K CENoText = true) (iCENoText : PySem.W.isClsIn K CENoText = true) (sCENoText : PySem.W.subIn K (.ref CENoText) (.ref CENoText) = some true) (caENoText : PySem.W.findIn K (.ref CENoText) "__class__" = some (some (.builtin "object.__class__"))) (moENoText : PySem.W.mroIn K CENoText (.type "object") = some true)
    {CENoRule IENoRule NENoRule : Addr} {nmENoRule qqENoRule : Str} {bsENoRule : List Value} {snENoRule : List Str} {subENoRule : List Value} {abENoRule : Bool} {colENoRule : Option Bool} {ddENoRule : Option Addr} {m0ENoRule m1ENoRule m2ENoRule m3ENoRule m5ENoRule : Option Value} {ocENoRule kVENoRule dcENoRule pmENoRule cdENoRule ctENoRule : Value} {odENoRule anENoRule : Option Addr} {slENoRule : Array (Option Value)}
    (aCENoRule : PySem.W.nsIn K mainGlobals "NoRule" = some (some (.ref CENoRule)))
    (xLENoRule : K.lookup CENoRule = some (excClassObj nmENoRule qqENoRule CENoRule NENoRule bsENoRule [.type "ValueError", .type "Exception", .type "BaseException", .type "object"] true snENoRule subENoRule abENoRule colENoRule ddENoRule m0ENoRule m1ENoRule m2ENoRule m3ENoRule m5ENoRule "ValueError.__new__"))
    (saENoRule : PySem.W.findIn K (.ref CENoRule) "__setattr__" = some (some (.builtin "object.__setattr__"))) (gaENoRule : PySem.W.findIn K (.ref CENoRule) "__getattribute__" = some (some (.builtin "BaseException.__getattribute__"))) (ggENoRule : PySem.W.findIn K (.ref CENoRule) "__getattr__" = some none) (nfENoRule : PySem.W.findIn K (.ref CENoRule) "rule" = some none)
    (i1ENoRule : PySem.W.findIn K (.ref CENoRule) "__init__" = some (some (.ref IENoRule))) (t1ENoRule : PySem.W.typeIn K (.ref IENoRule) = some (.type "function"))
    (l1ENoRule : K.lookup IENoRule = some ⟨ocENoRule, odENoRule, .func (PySem.W.fnOf "__init__" "NoRule.__init__" (defArgs s_NoRule) (defBody s_NoRule) (defScope s_NoRule) .none kVENoRule dcENoRule pmENoRule anENoRule cdENoRule ctENoRule), slENoRule⟩) (c1ENoRule : PySem.W.codeIn K cdENoRule "NoRule.__init__" = true) (k1ENoRule : PySem.W.keepIn K (.ref IENoRule) = true)
    (kCENoRule : PySem.W.keepIn K (.ref CENoRule) = true) (eCENoRule : PySem.W.subIn K (.ref CENoRule) (.type "BaseException") = some true) (tCENoRule : PySem.W.typeIn K (.ref CENoRule) = some (.type "type")) (hCENoRule : PySem.W.hasDictIn K CENoRule = true) (iCENoRule : PySem.W.isClsIn K CENoRule = true) (sCENoRule : PySem.W.subIn K (.ref CENoRule) (.ref CENoRule) = some true) (caENoRule : PySem.W.findIn K (.ref CENoRule) "__class__" = some (some (.builtin "object.__class__"))) (moENoRule : PySem.W.mroIn K CENoRule (.type "object") = some true)
    : LawT l w K CX0 k 63 "_law_script" mg fa h := by
  have e := hfa.symm.trans (PySem.W.mg_of KX G a52)
  cases e
  have F0 := fun_mk (st := s_is_int) l0 c0 k0
  have F1 := fun_mk (st := s_is_day) l1 c1 k1
  have F2 := fun_mk (st := s_is_name) l2 c2 k2
  have F3 := fun_mk (st := s_is_rule) l3 c3 k3
  have F4 := fun_mk (st := s_is_year) l4 c4 k4
  have F5 := fun_mk (st := s_is_month) l5 c5 k5
  have F6 := fun_mk (st := s_is_day_of_month) l6 c6 k6
  have F7 := fun_mk (st := s_is_date) l7 c7 k7
  have F8 := fun_mk (st := s_has_date) l8 c8 k8
  have F9 := fun_mk (st := s_includes) l9 c9 k9
  have F10 := fun_mk (st := s_is_decree) l10 c10 k10
  have F11 := fun_mk (st := s_write_integer) l11 c11 k11
  have F12 := fun_mk (st := s_read_integer) l12 c12 k12
  have F13 := fun_mk (st := s_is_integer_word) l13 c13 k13
  have F14 := fun_mk (st := s_is_count_word) l14 c14 k14
  have F15 := fun_mk (st := s_is_day_word) l15 c15 k15
  have F16 := fun_mk (st := s_is_month_word) l16 c16 k16
  have F17 := fun_mk (st := s_has_form) l17 c17 k17
  have F18 := fun_mk (st := s_show_rule) l18 c18 k18
  have F19 := fun_mk (st := s_show_date) l19 c19 k19
  have F20 := fun_mk (st := s_show_decree) l20 c20 k20
  have F21 := fun_mk (st := s_read_rule) l21 c21 k21
  have F22 := fun_mk (st := s_read_date) l22 c22 k22
  have F23 := fun_mk (st := s_read_decree) l23 c23 k23
  have F24 := fun_mk (st := s_words_of) l24 c24 k24
  have F25 := fun_mk (st := s_check_words) l25 c25 k25
  have F26 := fun_mk (st := s_check_end) l26 c26 k26
  have F27 := fun_mk (st := s_check_rule_words) l27 c27 k27
  have F28 := fun_mk (st := s_make_date) l28 c28 k28
  have F29 := fun_mk (st := s_make_rule) l29 c29 k29
  have F30 := fun_mk (st := s_make_decree) l30 c30 k30
  have F31 := fun_mk (st := s__law_source) l31 c31 k31
  have F32 := fun_mk (st := s__law_draw) l32 c32 k32
  have F33 := fun_mk (st := s__law_has) l33 c33 k33
  have F34 := fun_mk (st := s__law_whole) l34 c34 k34
  have F35 := fun_mk (st := s__law_is_name) l35 c35 k35
  have F36 := fun_mk (st := s__law_is_month) l36 c36 k36
  have F37 := fun_mk (st := s__law_is_year) l37 c37 k37
  have F38 := fun_mk (st := s__law_is_rule) l38 c38 k38
  have F39 := fun_mk (st := s__law_is_date) l39 c39 k39
  have F40 := fun_mk (st := s__law_is_decree) l40 c40 k40
  have F41 := fun_mk (st := s__law_is_whole_word) l41 c41 k41
  have F42 := fun_mk (st := s__law_fits) l42 c42 k42
  have F43 := fun_mk (st := s__law_rule_place) l43 c43 k43
  have F44 := fun_mk (st := s__law_place) l44 c44 k44
  have F45 := fun_mk (st := s__law_split) l45 c45 k45
  have F46 := fun_mk (st := s__law_told) l46 c46 k46
  have F47 := fun_mk (st := s__law_word) l47 c47 k47
  have F48 := fun_mk (st := s__law_line) l48 c48 k48
  have F49 := fun_mk (st := s__law_years) l49 c49 k49
  have F50 := fun_mk (st := s__law_three) l50 c50 k50
  have F51 := fun_mk (st := s__law_due) l51 c51 k51
  have F52 := fun_mk (st := s_law) l52 c52 k52
  have b0 := F0.binds (ps := ["thing"]) fun _ _ _ _ _ _ us hl => match us, hl with | [_], _ => rfl
  have b1 := F1.binds (ps := ["thing"]) fun _ _ _ _ _ _ us hl => match us, hl with | [_], _ => rfl
  have b2 := F2.binds (ps := ["thing"]) fun _ _ _ _ _ _ us hl => match us, hl with | [_], _ => rfl
  have b3 := F3.binds (ps := ["thing"]) fun _ _ _ _ _ _ us hl => match us, hl with | [_], _ => rfl
  have b4 := F4.binds (ps := ["thing"]) fun _ _ _ _ _ _ us hl => match us, hl with | [_], _ => rfl
  have b5 := F5.binds (ps := ["thing"]) fun _ _ _ _ _ _ us hl => match us, hl with | [_], _ => rfl
  have b6 := F6.binds (ps := ["thing"]) fun _ _ _ _ _ _ us hl => match us, hl with | [_], _ => rfl
  have b7 := F7.binds (ps := ["thing"]) fun _ _ _ _ _ _ us hl => match us, hl with | [_], _ => rfl
  have b8 := F8.binds (ps := ["rule", "date"]) fun _ _ _ _ _ _ us hl => match us, hl with | [_, _], _ => rfl
  have b9 := F9.binds (ps := ["rule", "date"]) fun _ _ _ _ _ _ us hl => match us, hl with | [_, _], _ => rfl
  have b10 := F10.binds (ps := ["thing"]) fun _ _ _ _ _ _ us hl => match us, hl with | [_], _ => rfl
  have b11 := F11.binds (ps := ["number"]) fun _ _ _ _ _ _ us hl => match us, hl with | [_], _ => rfl
  have b12 := F12.binds (ps := ["word"]) fun _ _ _ _ _ _ us hl => match us, hl with | [_], _ => rfl
  have b13 := F13.binds (ps := ["word"]) fun _ _ _ _ _ _ us hl => match us, hl with | [_], _ => rfl
  have b14 := F14.binds (ps := ["word"]) fun _ _ _ _ _ _ us hl => match us, hl with | [_], _ => rfl
  have b15 := F15.binds (ps := ["word"]) fun _ _ _ _ _ _ us hl => match us, hl with | [_], _ => rfl
  have b16 := F16.binds (ps := ["word"]) fun _ _ _ _ _ _ us hl => match us, hl with | [_], _ => rfl
  have b17 := F17.binds (ps := ["word", "form"]) fun _ _ _ _ _ _ us hl => match us, hl with | [_, _], _ => rfl
  have b18 := F18.binds (ps := ["rule"]) fun _ _ _ _ _ _ us hl => match us, hl with | [_], _ => rfl
  have b19 := F19.binds (ps := ["date"]) fun _ _ _ _ _ _ us hl => match us, hl with | [_], _ => rfl
  have b20 := F20.binds (ps := ["decree"]) fun _ _ _ _ _ _ us hl => match us, hl with | [_], _ => rfl
  have b21 := F21.binds (ps := ["text"]) fun _ _ _ _ _ _ us hl => match us, hl with | [_], _ => rfl
  have b22 := F22.binds (ps := ["text"]) fun _ _ _ _ _ _ us hl => match us, hl with | [_], _ => rfl
  have b23 := F23.binds (ps := ["text"]) fun _ _ _ _ _ _ us hl => match us, hl with | [_], _ => rfl
  have b24 := F24.binds (ps := ["text"]) fun _ _ _ _ _ _ us hl => match us, hl with | [_], _ => rfl
  have b25 := F25.binds (ps := ["words", "at", "forms"]) fun _ _ _ _ _ _ us hl => match us, hl with | [_, _, _], _ => rfl
  have b26 := F26.binds (ps := ["words", "at"]) fun _ _ _ _ _ _ us hl => match us, hl with | [_, _], _ => rfl
  have b27 := F27.binds (ps := ["words", "at"]) fun _ _ _ _ _ _ us hl => match us, hl with | [_, _], _ => rfl
  have b28 := F28.binds (ps := ["words"]) fun _ _ _ _ _ _ us hl => match us, hl with | [_], _ => rfl
  have b29 := F29.binds (ps := ["words"]) fun _ _ _ _ _ _ us hl => match us, hl with | [_], _ => rfl
  have b30 := F30.binds (ps := ["words"]) fun _ _ _ _ _ _ us hl => match us, hl with | [_], _ => rfl
  have b31 := F31.binds (ps := ["_law_script", "_law_at"]) fun _ _ _ _ _ _ us hl => match us, hl with | [_, _], _ => rfl
  have b32 := F32.binds (ps := ["_law_source_here", "_law_many"]) fun _ _ _ _ _ _ us hl => match us, hl with | [_, _], _ => rfl
  have b33 := F33.binds (ps := ["_law_plan", "_law_when"]) fun _ _ _ _ _ _ us hl => match us, hl with | [_, _], _ => rfl
  have b34 := F34.binds (ps := ["_law_value"]) fun _ _ _ _ _ _ us hl => match us, hl with | [_], _ => rfl
  have b35 := F35.binds (ps := ["_law_value"]) fun _ _ _ _ _ _ us hl => match us, hl with | [_], _ => rfl
  have b36 := F36.binds (ps := ["_law_value"]) fun _ _ _ _ _ _ us hl => match us, hl with | [_], _ => rfl
  have b37 := F37.binds (ps := ["_law_value"]) fun _ _ _ _ _ _ us hl => match us, hl with | [_], _ => rfl
  have b38 := F38.binds (ps := ["_law_value"]) fun _ _ _ _ _ _ us hl => match us, hl with | [_], _ => rfl
  have b39 := F39.binds (ps := ["_law_value"]) fun _ _ _ _ _ _ us hl => match us, hl with | [_], _ => rfl
  have b40 := F40.binds (ps := ["_law_value"]) fun _ _ _ _ _ _ us hl => match us, hl with | [_], _ => rfl
  have b41 := F41.binds (ps := ["_law_word_here"]) fun _ _ _ _ _ _ us hl => match us, hl with | [_], _ => rfl
  have b42 := F42.binds (ps := ["_law_word_here", "_law_form"]) fun _ _ _ _ _ _ us hl => match us, hl with | [_, _], _ => rfl
  have b43 := F43.binds (ps := ["_law_words", "_law_at"]) fun _ _ _ _ _ _ us hl => match us, hl with | [_, _], _ => rfl
  have b44 := F44.binds (ps := ["_law_words", "_law_forms", "_law_has_rule"]) fun _ _ _ _ _ _ us hl => match us, hl with | [_, _, _], _ => rfl
  have b45 := F45.binds (ps := ["_law_line_here"]) fun _ _ _ _ _ _ us hl => match us, hl with | [_], _ => rfl
  have b46 := F46.binds (ps := ["_law_call"]) fun _ _ _ _ _ _ us hl => match us, hl with | [_], _ => rfl
  have b47 := F47.binds (ps := ["_law_source_here", "_law_form"]) fun _ _ _ _ _ _ us hl => match us, hl with | [_, _], _ => rfl
  have b48 := F48.binds (ps := ["_law_source_here"]) fun _ _ _ _ _ _ us hl => match us, hl with | [_], _ => rfl
  have b49 := F49.binds (ps := ["_law_words"]) fun _ _ _ _ _ _ us hl => match us, hl with | [_], _ => rfl
  have b50 := F50.binds (ps := ["_law_words", "_law_at"]) fun _ _ _ _ _ _ us hl => match us, hl with | [_, _], _ => rfl
  have b51 := F51.binds (ps := ["_law_line_here"]) fun _ _ _ _ _ _ us hl => match us, hl with | [_], _ => rfl
  have b52 := F52.binds (ps := ["_law_script"]) fun _ _ _ _ _ _ us hl => match us, hl with | [_], _ => rfl
  have FENoText := fun_mk (st := s_NoText) l1ENoText c1ENoText k1ENoText
  have bENoText := FENoText.binds (ps := ["self", "place"]) fun _ _ _ _ _ _ us hl => match us, hl with | [_, _], _ => rfl
  have FENoRule := fun_mk (st := s_NoRule) l1ENoRule c1ENoRule k1ENoRule
  have bENoRule := FENoRule.binds (ps := ["self", "rule"]) fun _ _ _ _ _ _ us hl => match us, hl with | [_, _], _ => rfl
  have B52 := tabs _ _ _ rq52 (tabIn_by a52 l52 rfl lt52 vt52)
  let T : Top K mg := ⟨_, _, F0, PySem.W.mg_of KX G a0, b0, _, _, F1, PySem.W.mg_of KX G a1, b1, _, _, F2, PySem.W.mg_of KX G a2, b2, _, _, F3, PySem.W.mg_of KX G a3, b3, _, _, F4, PySem.W.mg_of KX G a4, b4, _, _, F5, PySem.W.mg_of KX G a5, b5, _, _, F6, PySem.W.mg_of KX G a6, b6, _, _, F7, PySem.W.mg_of KX G a7, b7, _, _, F8, PySem.W.mg_of KX G a8, b8, _, _, F9, PySem.W.mg_of KX G a9, b9, _, _, F10, PySem.W.mg_of KX G a10, b10, _, _, F11, PySem.W.mg_of KX G a11, b11, _, _, F12, PySem.W.mg_of KX G a12, b12, _, _, F13, PySem.W.mg_of KX G a13, b13, _, _, F14, PySem.W.mg_of KX G a14, b14, _, _, F15, PySem.W.mg_of KX G a15, b15, _, _, F16, PySem.W.mg_of KX G a16, b16, _, _, F17, PySem.W.mg_of KX G a17, b17, _, _, F18, PySem.W.mg_of KX G a18, b18, _, _, F19, PySem.W.mg_of KX G a19, b19, _, _, F20, PySem.W.mg_of KX G a20, b20, _, _, F21, PySem.W.mg_of KX G a21, b21, _, _, F22, PySem.W.mg_of KX G a22, b22, _, _, F23, PySem.W.mg_of KX G a23, b23, _, _, F24, PySem.W.mg_of KX G a24, b24, _, _, F25, PySem.W.mg_of KX G a25, b25, _, _, F26, PySem.W.mg_of KX G a26, b26, _, _, F27, PySem.W.mg_of KX G a27, b27, _, _, F28, PySem.W.mg_of KX G a28, b28, _, _, F29, PySem.W.mg_of KX G a29, b29, _, _, F30, PySem.W.mg_of KX G a30, b30, _, _, F31, PySem.W.mg_of KX G a31, b31, _, _, F32, PySem.W.mg_of KX G a32, b32, _, _, F33, PySem.W.mg_of KX G a33, b33, _, _, F34, PySem.W.mg_of KX G a34, b34, _, _, F35, PySem.W.mg_of KX G a35, b35, _, _, F36, PySem.W.mg_of KX G a36, b36, _, _, F37, PySem.W.mg_of KX G a37, b37, _, _, F38, PySem.W.mg_of KX G a38, b38, _, _, F39, PySem.W.mg_of KX G a39, b39, _, _, F40, PySem.W.mg_of KX G a40, b40, _, _, F41, PySem.W.mg_of KX G a41, b41, _, _, F42, PySem.W.mg_of KX G a42, b42, _, _, F43, PySem.W.mg_of KX G a43, b43, _, _, F44, PySem.W.mg_of KX G a44, b44, _, _, F45, PySem.W.mg_of KX G a45, b45, _, _, F46, PySem.W.mg_of KX G a46, b46, _, _, F47, PySem.W.mg_of KX G a47, b47, _, _, F48, PySem.W.mg_of KX G a48, b48, _, _, F49, PySem.W.mg_of KX G a49, b49, _, _, F50, PySem.W.mg_of KX G a50, b50, _, _, F51, PySem.W.mg_of KX G a51, b51, _, _, F52, PySem.W.mg_of KX G a52, b52, PySem.W.mg_none_of KX G z0, PySem.W.mg_none_of KX G z1, PySem.W.mg_none_of KX G z2, PySem.W.mg_none_of KX G z3, PySem.W.mg_none_of KX G z4, PySem.W.mg_none_of KX G z5, PySem.W.mg_none_of KX G z6, PySem.W.mg_none_of KX G z7, PySem.W.mg_none_of KX G z8, PySem.W.mg_none_of KX G z9, PySem.W.mg_none_of KX G z10, PySem.W.mg_none_of KX G z11, PySem.W.mg_none_of KX G z12, PySem.W.mg_none_of KX G z13, PySem.W.mg_none_of KX G z14, PySem.W.mg_none_of KX G z15, wValueError, _, _, _, { g := PySem.W.mg_of KX G aCENoText, o := ⟨⟨_, _, _, _, _, _, _, _, _, _, _, _, _, _, _, xLENoText, by decide +kernel⟩, saENoText, eCENoText, tCENoText, kCENoText⟩, iC := i1ENoText, tI := t1ENoText, xf := ⟨gaENoText, ggENoText, eCENoText, hCENoText⟩, ec := ⟨gaENoText, ggENoText, eCENoText, hCENoText, caENoText, xgn, xgt, moENoText⟩, no := nfENoText, cl := iCENoText, te := PySem.W.exm_ref eCENoText hCENoText tCENoText sCENoText, F := FENoText, b := bENoText }, _, _, _, { g := PySem.W.mg_of KX G aCENoRule, o := ⟨⟨_, _, _, _, _, _, _, _, _, _, _, _, _, _, _, xLENoRule, by decide +kernel⟩, saENoRule, eCENoRule, tCENoRule, kCENoRule⟩, iC := i1ENoRule, tI := t1ENoRule, xf := ⟨gaENoRule, ggENoRule, eCENoRule, hCENoRule⟩, ec := ⟨gaENoRule, ggENoRule, eCENoRule, hCENoRule, caENoRule, xgn, xgt, moENoRule⟩, no := nfENoRule, cl := iCENoRule, te := PySem.W.exm_ref eCENoRule hCENoRule tCENoRule sCENoRule, F := FENoRule, b := bENoRule }, _, PT52, rfl, ⟨_, PySem.W.mg_of KX G x0⟩, ⟨_, PySem.W.mg_of KX G x1⟩, ⟨_, PySem.W.mg_of KX G x2⟩, ⟨_, PySem.W.mg_of KX G x3⟩, ⟨_, PySem.W.mg_of KX G x4⟩, ⟨_, PySem.W.mg_of KX G x5⟩, w.params, _, PySem.W.mg_of KX G aAG0, sqF_of (cls := .none) lAG0 (.cons ⟨_, rfl⟩ (.cons ⟨_, rfl⟩ (.cons ⟨_, rfl⟩ .nil))) (by show 3 ≤ 1000000; decide), _, PySem.W.mg_of KX G aAG1, _, sqF_of (cls := .none) lAG1_0 (.cons ⟨_, rfl⟩ (.cons ⟨_, rfl⟩ (.cons ⟨_, rfl⟩ (.cons ⟨_, rfl⟩ (.cons ⟨_, rfl⟩ (.cons ⟨_, rfl⟩ (.cons ⟨_, rfl⟩ .nil))))))) (by show 7 ≤ 1000000; decide), _, sqF_of (cls := .none) lAG1_1 (.cons ⟨_, rfl⟩ (.cons ⟨_, rfl⟩ (.cons ⟨_, rfl⟩ (.cons ⟨_, rfl⟩ (.cons ⟨_, rfl⟩ (.cons ⟨_, rfl⟩ (.cons ⟨_, rfl⟩ .nil))))))) (by show 7 ≤ 1000000; decide), _, sqF_of (cls := .none) lAG1_2 (.cons ⟨_, rfl⟩ (.cons ⟨_, rfl⟩ (.cons ⟨_, rfl⟩ (.cons ⟨_, rfl⟩ (.cons ⟨_, rfl⟩ (.cons ⟨_, rfl⟩ .nil)))))) (by show 6 ≤ 1000000; decide), _, sqF_of (cls := .none) lAG1_3 (.cons ⟨_, rfl⟩ (.cons ⟨_, rfl⟩ (.cons ⟨_, rfl⟩ (.cons ⟨_, rfl⟩ .nil)))) (by show 4 ≤ 1000000; decide), ktab_mk [(hG1_0, "rule", qG1_0, AG1_0), (hG1_1, "jump", qG1_1, AG1_1), (hG1_2, "rename", qG1_2, AG1_2), (hG1_3, "restore", qG1_3, AG1_3)] lDG1 kDG1 sDG1⟩
  refine ⟨_, [(cT52, PT52)], sp T, fun p hp => ?_, fun s v => .of_eq rfl, fun H a ns h1 h2 h3 => okS T H a ns h1 (h2 (cT52, PT52) (by simp)) h3, fun base _ _ tb => okL T base rfl (tb (cT52, PT52) (by simp))⟩
  simp only [List.mem_cons, List.not_mem_nil, or_false] at hp
  rcases hp with rfl
  · exact ⟨B52.1, B52.2, nt52⟩
end LW
open PySem PySem.W PyProof.Rows
set_option maxRecDepth 100000 in
set_option maxHeartbeats 0 in
theorem PySem.Challenge.cw_decreedays_k62_whole_any_words_holds : PySem.Challenge.rw_decreedays_k62_whole_any_words.Holds := by
  w_on; o_law; k_head; (case hw => w_witness2)
  k_fill
  refine DD.walkRT (l := PySem.Challenge.rw_decreedays_k62_whole_any_words) (n := 63) (k := 11) (x := "_law_script") (CX := L2.CX0) rfl (by decide) rfl ⟨rfl, by decide, by decide⟩ (fun w h Y => PySem.W.km_in_of Y) ?F (fun _ _ _ _ z => z)
  case F =>
    intro w mg fa h KX G hmg TB
    refine' LW.mkAll (sp := fun T => LW.spLaw T) KX G hmg TB (fun T base => LW.ok_law T) (fun T H a ns h1 t0 h3 => ⟨a, ns, rfl, h3, h1, t0, fun _ => rfl⟩) ?a0 ?l0 ?c0 ?k0 ?a1 ?l1 ?c1 ?k1 ?a2 ?l2 ?c2 ?k2 ?a3 ?l3 ?c3 ?k3 ?a4 ?l4 ?c4 ?k4 ?a5 ?l5 ?c5 ?k5 ?a6 ?l6 ?c6 ?k6 ?a7 ?l7 ?c7 ?k7 ?a8 ?l8 ?c8 ?k8 ?a9 ?l9 ?c9 ?k9 ?a10 ?l10 ?c10 ?k10 ?a11 ?l11 ?c11 ?k11 ?a12 ?l12 ?c12 ?k12 ?a13 ?l13 ?c13 ?k13 ?a14 ?l14 ?c14 ?k14 ?a15 ?l15 ?c15 ?k15 ?a16 ?l16 ?c16 ?k16 ?a17 ?l17 ?c17 ?k17 ?a18 ?l18 ?c18 ?k18 ?a19 ?l19 ?c19 ?k19 ?a20 ?l20 ?c20 ?k20 ?a21 ?l21 ?c21 ?k21 ?a22 ?l22 ?c22 ?k22 ?a23 ?l23 ?c23 ?k23 ?a24 ?l24 ?c24 ?k24 ?a25 ?l25 ?c25 ?k25 ?a26 ?l26 ?c26 ?k26 ?a27 ?l27 ?c27 ?k27 ?a28 ?l28 ?c28 ?k28 ?a29 ?l29 ?c29 ?k29 ?a30 ?l30 ?c30 ?k30 ?a31 ?l31 ?c31 ?k31 ?a32 ?l32 ?c32 ?k32 ?a33 ?l33 ?c33 ?k33 ?a34 ?l34 ?c34 ?k34 ?a35 ?l35 ?c35 ?k35 ?a36 ?l36 ?c36 ?k36 ?a37 ?l37 ?c37 ?k37 ?a38 ?l38 ?c38 ?k38 ?a39 ?l39 ?c39 ?k39 ?a40 ?l40 ?c40 ?k40 ?a41 ?l41 ?c41 ?k41 ?a42 ?l42 ?c42 ?k42 ?a43 ?l43 ?c43 ?k43 ?a44 ?l44 ?c44 ?k44 ?a45 ?l45 ?c45 ?k45 ?a46 ?l46 ?c46 ?k46 ?a47 ?l47 ?c47 ?k47 ?a48 ?l48 ?c48 ?k48 ?a49 ?l49 ?c49 ?k49 ?a50 ?l50 ?c50 ?k50 ?a51 ?l51 ?c51 ?k51 ?a52 ?l52 ?c52 ?k52 ?lt52 ?vt52 ?nt52 ?rq52 ?z0 ?z1 ?z2 ?z3 ?z4 ?z5 ?z6 ?z7 ?z8 ?z9 ?z10 ?z11 ?z12 ?z13 ?z14 ?z15 ?x0 ?x1 ?x2 ?x3 ?x4 ?x5 ?aAG0 ?lAG0 ?aAG1 ?lDG1 ?kDG1 ?sDG1 ?lAG1_0 ?lAG1_1 ?lAG1_2 ?lAG1_3 ?wValueError ?xgn ?xgt ?aCENoText ?xLENoText ?saENoText ?gaENoText ?ggENoText ?nfENoText ?i1ENoText ?t1ENoText ?l1ENoText ?c1ENoText ?k1ENoText ?kCENoText ?eCENoText ?tCENoText ?hCENoText ?iCENoText ?sCENoText ?caENoText ?moENoText ?aCENoRule ?xLENoRule ?saENoRule ?gaENoRule ?ggENoRule ?nfENoRule ?i1ENoRule ?t1ENoRule ?l1ENoRule ?c1ENoRule ?k1ENoRule ?kCENoRule ?eCENoRule ?tCENoRule ?hCENoRule ?iCENoRule ?sCENoRule ?caENoRule ?moENoRule
    (case a0 => k_is)
    (case l0 => k_is)
    (case c0 => k_is)
    (case k0 => k_is)
    (case a1 => k_is)
    (case l1 => k_is)
    (case c1 => k_is)
    (case k1 => k_is)
    (case a2 => k_is)
    (case l2 => k_is)
    (case c2 => k_is)
    (case k2 => k_is)
    (case a3 => k_is)
    (case l3 => k_is)
    (case c3 => k_is)
    (case k3 => k_is)
    (case a4 => k_is)
    (case l4 => k_is)
    (case c4 => k_is)
    (case k4 => k_is)
    (case a5 => k_is)
    (case l5 => k_is)
    (case c5 => k_is)
    (case k5 => k_is)
    (case a6 => k_is)
    (case l6 => k_is)
    (case c6 => k_is)
    (case k6 => k_is)
    (case a7 => k_is)
    (case l7 => k_is)
    (case c7 => k_is)
    (case k7 => k_is)
    (case a8 => k_is)
    (case l8 => k_is)
    (case c8 => k_is)
    (case k8 => k_is)
    (case a9 => k_is)
    (case l9 => k_is)
    (case c9 => k_is)
    (case k9 => k_is)
    (case a10 => k_is)
    (case l10 => k_is)
    (case c10 => k_is)
    (case k10 => k_is)
    (case a11 => k_is)
    (case l11 => k_is)
    (case c11 => k_is)
    (case k11 => k_is)
    (case a12 => k_is)
    (case l12 => k_is)
    (case c12 => k_is)
    (case k12 => k_is)
    (case a13 => k_is)
    (case l13 => k_is)
    (case c13 => k_is)
    (case k13 => k_is)
    (case a14 => k_is)
    (case l14 => k_is)
    (case c14 => k_is)
    (case k14 => k_is)
    (case a15 => k_is)
    (case l15 => k_is)
    (case c15 => k_is)
    (case k15 => k_is)
    (case a16 => k_is)
    (case l16 => k_is)
    (case c16 => k_is)
    (case k16 => k_is)
    (case a17 => k_is)
    (case l17 => k_is)
    (case c17 => k_is)
    (case k17 => k_is)
    (case a18 => k_is)
    (case l18 => k_is)
    (case c18 => k_is)
    (case k18 => k_is)
    (case a19 => k_is)
    (case l19 => k_is)
    (case c19 => k_is)
    (case k19 => k_is)
    (case a20 => k_is)
    (case l20 => k_is)
    (case c20 => k_is)
    (case k20 => k_is)
    (case a21 => k_is)
    (case l21 => k_is)
    (case c21 => k_is)
    (case k21 => k_is)
    (case a22 => k_is)
    (case l22 => k_is)
    (case c22 => k_is)
    (case k22 => k_is)
    (case a23 => k_is)
    (case l23 => k_is)
    (case c23 => k_is)
    (case k23 => k_is)
    (case a24 => k_is)
    (case l24 => k_is)
    (case c24 => k_is)
    (case k24 => k_is)
    (case a25 => k_is)
    (case l25 => k_is)
    (case c25 => k_is)
    (case k25 => k_is)
    (case a26 => k_is)
    (case l26 => k_is)
    (case c26 => k_is)
    (case k26 => k_is)
    (case a27 => k_is)
    (case l27 => k_is)
    (case c27 => k_is)
    (case k27 => k_is)
    (case a28 => k_is)
    (case l28 => k_is)
    (case c28 => k_is)
    (case k28 => k_is)
    (case a29 => k_is)
    (case l29 => k_is)
    (case c29 => k_is)
    (case k29 => k_is)
    (case a30 => k_is)
    (case l30 => k_is)
    (case c30 => k_is)
    (case k30 => k_is)
    (case a31 => k_is)
    (case l31 => k_is)
    (case c31 => k_is)
    (case k31 => k_is)
    (case a32 => k_is)
    (case l32 => k_is)
    (case c32 => k_is)
    (case k32 => k_is)
    (case a33 => k_is)
    (case l33 => k_is)
    (case c33 => k_is)
    (case k33 => k_is)
    (case a34 => k_is)
    (case l34 => k_is)
    (case c34 => k_is)
    (case k34 => k_is)
    (case a35 => k_is)
    (case l35 => k_is)
    (case c35 => k_is)
    (case k35 => k_is)
    (case a36 => k_is)
    (case l36 => k_is)
    (case c36 => k_is)
    (case k36 => k_is)
    (case a37 => k_is)
    (case l37 => k_is)
    (case c37 => k_is)
    (case k37 => k_is)
    (case a38 => k_is)
    (case l38 => k_is)
    (case c38 => k_is)
    (case k38 => k_is)
    (case a39 => k_is)
    (case l39 => k_is)
    (case c39 => k_is)
    (case k39 => k_is)
    (case a40 => k_is)
    (case l40 => k_is)
    (case c40 => k_is)
    (case k40 => k_is)
    (case a41 => k_is)
    (case l41 => k_is)
    (case c41 => k_is)
    (case k41 => k_is)
    (case a42 => k_is)
    (case l42 => k_is)
    (case c42 => k_is)
    (case k42 => k_is)
    (case a43 => k_is)
    (case l43 => k_is)
    (case c43 => k_is)
    (case k43 => k_is)
    (case a44 => k_is)
    (case l44 => k_is)
    (case c44 => k_is)
    (case k44 => k_is)
    (case a45 => k_is)
    (case l45 => k_is)
    (case c45 => k_is)
    (case k45 => k_is)
    (case a46 => k_is)
    (case l46 => k_is)
    (case c46 => k_is)
    (case k46 => k_is)
    (case a47 => k_is)
    (case l47 => k_is)
    (case c47 => k_is)
    (case k47 => k_is)
    (case a48 => k_is)
    (case l48 => k_is)
    (case c48 => k_is)
    (case k48 => k_is)
    (case a49 => k_is)
    (case l49 => k_is)
    (case c49 => k_is)
    (case k49 => k_is)
    (case a50 => k_is)
    (case l50 => k_is)
    (case c50 => k_is)
    (case k50 => k_is)
    (case a51 => k_is)
    (case l51 => k_is)
    (case c51 => k_is)
    (case k51 => k_is)
    (case a52 => k_is)
    (case l52 => k_is)
    (case c52 => k_is)
    (case k52 => k_is)
    (case lt52 => k_is)
    (case vt52 => rfl)
    (case nt52 => rfl)
    (case rq52 => rfl)
    (case z0 => k_is)
    (case z1 => k_is)
    (case z2 => k_is)
    (case z3 => k_is)
    (case z4 => k_is)
    (case z5 => k_is)
    (case z6 => k_is)
    (case z7 => k_is)
    (case z8 => k_is)
    (case z9 => k_is)
    (case z10 => k_is)
    (case z11 => k_is)
    (case z12 => k_is)
    (case z13 => k_is)
    (case z14 => k_is)
    (case z15 => k_is)
    (case x0 => k_is)
    (case x1 => k_is)
    (case x2 => k_is)
    (case x3 => k_is)
    (case x4 => k_is)
    (case x5 => k_is)
    (case aAG0 => k_is)
    (case lAG0 => k_is)
    (case aAG1 => k_is)
    (case lDG1 => k_is)
    (case kDG1 => exact ⟨⟨_, _, rfl, rfl⟩, ⟨_, _, rfl, rfl⟩, ⟨_, _, rfl, rfl⟩, ⟨_, _, rfl, rfl⟩, trivial⟩)
    (case sDG1 => first | k_is | rfl | decide)
    (case lAG1_0 => k_is)
    (case lAG1_1 => k_is)
    (case lAG1_2 => k_is)
    (case lAG1_3 => k_is)
    (case wValueError => k_is)
    (case xgn => k_is)
    (case xgt => k_is)
    (case aCENoText => k_is)
    (case xLENoText => k_is)
    (case saENoText => k_is)
    (case gaENoText => k_is)
    (case ggENoText => k_is)
    (case nfENoText => k_is)
    (case i1ENoText => k_is)
    (case t1ENoText => k_is)
    (case l1ENoText => k_is)
    (case c1ENoText => k_is)
    (case k1ENoText => k_is)
    (case kCENoText => k_is)
    (case eCENoText => k_is)
    (case tCENoText => k_is)
    (case hCENoText => k_is)
    (case iCENoText => k_is)
    (case sCENoText => first | k_is | rfl | decide)
    (case caENoText => k_is)
    (case moENoText => k_is)
    (case aCENoRule => k_is)
    (case xLENoRule => k_is)
    (case saENoRule => k_is)
    (case gaENoRule => k_is)
    (case ggENoRule => k_is)
    (case nfENoRule => k_is)
    (case i1ENoRule => k_is)
    (case t1ENoRule => k_is)
    (case l1ENoRule => k_is)
    (case c1ENoRule => k_is)
    (case k1ENoRule => k_is)
    (case kCENoRule => k_is)
    (case eCENoRule => k_is)
    (case tCENoRule => k_is)
    (case hCENoRule => k_is)
    (case iCENoRule => k_is)
    (case sCENoRule => first | k_is | rfl | decide)
    (case caENoRule => k_is)
    (case moENoRule => k_is)
#print axioms PySem.Challenge.cw_decreedays_k62_whole_any_words_holds
