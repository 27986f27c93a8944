import PyProof.Rows.All
import Wide.All
import OpenK.AllK
import Wide.FinOn
import HandS.ForMost
import HandS.Wide
import HandS.Gcd
import HandS.Flow
import HandS.ExcSuper
import HandS.Lambda
import HandS.EndTab
import HandS.Nested
import HandS.IsInst
import HandS.Style
import HandS.Zip
import HandS.Rev
import HandS.More
import PyProof.EnumMake
import KE.GoesMore
import HandS.WideBits
import HandS.ExcOwn
import HandS.ExcIs
import HandS.TryMany
import KE.KExcSuper
import HandS.ExcField
import KE.KExcIs
import HandS.TupAny
import HandS.ExcValue
import PyProof.Rows.ReprOcc
import KE.OsRunLaw
import PySem.Challenge.RW_roadwaves_k01_errors_each_of_its_own
set_option Elab.async false
set_option linter.all false
set_option maxRecDepth 100000
set_option maxHeartbeats 4000000
set_option exponentiation.threshold 10000
section
open PySem PySem.W PyProof.Rows
local macro_rules
  | `(tactic| k_head) => `(tactic| k_headL)
set_option maxHeartbeats 0 in
open_top headK for PySem.Challenge.rw_roadwaves_k01_errors_each_of_its_own
end
namespace DL
open PySem PySem.Spec PyProof.Rows L2

/-! ### calls while no repr is under way -/
/-- room for calls, and nothing is being shown -/
structure RoomG (k : Nat) (A : Around) : Prop where
  room : Room k A
  gd : A.guards = some []
theorem RoomG.mono {j k : Nat} {A : Around} (r : RoomG k A) (h : j ≤ k) : RoomG j A := ⟨r.room.mono h, r.gd⟩
theorem RoomG.deeper {k : Nat} {A : Around} (r : RoomG (k + 1) A) (env : Env) : RoomG k (A.deeper env) := ⟨r.room.deeper env, r.gd⟩

structure FnG (P : Program) (w : World) (K : PySem.W.Frag) (mg : Str → Option Value) (base : Heap) (CX : CXT) (k : Nat) (f : Addr) (fd : FuncData) (ps : List Str) (sp : Sp) : Prop where
  len : ∀ vs H Q E, sp vs H Q E → vs.length = ps.length
  go : ∀ {A : Around} {outer : List Env} {s : Shared} {H : Hp} {args : Args} {us : List Value} {vs : List V} {Q : VK} {E : XK},
    RoomG k A → Env0 P w K mg base A outer s H → BindsTo s fd args (ps.zip us) → Vals vs us → sp vs H Q E → codeAny (model P w) A (.call (.ref f) args) (CR CX outer P w H s Q E) s
section
variable {P : Program} {w : World} {K : PySem.W.Frag} {mg : Str → Option Value} {base : Heap} {CX : CXT} {j k : Nat} {f : Addr} {fd : FuncData} {ps : List Str} {sp sp' : Sp}
theorem FnG.mono (F : FnG P w K mg base CX j f fd ps sp) (h : j ≤ k) : FnG P w K mg base CX k f fd ps sp := ⟨F.len, fun r => F.go (r.mono h)⟩
theorem FnG.of (F : FnOk P w K mg base CX k f fd ps sp) : FnG P w K mg base CX k f fd ps sp := ⟨F.len, fun r e b v q => F.run _ _ _ _ _ _ _ _ _ r.room e b v q⟩

/-- a def by its body -/
theorem FnG.mk' {x qual : Str} {st : Stmt} {N : List Str} (F : Fun K x qual st f fd) (S : FnScope N ps (defScope st)) (len : ∀ vs H Q E, sp vs H Q E → vs.length = ps.length)
    (body : ∀ (cdv : Value) (A : Around) (outer : List Env) (s : Shared) (H : Hp) (vs : List V) (Q : VK) (E : XK), fd.code = cdv → RoomG k (A.deeper (envOfC qual (defScope st) s.heap.objs.size f cdv)) → sp vs H Q E →
      ∃ t, PSs (cxOf CX P w K mg base N qual (defScope st) f cdv A outer s H E) (defBody st) t ∧ t { nx := fun _ H' => Q .non H', rt := Q } (start N vs) H) : FnG P w K mg base CX (k + 1) f fd ps sp := by
  obtain ⟨oc, od, kV, doc, pm, an, cdv, ct, osl, rfl, look, code⟩ := F.ex
  refine ⟨len, ?_⟩
  intro A outer s H args us vs Q E room env bind rel hsp
  have nlen := len _ _ _ _ hsp
  have inK : K.In s.heap := env.mod.kin.keeps fun b o e => (env.bs b o e).1
  have kinds : ∀ y ∈ ps.zip us, (defScope st).names.lookup y.1 = some .local ∨ ((defScope st).names.lookup y.1 = some .cell ∧ ((cellsFrom (s.heap.objs.size + 1) (defScope st).names []).lookup y.1).isSome = true) := by
    intro y hy
    rcases S.par y.1 (List.of_mem_zip (a := y.1) (b := y.2) hy).1 with q | q
    · left; exact q
    · right; exact ⟨q, PySem.W.cellsFrom_some _ _ _ (Or.inl q)⟩
  apply codeAny_call_function room.room.depth (inK _ _ look) rfl S.co S.gen rfl (PySem.W.codeRec_of inK code)
  apply bind
  apply wpAny_newFunctionEnv_cells S.kind kinds
  rintro e rfl s1 inCall
  constructor
  · exact (env.mod.nolimit.keeps fun b o e => (env.bs b o e).1).keeps inCall.toInCall.keep
  apply codeAny_func
  obtain ⟨t, der, read⟩ := body cdv A outer s H vs Q E rfl (room.deeper _) hsp
  have ini := inv_start (CX := CX) (E := E) S room.room.hd env nlen rel inCall
  refine wpAny_mono (der.run [] s1 (start N vs) H _ ini read) ?_ (fun _ _ z => z)
  intro flow s' out
  cases flow with
  | brk => obtain ⟨_, _, _, no⟩ := out; cases no
  | cont => obtain ⟨_, _, _, no⟩ := out; cases no
  | next =>
    obtain ⟨σ2, H2, J, q⟩ := out
    exact ⟨V.non, H2, J.os, J.bare, J.base, J.hok, rfl, q⟩
  | ret u =>
    obtain ⟨v, σ2, H2, J, rv, q⟩ := out
    exact ⟨v, H2, J.os, J.bare, J.base, J.hok, rv, q⟩
end
section
variable {X : Cx} {CX : CXT} {k : Nat} {f : Addr} {fd : FuncData} {ps ks : List Str} {sp : Sp} {dvs : List V} {ds : List Value} {E : XK} {x : Str} {p pos : Pos} {e : Expr} {es : List Expr} {kws : List Keyword} {t tk : TA}
theorem runG {pins : List (Addr × Obj)} {σ : L2.St} {H : Hp} {s : Shared} {Q : VK} {us zus : List Value} {ws' : List (Str × Value)} {zs : List V} (F : FnG X.prog X.w X.K X.mg X.base CX k f fd ps sp) (hr : RoomG k X.A) (hx : Passes CX X E)
    (I : Inv X pins σ H s) (hb : BindsTo s fd ⟨us, ws'⟩ (ps.zip zus)) (r : Vals zs zus) (h : sp zs H Q E) : wpAny (model X.prog X.w) X.A (call (.ref f) us ws') (EP X pins σ Q) X.xe s := by
  apply wpAny_call
  refine codeAny_mono (F.go hr I.env0 hb r h) ?_
  intro res s' out
  match res, out with
  | .error e, out => exact hx pins σ H s e s' I out
  | .ok (.ret u), out => exact I.after out
  | .ok .next, out => exact out.elim
  | .ok .brk, out => exact out.elim
  | .ok .cont, out => exact out.elim
theorem runG0 {pins : List (Addr × Obj)} {σ : L2.St} {H : Hp} {s : Shared} {Q : VK} {us : List Value} {vs : List V} (F : FnG X.prog X.w X.K X.mg X.base CX k f fd ps sp) (hr : RoomG k X.A) (hb : L2.Binds X.K fd ps []) (hx : Passes CX X E)
    (I : Inv X pins σ H s) (r : Vals vs us) (h : sp vs H Q E) : wpAny (model X.prog X.w) X.A (call (.ref f) us) (EP X pins σ Q) X.xe s := by
  have n : us.length = ps.length := r.length.symm.trans (F.len _ _ _ _ h)
  have b := hb s us I.kIn (by rw [List.append_nil]; exact n)
  rw [List.append_nil] at b
  exact runG F hr hx I b r h
/-- f(e, ..) -/
theorem pe_callG (F : FnG X.prog X.w X.K X.mg X.base CX k f fd ps sp) (hr : RoomG k X.A) (hg : Gl X x) (hm : X.mg x = some (.ref f)) (hk : PySem.W.keepIn X.K (.ref f) = true) (hb : L2.Binds X.K fd ps []) (hx : Passes CX X E)
    (ha : PA X (e :: es) t) (hdb : (x == ("__debug__" : Str)) = false := by decide) (st : starEach (e :: es) X.env = (false, eval e X.env) :: starEach es X.env := by rfl) (pl : (backTo pos (starEach es X.env)).any (·.1) = false := by rfl) :
    PE X (.Call (.Name x p) (e :: es) [] pos) (fun σ H Q => t σ H fun vs H1 => sp vs H1 Q E) := by
  constructor
  intro pins s σ H Q I h
  apply wpAny_Call_Name_kw
  refine ld_glob I hg hm ?_ hdb
  refine PySem.W.callWith_K (h₀ := X.base) I.ok.mod.kin hk ?_ st pl
  refine thn (ha.run pos pins s σ H _ I h) ?_
  rintro us s1 ⟨vs, H1, I1, r, q⟩
  exact ⟨I1.kIn, runG0 F hr hb hx I1 r q⟩
/-- f(k = e, ..) -/
structure KwB (K : PySem.W.Frag) (fd : FuncData) (ps ks : List Str) (g : {α : Type} → List α → List α) : Prop where
  to : ∀ (s : Shared) (ws : List Value), ws.length = ks.length → BindsTo s fd ⟨[], ks.zip ws⟩ (ps.zip (g ws))
  rel : ∀ {vs : List V} {us : List Value}, Vals vs us → Vals (g vs) (g us)
end
end DL

namespace DL
open PySem PySem.Spec PyProof.Rows L2
/-! ### a law's end, where nothing is being shown at its entry -/
def scriptO (vs : List Value) : Obj := { cls := .type "list", data := .seq vs.toArray }
/-- the script alone is tracked, and read only -/
def hpOf (a : Addr) (vs : List Value) (ns : List Int) : Hp := fun b => if b = a then some (.frz (scriptO vs) (.lst (ns.map V.int))) else none
theorem hpOf_at {a : Addr} {vs : List Value} {ns : List Int} : hpOf a vs ns a = some (.frz (scriptO vs) (.lst (ns.map V.int))) := if_pos rfl
theorem hpOf_off {a b : Addr} {vs : List Value} {ns : List Int} (h : b ≠ a) : hpOf a vs ns b = none := if_neg h
/-- nothing at all, or the script alone -/
def Lone (H : Hp) (a : Addr) (vs : List Value) (ns : List Int) : Prop := H = (fun _ => none) ∨ H = hpOf a vs ns
section
variable {P : Program} {w : World} {K : PySem.W.Frag} {mg mb : Str → Option Value} {k : Nat} {fa a : Addr} {fd : FuncData} {x : Str} {sp : Sp} {s : Shared} {vs : List Value} {ns : List Int}
theorem Lone.only {H : Hp} (h : Lone H a vs ns) : Only H := by
  intro b
  rcases h with rfl | rfl
  · left; rfl
  · by_cases e : b = a
    · right; exact ⟨_, _, if_pos e⟩
    · left; exact if_neg e
theorem Lone.at {H : Hp} (h : Lone H a vs ns) {b : Addr} {o : HO} (e : H b = some o) : b = a ∧ o = .frz (scriptO vs) (.lst (ns.map V.int)) := by
  rcases h with rfl | rfl
  · cases e
  · by_cases c : b = a
    · subst c
      rw [hpOf_at] at e
      exact ⟨rfl, (Option.some.inj e).symm⟩
    · rw [hpOf_off c] at e
      cases e
theorem ints_vals : ∀ {vs : List Value} {ns : List Int}, IntsAre vs ns → Vals (ns.map V.int) vs
  | _, _, .nil => .nil
  | _, _, .cons n t h => .cons ⟨t, rfl⟩ (ints_vals h)
end
end DL

namespace DL
open PySem PySem.Spec PyProof.Rows L2
/-! ### tables of code objects: which there are, and the one name that each holds -/
class Tb where
  ts : List Addr
  nm : Addr → Str
def TabN [Tb] (H : Hp) (P : Addr) : Prop := LamX.TabS H P (Tb.nm P)
theorem TabN.ext [Tb] {H H' : Hp} {P : Addr} (t : TabN H P) (e : ∀ b o, H b = some o → H' b = some o) : TabN H' P := LamX.TabS.ext t e
/-- a list that changes is no table and no code object -/
theorem TabN.put [Tb] {H : Hp} {P a : Addr} {us : List V} {o : HO} (t : TabN H P) (e : H a = some (.lst us)) : TabN (upd H a o) P := by
  obtain ⟨ps, h1, h2, h3⟩ := t
  have n1 : P ≠ a := by
    rintro rfl
    rw [e] at h1
    cases h1
  refine ⟨ps, by rw [upd_ne n1]; exact h1, h2, fun pos cv hc => ?_⟩
  obtain ⟨c, e1, e2⟩ := h3 pos cv hc
  have n2 : c ≠ a := by
    rintro rfl
    rw [e] at e2
    unfold LamX.CodeO at e2
    cases e2
  exact ⟨c, e1, by rw [upd_ne n2]; exact e2⟩
variable [Tb]
/-! ### data in an abstract heap -/
/-- a key as data -/
def kD : Key → PyData
  | .inl i => .int i
  | .inr x => .str x
/-- an exception of the class at C that is not raised, its fields' dict at od: its object does not change -/
def ExV (C : Addr) (od : Option Addr) (a : Addr) : HO := .ext fun h => ∃ (oe : Obj) (vs : Array Value), h.get? a = some oe ∧ oe.cls = .ref C ∧ oe.dict = od ∧ oe.data = .fields vs
theorem exv_nt {C a : Addr} {od : Option Addr} : ∀ ps, ExV C od a ≠ .tbl ps := fun ps z => by
  unfold ExV at z
  cases z
/-- values told as data: what a lambda has captured -/
def decV : PyData → V
  | .bool b => .bl b
  | .int i => .int i
  | .str x => .str x
  | .list [.int a] => .ref a.toNat
  | _ => .non
mutual
inductive Da (K : PySem.W.Frag) (H : Hp) : V → PyData → Prop
  | non : Da K H .non .none
  | bl (b : Bool) : Da K H (.bl b) (.bool b)
  | int (i : Int) : Da K H (.int i) (.int i)
  | str (x : Str) : Da K H (.str x) (.str x)
  | lst {a : Addr} {xs : List V} {ds : List PyData} : H a = some (.lst xs) → DaL K H xs ds → Da K H (.ref a) (.list ds)
  | tup {a : Addr} {xs : List V} {ds : List PyData} : SqT K H a xs → DaL K H xs ds → Da K H (.ref a) (.tuple ds)
  /-- the script: read only -/
  | scr {a : Addr} {ns : List Int} : SqL K H a (ns.map V.int) → Da K H (.ref a) (.dict [(.none, .list (ns.map PyData.int))])
  | dct {a : Addr} {kvs : List (Key × V)} {ds : List (PyData × PyData)} : H a = some (.dK kvs) → DaK K H kvs ds → Da K H (.ref a) (.dict ds)
  /-- a def of the module -/
  | fnv {a : Addr} {x : Str} : PySem.W.nsIn K mainGlobals x = some (some (.ref a)) → Da K H (.ref a) (.dict [(.none, .str x)])
  /-- a caught exception at a of the class c, without fields, and with its fields' dict at d -/
  | exn {a : Addr} {c : Str} : Da K H (.ref a) (.dict [(.none, .tuple [.str c, .int (a : Int)])])
  | exc {a d : Addr} {c : Str} {fs : List (Str × V)} {ds : List (PyData × PyData)} : H d = some (.xd fs) → DaF K H fs ds → Da K H (.ref a) (.dict ((.none, .tuple [.str c, .int (a : Int), .int (d : Int)]) :: ds))
  /-- an instance of the class c of the module that changes no more -/
  | ins {a C dx : Addr} {c : Str} {fs : List (Str × V)} {ds : List (PyData × PyData)} : PySem.W.nsIn K mainGlobals c = some (some (.ref C)) → H a = some (.ins C dx fs) → H dx = some (.own a) → DaF K H fs ds → Da K H (.ref a) (.dict ((.none, .tuple [.str c]) :: ds))
  /-- an exception as a value: without fields, with fields -/
  | exw {a C : Addr} {c : Str} : PySem.W.nsIn K mainGlobals c = some (some (.ref C)) → H a = some (ExV C none a) → Da K H (.ref a) (.dict [(.none, .tuple [.str c, .none])])
  | exv {a C d : Addr} {c : Str} {fs : List (Str × V)} {ds : List (PyData × PyData)} : PySem.W.nsIn K mainGlobals c = some (some (.ref C)) → H a = some (ExV C (some d) a) → H d = some (.xd fs) → DaF K H fs ds → Da K H (.ref a) (.dict ((.none, .tuple [.str c, .bool true]) :: ds))
  /-- a lambda at f, with what it has captured -/
  | lam {f : Addr} {es : List PyData} {fs : List (Str × V)} {ds : List (PyData × PyData)} : es.map decV = fs.map (·.2) → DaF K H fs ds → Da K H (.ref f) (.dict ((.none, .tuple (.str "" :: .none :: .int (f : Int) :: es)) :: ds))
inductive DaL (K : PySem.W.Frag) (H : Hp) : List V → List PyData → Prop
  | nil : DaL K H [] []
  | cons {v : V} {vs : List V} {d : PyData} {ds : List PyData} : Da K H v d → DaL K H vs ds → DaL K H (v :: vs) (d :: ds)
inductive DaK (K : PySem.W.Frag) (H : Hp) : List (Key × V) → List (PyData × PyData) → Prop
  | nil : DaK K H [] []
  | cons {k : Key} {v : V} {vs : List (Key × V)} {d : PyData} {ds : List (PyData × PyData)} : Da K H v d → DaK K H vs ds → DaK K H ((k, v) :: vs) ((kD k, d) :: ds)
inductive DaF (K : PySem.W.Frag) (H : Hp) : List (Str × V) → List (PyData × PyData) → Prop
  | nil : DaF K H [] []
  | cons {k : Str} {v : V} {vs : List (Str × V)} {d : PyData} {ds : List (PyData × PyData)} : Da K H v d → DaF K H vs ds → DaF K H ((k, v) :: vs) ((.str k, d) :: ds)
end
/-- no table -/
abbrev NT (o : HO) : Prop := ∀ ps, o ≠ .tbl ps
/-- H' has all that H has, but that tables may have grown; in both they are right -/
structure Sub (H H' : Hp) : Prop where
  keep : ∀ a o, H a = some o → NT o → H' a = some o
  live : ∀ a, H' a = none → H a = none
  t0 : ∀ P ∈ Tb.ts, TabN H P
  t1 : ∀ P ∈ Tb.ts, TabN H' P
theorem Sub.left {H H' : Hp} (e : Sub H H') : Sub H H := ⟨fun _ _ e _ => e, fun _ n => n, e.t0, e.t0⟩
theorem Sub.right {H H' : Hp} (e : Sub H H') : Sub H' H' := ⟨fun _ _ e _ => e, fun _ n => n, e.t1, e.t1⟩
theorem Sub.strict {H H' : Hp} (t : ∀ P ∈ Tb.ts, TabN H P) (h : ∀ a o, H a = some o → H' a = some o) : Sub H H' := by
  refine ⟨fun a o e _ => h a o e, fun a n => ?_, t, fun P hP => (t P hP).ext h⟩
  rcases e : H a with _ | o
  · rfl
  · rw [h a o e] at n
    cases n
theorem Sub.trans {A B C : Hp} (h : Sub A B) (g : Sub B C) : Sub A C := ⟨fun a o e n => g.keep a o (h.keep a o e n) n, fun a n => h.live a (g.live a n), h.t0, g.t1⟩
theorem Sub.k {H H' : Hp} (e : Sub H H') {a : Addr} {o : HO} (h : H a = some o) (n : NT o := by intro _; nofun) : H' a = some o := e.keep a o h n
theorem Sub.rd {H H' : Hp} (e : Sub H H') {a : Addr} {u : HO} (h : Rd H a u) (n : NT u := by intro _; nofun) : Rd H' a u := by
  rcases h with h | ⟨o, h⟩
  · left; exact e.k h n
  · right; exact ⟨o, e.k h⟩
theorem Sub.sqL {K : PySem.W.Frag} {H H' : Hp} (e : Sub H H') {a : Addr} {xs : List V} (h : SqL K H a xs) : SqL K H' a xs := by
  rcases h with h | h
  · left; exact e.rd h
  · right; exact h
theorem Sub.sqT {K : PySem.W.Frag} {H H' : Hp} (e : Sub H H') {a : Addr} {xs : List V} (h : SqT K H a xs) : SqT K H' a xs := by
  rcases h with h | h
  · left; exact e.rd h
  · right; exact h
section
variable {K : PySem.W.Frag} {H H' : Hp}
mutual
theorem Da.up (e : Sub H H') : ∀ {d : PyData} {v : V}, Da K H v d → Da K H' v d
  | .none, _, h => by cases h; exact .non
  | .bool b, _, h => by cases h; exact .bl b
  | .int i, _, h => by cases h; exact .int i
  | .str x, _, h => by cases h; exact .str x
  | .list ds, _, h => by
    cases h with
    | lst hs ha => exact .lst (e.k hs) (DaL.up e ha)
  | .tuple ds, _, h => by
    cases h with
    | tup hs ha => exact .tup (e.sqT hs) (DaL.up e ha)
  | .dict [], _, h => by
    cases h with
    | dct hs ha => exact .dct (e.k hs) (by cases ha; exact .nil)
  | .dict ((q, d) :: ds), _, h => by
    cases h with
    | dct hs ha => exact .dct (e.k hs) (by cases ha with | cons a b => exact .cons (Da.up e a) (DaK.up e b))
    | scr hs => exact .scr (e.sqL hs)
    | fnv hs => exact .fnv hs
    | exn => exact .exn
    | exc hs ha => exact .exc (e.k hs) (DaF.up e ha)
    | ins hc hs hd ha => exact .ins hc (e.k hs) (e.k hd) (DaF.up e ha)
    | exw hc hs => exact .exw hc (e.k hs exv_nt)
    | lam hs ha => exact .lam hs (DaF.up e ha)
    | exv hc hs hd ha => exact .exv hc (e.k hs exv_nt) (e.k hd) (DaF.up e ha)
theorem DaL.up (e : Sub H H') : ∀ {ds : List PyData} {vs : List V}, DaL K H vs ds → DaL K H' vs ds
  | [], _, h => by cases h; exact .nil
  | d :: ds, _, h => by
    cases h with
    | cons a b => exact .cons (Da.up e a) (DaL.up e b)
theorem DaK.up (e : Sub H H') : ∀ {ds : List (PyData × PyData)} {vs : List (Key × V)}, DaK K H vs ds → DaK K H' vs ds
  | [], _, h => by cases h; exact .nil
  | (_, d) :: ds, _, h => by
    cases h with
    | cons a b => exact .cons (Da.up e a) (DaK.up e b)
theorem DaF.up (e : Sub H H') : ∀ {ds : List (PyData × PyData)} {vs : List (Str × V)}, DaF K H vs ds → DaF K H' vs ds
  | [], _, h => by cases h; exact .nil
  | (_, d) :: ds, _, h => by
    cases h with
    | cons a b => exact .cons (Da.up e a) (DaF.up e b)
end
theorem DaL.length : ∀ {ds : List PyData} {vs : List V}, DaL K H vs ds → vs.length = ds.length
  | [], _, h => by cases h; rfl
  | d :: ds, _, h => by
    cases h with
    | cons a b => rw [List.length_cons, List.length_cons, DaL.length b]
theorem DaL.get : ∀ {ds : List PyData} {vs : List V} {i : Nat} {d : PyData}, DaL K H vs ds → ds[i]? = some d → ∃ v, vs[i]? = some v ∧ Da K H v d
  | [], _, _, _, h, e => by simp at e
  | d :: ds, _, 0, x, h, e => by
    cases h with
    | cons a b =>
      rw [List.getElem?_cons_zero] at e
      cases e
      exact ⟨_, rfl, a⟩
  | d :: ds, _, i + 1, x, h, e => by
    cases h with
    | cons a b => exact DaL.get (i := i) b e
theorem DaL.app : ∀ {ds es : List PyData} {vs ws : List V}, DaL K H vs ds → DaL K H ws es → DaL K H (vs ++ ws) (ds ++ es)
  | [], _, _, _, h, g => by cases h; exact g
  | d :: ds, _, _, _, h, g => by
    cases h with
    | cons a b => exact .cons a (DaL.app b g)
theorem DaL.take : ∀ {ds : List PyData} {vs : List V} (n : Nat), DaL K H vs ds → DaL K H (vs.take n) (ds.take n)
  | _, _, 0, _ => .nil
  | [], _, n + 1, h => by cases h; exact .nil
  | d :: ds, _, n + 1, h => by
    cases h with
    | cons a b => exact .cons a (DaL.take n b)
theorem DaL.drop : ∀ {ds : List PyData} {vs : List V} (n : Nat), DaL K H vs ds → DaL K H (vs.drop n) (ds.drop n)
  | _, _, 0, h => h
  | [], _, n + 1, h => by cases h; exact .nil
  | d :: ds, _, n + 1, h => by
    cases h with
    | cons a b => exact DaL.drop n b
theorem DaL.set {x : V} {d : PyData} (hx : Da K H x d) : ∀ {ds : List PyData} {vs : List V} (n : Nat), DaL K H vs ds → DaL K H (vs.set n x) (ds.set n d)
  | [], _, _, h => by cases h; exact .nil
  | e :: ds, _, 0, h => by
    cases h with
    | cons a b => exact .cons hx b
  | e :: ds, _, n + 1, h => by
    cases h with
    | cons a b => exact .cons a (DaL.set hx n b)
theorem DaL.int : ∀ (ns : List Int), DaL K H (ns.map V.int) (ns.map PyData.int)
  | [] => .nil
  | n :: ns => .cons (.int n) (DaL.int ns)
theorem DaL.ints : ∀ {ns : List Int} {vs : List V}, DaL K H vs (ns.map PyData.int) → vs = ns.map V.int
  | [], _, h => by cases h; rfl
  | n :: ns, _, h => by
    cases h with
    | cons a b =>
      cases a
      rw [DaL.ints b]
      rfl
theorem DaL.bools : ∀ {ns : List Bool} {vs : List V}, DaL K H vs (ns.map PyData.bool) → vs = ns.map V.bl
  | [], _, h => by cases h; rfl
  | n :: ns, _, h => by
    cases h with
    | cons a b =>
      cases a
      rw [DaL.bools b]
      rfl
end
section
variable {X : Cx} {pins : List (Addr × Obj)} {σ : L2.St} {H : Hp} {s : Shared}
theorem valsOf {P : Program} {w : World} : ∀ {es : List DictEntry} {kvs : List (Key × Value)}, Pairs (mixKind P w) es kvs → es.map (·.val) = kvs.map (·.2)
  | _, _, .nil => rfl
  | _, _, .cons a b t => by
    rw [List.map_cons, List.map_cons, valsOf t, b]
theorem DaK.keys {K : PySem.W.Frag} {H : Hp} : ∀ {kvs : List (Key × V)} {ds : List (PyData × PyData)} {vs : List (Key × Value)}, DaK K H kvs ds → KV kvs vs → (vs.map fun q => kD q.1) = ds.map (·.1)
  | [], _, _, h, r => by
    cases h
    cases r
    rfl
  | q :: kvs, _, _, h, r => by
    cases h with
    | cons a b =>
      cases r with
      | cons r1 r2 =>
        rw [List.map_cons, List.map_cons, DaK.keys b r2, ← r1.1]
mutual
theorem Da.reads (I : L2.Inv X pins σ H s) : ∀ (d : PyData) (v : V) (u : Value), Da X.K H v d → RelV v u → d.hasDict = false → ∃ as, Reads s.heap u d as
  | .none, _, _, h, r, _ => by
    cases h
    cases r
    exact ⟨_, Reads.none⟩
  | .bool b, _, _, h, r, _ => by
    cases h
    cases r
    exact ⟨_, Reads.bool b⟩
  | .int i, _, _, h, r, _ => by
    cases h
    obtain ⟨t, rfl⟩ := r
    exact ⟨_, Reads.int i t⟩
  | .str x, _, _, h, r, _ => by
    cases h
    obtain ⟨t, rfl⟩ := r
    exact ⟨_, Reads.str x t⟩
  | .list ds, _, _, h, r, n => by
    cases h with
    | lst hs ha =>
      cases r
      obtain ⟨its, rv, ⟨o, n2, ho, hc, _, hd⟩, _⟩ := I.list (SqL.of hs)
      obtain ⟨as, hr⟩ := DaL.reads I ds _ its ha rv (by simpa [PyData.hasDict] using n)
      exact ⟨_, Reads.list ho hc hd hr⟩
  | .tuple ds, _, _, h, r, n => by
    cases h with
    | tup hs ha =>
      cases r
      obtain ⟨its, rv, ⟨o, ho, hc, n2, hd⟩, _⟩ := I.tuple hs
      obtain ⟨as, hr⟩ := DaL.reads I ds _ its ha rv (by simpa [PyData.hasDict] using n)
      exact ⟨_, Reads.tuple ho hc hd hr⟩
  | .dict ds, _, _, _, _, n => by simp [PyData.hasDict] at n
theorem DaL.reads (I : L2.Inv X pins σ H s) : ∀ (ds : List PyData) (vs : List V) (us : List Value), DaL X.K H vs ds → Vals vs us → PyData.hasDictAll ds = false → ∃ as, ReadsAll s.heap us ds as
  | [], _, _, h, r, _ => by
    cases h
    cases r
    exact ⟨_, ReadsAll.nil⟩
  | d :: ds, _, _, h, r, n => by
    have n2 : d.hasDict = false ∧ PyData.hasDictAll ds = false := by simpa [PyData.hasDictAll] using n
    cases h with
    | cons h1 h2 =>
      cases r with
      | cons r1 r2 =>
        obtain ⟨as, q1⟩ := Da.reads I d _ _ h1 r1 n2.1
        obtain ⟨bs, q2⟩ := DaL.reads I ds _ _ h2 r2 n2.2
        exact ⟨_, ReadsAll.cons q1 q2⟩
end
mutual
theorem noDict_of : ∀ d : PyData, d.canLay0 = true → d.hasDict = false
  | .none, _ => rfl
  | .bool _, _ => rfl
  | .int _, _ => rfl
  | .str _, _ => rfl
  | .list ds, h => by
    simp only [PyData.hasDict]
    exact noDictAll_of ds (by simpa [PyData.canLay0] using h)
  | .tuple ds, h => by
    simp only [PyData.hasDict]
    exact noDictAll_of ds (by simpa [PyData.canLay0] using h)
  | .dict ds, h => by simp [PyData.canLay0] at h
theorem noDictAll_of : ∀ ds : List PyData, PyData.canLayAll0 ds = true → PyData.hasDictAll ds = false
  | [], _ => rfl
  | d :: ds, h => by
    have h2 : d.canLay0 = true ∧ PyData.canLayAll0 ds = true := by simpa [PyData.canLayAll0] using h
    simp only [PyData.hasDictAll, noDict_of d h2.1, noDictAll_of ds h2.2, Bool.or_self]
end
end
end DL

namespace DL
open PySem PySem.Spec PyProof.Rows L2
variable [Tb]
/-! ### states in data -/
/-- what a name holds: nothing that is known, data, a list of its own that may change (p: handed in by a caller) -/
inductive Sl where
  | no
  | d (x : PyData)
  | m (p : Bool) (xs : List PyData)
abbrev AS := List Sl
/-- what an expression hands on: data, what stands at a name, a list that is new -/
inductive Rv where
  | d (x : PyData)
  | c (i : Nat)
  | f (xs : List PyData)
abbrev AT := AS → (Rv → AS → Prop) → Prop
abbrev BT := AS → (Bool → AS → Prop) → Prop
abbrev DT := AS → (List PyData → AS → Prop) → Prop
/-- a value as data -/
def rd (s : AS) : Rv → PyData
  | .d x => x
  | .f xs => .list xs
  | .c i => match s[i]? with
    | some (.m _ xs) => .list xs
    | some (.d x) => x
    | _ => .none
/-- the state once a value is kept as data -/
def fz (s : AS) : Rv → AS
  | .c i => match s[i]? with
    | some (.m _ xs) => s.set i (.d (.list xs))
    | _ => s
  | _ => s

structure Rel (K : PySem.W.Frag) (B H : Hp) (σ : L2.St) (s : AS) : Prop where
  len : σ.length = s.length
  sub : Sub B H
  dat : ∀ (i : Nat) (x : PyData), s[i]? = some (Sl.d x) → ∃ v, σ[i]? = some (some v) ∧ Da K B v x
  own : ∀ (i : Nat) (p : Bool) (xs : List PyData), s[i]? = some (Sl.m p xs) → ∃ a vs, σ[i]? = some (some (V.ref a)) ∧ H a = some (HO.lst vs) ∧ B a = none ∧ DaL K B vs xs
  sep : ∀ (i j : Nat) (p q : Bool) (xs ys : List PyData) (a : Addr), s[i]? = some (Sl.m p xs) → s[j]? = some (Sl.m q ys) → σ[i]? = some (some (V.ref a)) → σ[j]? = some (some (V.ref a)) → i = j
def Cel (σ : L2.St) (s : AS) (a : Addr) : Prop := ∃ (i : Nat) (p : Bool) (xs : List PyData), s[i]? = some (Sl.m p xs) ∧ σ[i]? = some (some (V.ref a))
/-- from one state on to another -/
structure Go (K : PySem.W.Frag) (B H : Hp) (σ : L2.St) (s : AS) (B' H' : Hp) (σ' : L2.St) (s' : AS) : Prop where
  rel : Rel K B' H' σ' s'
  same : Sub B B'
  live : ∀ a, H' a = none → H a = none
  grow : ∀ a, B a = none → B' a = none ∨ H a = none ∨ Cel σ s a
  frame : ∀ a o, H a = some o → NT o → Cel σ s a ∨ H' a = some o
  cells : ∀ a, Cel σ' s' a → H a = none ∨ Cel σ s a
  pin : ∀ (i : Nat) (ys : List PyData), s'[i]? = some (Sl.m true ys) → σ'[i]? = σ[i]? ∧ ∃ xs : List PyData, s[i]? = some (Sl.m true xs)
/-- an expression: names stay, a list of one's own may change or be kept as data -/
structure GoE (K : PySem.W.Frag) (B H : Hp) (σ : L2.St) (s : AS) (B' H' : Hp) (s' : AS) : Prop extends Go K B H σ s B' H' σ s' where
  mkeep : ∀ (i : Nat) (p : Bool) (xs : List PyData), s'[i]? = some (Sl.m p xs) → ∃ ys : List PyData, s[i]? = some (Sl.m p ys)
  dkeep : ∀ (i : Nat) (x : PyData), s[i]? = some (Sl.d x) → s'[i]? = some (Sl.d x)
  mdat : ∀ (i : Nat) (p : Bool) (xs : List PyData), s[i]? = some (Sl.m p xs) → (∃ ys : List PyData, s'[i]? = some (Sl.m p ys)) ∨ ∃ y : PyData, s'[i]? = some (Sl.d y)
/-- a value's meaning behind an expression that began with H -/
def Is (K : PySem.W.Frag) (H : Hp) (B' H' : Hp) (σ : L2.St) (s' : AS) : Rv → V → Prop
  | .d x, v => Da K B' v x
  | .c i, v => σ[i]? = some (some v) ∧ ((∃ (p : Bool) (xs : List PyData), s'[i]? = some (Sl.m p xs)) ∨ ∃ x, s'[i]? = some (Sl.d x))
  | .f xs, v => ∃ a vs, v = .ref a ∧ H a = none ∧ H' a = some (.lst vs) ∧ B' a = none ∧ DaL K B' vs xs

section
variable {K : PySem.W.Frag} {A B C H H' H'' : Hp} {σ σ' σ'' : L2.St} {s s' s'' : AS} {r : Rv} {v : V}
theorem Cel.some (R : Rel K B H σ s) {a : Addr} (c : Cel σ s a) : (∃ vs, H a = some (.lst vs)) ∧ B a = none := by
  obtain ⟨i, p, xs, e, es⟩ := c
  obtain ⟨b, vs, e2, h, n, _⟩ := R.own i p xs e
  rw [es] at e2
  cases e2
  exact ⟨⟨vs, h⟩, n⟩
theorem Cel.ne (R : Rel K B H σ s) {a : Addr} (c : Cel σ s a) : H a ≠ none := by
  obtain ⟨⟨vs, h⟩, _⟩ := c.some R
  rw [h]
  exact Option.some_ne_none _
theorem Go.refl (R : Rel K B H σ s) : Go K B H σ s B H σ s := ⟨R, R.sub.left, fun _ n => n, fun _ n => Or.inl n, fun _ _ e _ => Or.inr e, fun _ c => Or.inr c, fun _ ys e => ⟨rfl, ys, e⟩⟩
theorem Go.trans {B' B'' : Hp} (g : Go K B H σ s B' H' σ' s') (k : Go K B' H' σ' s' B'' H'' σ'' s'') : Go K B H σ s B'' H'' σ'' s'' := by
  refine ⟨k.rel, g.same.trans k.same, fun a n => g.live a (k.live a n), fun a n => ?_, fun a o e nt => ?_, fun a c => ?_, fun i ys e => ?_⟩
  · rcases g.grow a n with h | h
    · rcases k.grow a h with q | q | q
      · left; exact q
      · right; left; exact g.live a q
      · right; exact g.cells a q
    · right; exact h
  · rcases g.frame a o e nt with h | h
    · left; exact h
    · rcases k.frame a o h nt with q | q
      · rcases g.cells a q with z | z
        · rw [e] at z; cases z
        · left; exact z
      · right; exact q
  · rcases k.cells a c with h | h
    · left; exact g.live a h
    · exact g.cells a h
  · obtain ⟨e1, xs, e2⟩ := k.pin i ys e
    obtain ⟨e3, e4⟩ := g.pin i xs e2
    exact ⟨e1.trans e3, e4⟩
theorem GoE.refl (R : Rel K B H σ s) : GoE K B H σ s B H s := ⟨Go.refl R, fun _ _ xs e => ⟨xs, e⟩, fun _ _ e => e, fun _ _ xs e => Or.inl ⟨xs, e⟩⟩
theorem GoE.trans {B' B'' : Hp} (g : GoE K B H σ s B' H' s') (k : GoE K B' H' σ s' B'' H'' s'') : GoE K B H σ s B'' H'' s'' := by
  refine ⟨g.toGo.trans k.toGo, fun i p xs e => ?_, fun i x e => k.dkeep i x (g.dkeep i x e), fun i p xs e => ?_⟩
  · obtain ⟨ys, e1⟩ := k.mkeep i p xs e
    exact g.mkeep i p ys e1
  · rcases g.mdat i p xs e with ⟨ys, e1⟩ | ⟨y, e1⟩
    · exact k.mdat i p ys e1
    · right; exact ⟨y, k.dkeep i y e1⟩
theorem GoE.nocell {B' : Hp} (R : Rel K B H σ s) (g : GoE K B H σ s B' H' s') {a : Addr} (n : H a = none) : ¬ Cel σ s' a := by
  rintro ⟨i, p, ys, e1, e2⟩
  obtain ⟨zs, e3⟩ := g.mkeep i p ys e1
  exact (Cel.ne R ⟨i, p, zs, e3, e2⟩) n
/-- a new value stays what it is -/
theorem Is.keep {B' B'' : Hp} (R : Rel K B H σ s) (h : Is K H B' H' σ s' r v) (g : GoE K B H σ s B' H' s') (k : GoE K B' H' σ s' B'' H'' s'') : Is K H B'' H'' σ s'' r v := by
  match r, h with
  | .d x, h => exact Da.up k.same h
  | .c i, ⟨e, c⟩ =>
    refine ⟨e, ?_⟩
    rcases c with ⟨p, xs, c⟩ | ⟨x, c⟩
    · rcases k.mdat i p xs c with ⟨ys, z⟩ | ⟨y, z⟩
      · left; exact ⟨p, ys, z⟩
      · right; exact ⟨y, z⟩
    · right; exact ⟨x, k.dkeep i x c⟩
  | .f xs, ⟨a, vs, e, n, h1, h2, h3⟩ =>
    have nc : ¬ Cel σ s' a := g.nocell R n
    refine ⟨a, vs, e, n, ?_, ?_, h3.up k.same⟩
    · rcases k.frame a _ h1 (fun _ => nofun) with c | c
      · exact absurd c nc
      · exact c
    · rcases k.grow a h2 with c | c | c
      · exact c
      · rw [h1] at c; cases c
      · exact absurd c nc
/-- a value begun later is begun earlier -/
theorem Is.back {B' : Hp} (l : ∀ a, H' a = none → H a = none) (h : Is K H' B' H'' σ s' r v) : Is K H B' H'' σ s' r v := by
  match r, h with
  | .d x, h => exact h
  | .c i, h => exact h
  | .f xs, ⟨a, vs, e, n, h⟩ => exact ⟨a, vs, e, l a n, h⟩

/-- what is read of a value: data below B, or a list all of whose items are -/
def Rdd (K : PySem.W.Frag) (B H : Hp) (v : V) (d : PyData) : Prop := Da K B v d ∨ ∃ a vs xs, v = .ref a ∧ d = .list xs ∧ H a = some (.lst vs) ∧ DaL K B vs xs
theorem Rdd.da (h : Rdd K B H v d) (e : Sub B H) : Da K H v d := by
  rcases h with h | ⟨a, vs, xs, rfl, rfl, h, l⟩
  · exact Da.up e h
  · exact .lst h (l.up e)
theorem Is.rdd {B' : Hp} (R : Rel K B' H' σ s') (h : Is K H B' H' σ s' r v) : Rdd K B' H' v (rd s' r) := by
  match r, h with
  | .d x, h => left; exact h
  | .c i, ⟨e, c⟩ =>
    rcases c with ⟨p, xs, c⟩ | ⟨x, c⟩
    · obtain ⟨a, vs, e1, e2, e3, e4⟩ := R.own i p xs c
      rw [e] at e1
      cases e1
      right
      refine ⟨a, vs, xs, rfl, ?_, e2, e4⟩
      show (match s'[i]? with | some (.m _ xs) => PyData.list xs | some (.d x) => x | _ => .none) = _
      rw [c]
    · obtain ⟨w, e1, e2⟩ := R.dat i x c
      rw [e] at e1
      cases e1
      left
      have z : rd s' (.c i) = x := by
        show (match s'[i]? with | some (.m _ xs) => PyData.list xs | some (.d x) => x | _ => .none) = _
        rw [c]
      rw [z]
      exact e2
  | .f xs, ⟨a, vs, e, n, h1, h2, h3⟩ => right; exact ⟨a, vs, xs, e, rfl, h1, h3⟩
/-- the heap grows, nothing that was there changes -/
structure Grow (B H B' H' : Hp) : Prop where
  same : Sub B B'
  up : Sub H H'
  sub : Sub B' H'
  grow : ∀ a, B a = none → B' a = none ∨ H a = none
theorem Grow.refl (e : Sub B H) : Grow B H B H := ⟨e.left, e.right, e, fun _ n => Or.inl n⟩
theorem Sub.new {p : Addr} {o : HO} (t : ∀ P ∈ Tb.ts, TabN H P) (n : H p = none) : Sub H (upd H p o) := .strict t fun a u e => by rw [upd_ne (ne_of_none e n)]; exact e
theorem Sub.free (e : Sub B H) {p : Addr} (n : H p = none) : B p = none := e.live p n
theorem Sub.upd {p : Addr} {o : HO} (e : Sub B H) (n : H p = none) : Sub (upd B p o) (upd H p o) := by
  refine ⟨fun a u h nt => ?_, fun a h => ?_, (Sub.new e.t0 (e.free n)).t1, (Sub.new e.t1 n).t1⟩
  · by_cases c : a = p
    · subst c
      rw [upd_same] at h ⊢
      exact h
    · rw [upd_ne c] at h ⊢
      exact e.keep a u h nt
  · by_cases c : a = p
    · subst c
      rw [upd_same] at h
      cases h
    · rw [upd_ne c] at h ⊢
      exact e.live a h
/-- what is there is kept as data from now on -/
theorem Sub.fix {p : Addr} {o : HO} (e : Sub B H) (h : H p = some o) (n : B p = none) : Sub (L2.upd B p o) H := by
  refine ⟨fun a u q nt => ?_, fun a q => ?_, (Sub.new e.t0 n).t1, e.t1⟩
  · by_cases c : a = p
    · subst c
      rw [upd_same] at q
      cases q
      exact h
    · rw [upd_ne c] at q
      exact e.keep a u q nt
  · by_cases c : a = p
    · subst c
      rw [h] at q
      cases q
    · rw [upd_ne c]
      exact e.live a q
/-- a list of one's own changes -/
theorem Sub.put {p : Addr} {us : List V} {o : HO} (e : Sub B H) (h : H p = some (.lst us)) (n : B p = none) : Sub B (L2.upd H p o) := by
  refine ⟨fun a u q nt => ?_, fun a q => ?_, e.t0, fun P hP => (e.t1 P hP).put h⟩
  · rw [upd_ne (ne_of_none q n)]
    exact e.keep a u q nt
  · by_cases c : a = p
    · subst c
      exact n
    · rw [upd_ne c] at q
      exact e.live a q
/-- a new object that is kept -/
theorem Grow.kept (e : Sub B H) {p : Addr} {o : HO} (n : H p = none) : Grow B H (L2.upd B p o) (L2.upd H p o) := by
  refine ⟨Sub.new e.t0 (e.free n), Sub.new e.t1 n, e.upd n, fun a h => ?_⟩
  by_cases c : a = p
  · right; rw [c]; exact n
  · left; rw [upd_ne c]; exact h
/-- a new list of one's own -/
theorem Grow.own (e : Sub B H) {p : Addr} {o : HO} (n : H p = none) : Grow B H B (L2.upd H p o) := ⟨e.left, Sub.new e.t1 n, e.trans (Sub.new e.t1 n), fun _ h => Or.inl h⟩
theorem Rel.grow {B' : Hp} (R : Rel K B H σ s) (g : Grow B H B' H') : Rel K B' H' σ s := by
  refine ⟨R.len, g.sub, fun i x e => ?_, fun i p xs e => ?_, R.sep⟩
  · obtain ⟨v, e1, e2⟩ := R.dat i x e
    exact ⟨v, e1, e2.up g.same⟩
  · obtain ⟨a, vs, e1, e2, e3, e4⟩ := R.own i p xs e
    refine ⟨a, vs, e1, g.up.k e2, ?_, e4.up g.same⟩
    rcases g.grow a e3 with c | c
    · exact c
    · rw [e2] at c; cases c
theorem Grow.go {B' : Hp} (R : Rel K B H σ s) (g : Grow B H B' H') : GoE K B H σ s B' H' s := by
  refine ⟨⟨R.grow g, g.same, g.up.live, fun a n => ?_, fun a o e nt => Or.inr (g.up.keep a o e nt), fun a c => Or.inr c, fun i ys e => ⟨rfl, ys, e⟩⟩, fun i p xs e => ⟨xs, e⟩, fun i x e => e, fun i p xs e => Or.inl ⟨xs, e⟩⟩
  · rcases g.grow a n with c | c
    · left; exact c
    · right; left; exact c
/-- what an operation hands on -/
def New (K : PySem.W.Frag) (B H B' H' : Hp) (z : Rv) (v : V) : Prop := Grow B H B' H' ∧ match z with
  | .d x => Da K B' v x
  | .c _ => False
  | .f xs => ∃ a vs, v = .ref a ∧ H a = none ∧ H' a = some (.lst vs) ∧ B' a = none ∧ DaL K B' vs xs
theorem New.is {B' : Hp} (n : New K B H B' H' r v) : Is K H B' H' σ s r v := by
  match r, n with
  | .d x, n => exact n.2
  | .c _, n => exact n.2.elim
  | .f xs, n => exact n.2
theorem New.same (e : Sub B H) {x : PyData} (h : Da K B v x) : New K B H B H (.d x) v := ⟨Grow.refl e, h⟩
theorem New.list (e : Sub B H) {p : Addr} {vs : List V} {xs : List PyData} (n : H p = none) (l : DaL K B vs xs) : New K B H B (upd H p (.lst vs)) (.f xs) (.ref p) :=
  ⟨Grow.own e n, p, vs, rfl, n, upd_same, e.free n, l⟩
theorem New.tup (e : Sub B H) {p : Addr} {vs : List V} {xs : List PyData} (n : H p = none) (l : DaL K B vs xs) : New K B H (upd B p (.tup vs)) (upd H p (.tup vs)) (.d (.tuple xs)) (.ref p) :=
  ⟨Grow.kept e n, .tup (Or.inl (Or.inl upd_same)) (l.up (Sub.new e.t0 (e.free n)))⟩
/-- a value is kept as data -/
theorem Is.freeze {B' : Hp} (R : Rel K B H σ s) (g : GoE K B H σ s B' H' s') (h : Is K H B' H' σ s' r v) : ∃ B2, GoE K B H σ s B2 H' (fz s' r) ∧ Da K B2 v (rd s' r) := by
  match r, h with
  | .d x, h => exact ⟨B', g, h⟩
  | .c i, ⟨e, c⟩ =>
    rcases c with ⟨p, xs, c⟩ | ⟨x, c⟩
    · obtain ⟨a, vs, e1, e2, e3, e4⟩ := g.rel.own i p xs c
      rw [e] at e1
      cases e1
      have z : rd s' (.c i) = .list xs := by
        show (match s'[i]? with | some (.m _ xs) => PyData.list xs | some (.d x) => x | _ => .none) = _
        rw [c]
      have z2 : fz s' (.c i) = s'.set i (.d (.list xs)) := by
        show (match s'[i]? with | some (.m _ xs) => s'.set i (.d (.list xs)) | _ => s') = _
        rw [c]
      rw [z, z2]
      have up1 : Sub B' (upd B' a (.lst vs)) := Sub.new g.rel.sub.t0 e3
      have hi : i < s'.length := (List.getElem?_eq_some_iff.mp c).1
      have at_i : (s'.set i (Sl.d (.list xs)))[i]? = some (Sl.d (.list xs)) := List.getElem?_set_self hi
      have off : ∀ j, j ≠ i → (s'.set i (Sl.d (.list xs)))[j]? = s'[j]? := fun j n => List.getElem?_set_ne (Ne.symm n)
      have isM : ∀ (j : Nat) (q : Bool) (ys : List PyData), (s'.set i (Sl.d (.list xs)))[j]? = some (Sl.m q ys) → j ≠ i ∧ s'[j]? = some (Sl.m q ys) := by
        intro j q ys ej
        by_cases n : j = i
        · subst n
          rw [at_i] at ej
          cases ej
        · rw [off j n] at ej
          exact ⟨n, ej⟩
      refine ⟨upd B' a (.lst vs), ⟨⟨⟨?_, ?_, ?_, ?_, ?_⟩, g.same.trans up1, g.live, ?_, g.frame, ?_, ?_⟩, ?_, ?_, ?_⟩, .lst upd_same (e4.up up1)⟩
      · rw [List.length_set]; exact g.rel.len
      · exact g.rel.sub.fix e2 e3
      · intro j x ej
        by_cases n : j = i
        · subst n
          rw [at_i] at ej
          cases ej
          exact ⟨.ref a, e, .lst upd_same (e4.up up1)⟩
        · rw [off j n] at ej
          obtain ⟨w, w1, w2⟩ := g.rel.dat j x ej
          exact ⟨w, w1, w2.up up1⟩
      · intro j q ys ej
        obtain ⟨n, ej⟩ := isM j q ys ej
        obtain ⟨b, ws, w1, w2, w3, w4⟩ := g.rel.own j q ys ej
        refine ⟨b, ws, w1, w2, ?_, w4.up up1⟩
        have nb : b ≠ a := by
          rintro rfl
          exact n (g.rel.sep j i q p ys xs b ej c w1 e)
        rw [upd_ne nb]
        exact w3
      · intro j k q t ys zs b ej ek w1 w2
        obtain ⟨_, ej⟩ := isM j q ys ej
        obtain ⟨_, ek⟩ := isM k t zs ek
        exact g.rel.sep j k q t ys zs b ej ek w1 w2
      · intro b n
        by_cases nb : b = a
        · subst nb
          right; right
          obtain ⟨ys, e5⟩ := g.mkeep i p xs c
          exact ⟨i, p, ys, e5, e⟩
        · rw [upd_ne nb]
          exact g.grow b n
      · rintro b ⟨j, q, ys, ej, w⟩
        obtain ⟨_, ej⟩ := isM j q ys ej
        exact g.cells b ⟨j, q, ys, ej, w⟩
      · intro j ys ej
        obtain ⟨_, ej⟩ := isM j true ys ej
        exact g.pin j ys ej
      · intro j q ys ej
        obtain ⟨_, ej⟩ := isM j q ys ej
        exact g.mkeep j q ys ej
      · intro j x ej
        have e1 := g.dkeep j x ej
        have n : j ≠ i := by
          rintro rfl
          rw [c] at e1
          cases e1
        rw [off j n]
        exact e1
      · intro j q ys ej
        by_cases n : j = i
        · subst n
          right
          exact ⟨_, at_i⟩
        · rw [off j n]
          exact g.mdat j q ys ej
    · obtain ⟨w, e1, e2⟩ := g.rel.dat i x c
      rw [e] at e1
      cases e1
      have z : rd s' (.c i) = x := by
        show (match s'[i]? with | some (.m _ xs) => PyData.list xs | some (.d x) => x | _ => .none) = _
        rw [c]
      have z2 : fz s' (.c i) = s' := by
        show (match s'[i]? with | some (.m _ xs) => s'.set i (.d (.list xs)) | _ => s') = _
        rw [c]
      rw [z, z2]
      exact ⟨B', g, e2⟩
  | .f xs, ⟨a, vs, e, n, h1, h2, h3⟩ =>
    subst e
    have up1 : Sub B' (upd B' a (.lst vs)) := Sub.new g.rel.sub.t0 h2
    have nc : ¬ Cel σ s' a := g.nocell R n
    refine ⟨upd B' a (.lst vs), ⟨⟨⟨g.rel.len, ?_, ?_, ?_, g.rel.sep⟩, g.same.trans up1, g.live, ?_, g.frame, g.cells, g.pin⟩, g.mkeep, g.dkeep, g.mdat⟩, .lst upd_same (h3.up up1)⟩
    · exact g.rel.sub.fix h1 h2
    · intro j x ej
      obtain ⟨w, w1, w2⟩ := g.rel.dat j x ej
      exact ⟨w, w1, w2.up up1⟩
    · intro j q ys ej
      obtain ⟨b, ws, w1, w2, w3, w4⟩ := g.rel.own j q ys ej
      refine ⟨b, ws, w1, w2, ?_, w4.up up1⟩
      have nb : b ≠ a := by
        rintro rfl
        exact nc ⟨j, q, ys, ej, w1⟩
      rw [upd_ne nb]
      exact w3
    · intro b hb
      by_cases nb : b = a
      · subst nb
        right; left; exact n
      · rw [upd_ne nb]
        exact g.grow b hb
end
end DL

namespace DL
open PySem PySem.Spec PyProof.Rows L2
variable [Tb]
/-! ### expressions in data -/
def Lift (K : PySem.W.Frag) (t : AT) : TE := fun σ H φ => ∃ (B : Hp) (s : AS) (Q : Rv → AS → Prop), Rel K B H σ s ∧ t s Q ∧ ∀ r v s' B' H', Q r s' → GoE K B H σ s B' H' s' → Is K H B' H' σ s' r v → φ v H'
def LiftB (K : PySem.W.Frag) (t : BT) : TT := fun σ H φ => ∃ (B : Hp) (s : AS) (Q : Bool → AS → Prop), Rel K B H σ s ∧ t s Q ∧ ∀ b s' B' H', Q b s' → GoE K B H σ s B' H' s' → φ b H'
def LiftD (K : PySem.W.Frag) (t : DT) : TA := fun σ H φ => ∃ (B : Hp) (s : AS) (Q : List PyData → AS → Prop), Rel K B H σ s ∧ t s Q ∧ ∀ ds vs s' B' H', Q ds s' → GoE K B H σ s B' H' s' → DaL K B' vs ds → φ vs H'
/-- an expression, a test, arguments that are kept as data -/
def AE (X : Cx) (e : Expr) (t : AT) : Prop := PE X e (Lift X.K t)
def AB (X : Cx) (e : Expr) (t : BT) : Prop := PT X e (LiftB X.K t)
def AD (X : Cx) (es : List Expr) (t : DT) : Prop := PA X es (LiftD X.K t)
def AW (X : Cx) (e : Expr) (t : BT) : Prop := PW X e (LiftB X.K t)
section
variable {X : Cx} {e : Expr} {es : List Expr} {te te' : TE} {tt tt' : TT} {ta ta' : TA}
theorem PEimp (h : PE X e te) (k : ∀ σ H Q, te' σ H Q → te σ H Q) : PE X e te' := ⟨fun pins s σ H Q I w => h.run pins s σ H Q I (k σ H Q w)⟩
theorem PTimp (h : PT X e tt) (k : ∀ σ H Q, tt' σ H Q → tt σ H Q) : PT X e tt' := ⟨fun pins s σ H Q I w => h.run pins s σ H Q I (k σ H Q w)⟩
theorem PWimp (h : PW X e tt) (k : ∀ σ H Q, tt' σ H Q → tt σ H Q) : PW X e tt' := ⟨fun whole pins s σ H Q I w => h.run whole pins s σ H Q I (k σ H Q w)⟩
theorem PAimp (h : PA X es ta) (k : ∀ σ H Q, ta' σ H Q → ta σ H Q) : PA X es ta' := ⟨fun pos pins s σ H Q I w => h.run pos pins s σ H Q I (k σ H Q w)⟩
end
/-! the readings -/
def xC (d : PyData) : AT := fun s Q => Q (.d d) s
def xVar (i : Nat) : AT := fun s Q => match s[i]? with
  | some (.d x) => Q (.d x) s
  | some (.m _ _) => Q (.c i) s
  | _ => False
/-- kept as data -/
def xD (t : AT) : AT := fun s Q => t s fun r s1 => Q (.d (rd s1 r)) (fz s1 r)
/-- kept as data unless it is new -/
def xR (t : AT) : AT := fun s Q => t s fun r s1 => match r with
  | .f xs => Q (.f xs) s1
  | r => Q (.d (rd s1 r)) (fz s1 r)
def x1 (t : AT) (op : PyData → (Rv → Prop) → Prop) : AT := fun s Q => t s fun r s1 => op (rd s1 r) fun z => Q z s1
def x2 (t u : AT) (op : PyData → PyData → (Rv → Prop) → Prop) : AT := fun s Q => t s fun r1 s1 => u s1 fun r2 s2 => op (rd s2 r1) (rd s2 r2) fun z => Q z s2
def xIf (c : BT) (t u : AT) : AT := fun s Q => c s fun b s1 => if b = true then t s1 Q else u s1 Q
def xAnd (t u : AT) : AT := fun s Q => t s fun r s1 => match rd s1 r with
  | .bool true => u s1 Q
  | .bool false => Q (.d (.bool false)) s1
  | _ => False
def xOr (t u : AT) : AT := fun s Q => t s fun r s1 => match rd s1 r with
  | .bool true => Q (.d (.bool true)) s1
  | .bool false => u s1 Q
  | _ => False
def xNot (t : AT) : AT := fun s Q => t s fun r s1 => match rd s1 r with
  | .bool b => Q (.d (.bool !b)) s1
  | _ => False
def dNil : DT := fun s Q => Q [] s
def dCons (t : AT) (u : DT) : DT := fun s Q => t s fun r s1 => u (fz s1 r) fun ds s2 => Q (rd s1 r :: ds) s2
def xTup (t : DT) : AT := fun s Q => t s fun ds s1 => ds.length ≤ 1000 ∧ Q (.d (.tuple ds)) s1
def xLst (t : DT) : AT := fun s Q => t s fun ds s1 => ds.length ≤ 1000 ∧ Q (.f ds) s1
def bV (t : AT) : BT := fun s Q => t s fun r s1 => match rd s1 r with
  | .bool b => Q b s1
  | _ => False
/-- a value's truth -/
def tru : PyData → Bool
  | .none => false
  | .bool b => b
  | .int i => i != 0
  | .str x => x.length != 0
  | .list xs => !xs.isEmpty
  | .tuple xs => !xs.isEmpty
  | .dict ds => !ds.isEmpty
def bT (t : AT) : BT := fun s Q => t s fun r s1 => (∀ x, rd s1 r = .str x → x.length ≤ sizeLine) ∧ (∀ ds, rd s1 r ≠ .dict ds) ∧ Q (tru (rd s1 r)) s1
def bAnd (t u : BT) : BT := fun s Q => t s fun b s1 => if b = true then u s1 Q else Q false s1
def bOr (t u : BT) : BT := fun s Q => t s fun b s1 => if b = true then Q true s1 else u s1 Q
def bNot (t : BT) : BT := fun s Q => t s fun b s1 => Q (!b) s1
section
variable {X : Cx} {e a b c : Expr} {rest es : List Expr} {t u v : AT} {tb ub : BT} {td : DT} {pos p : Pos} {i : Nat} {x : Str} {d : PyData} {σ : L2.St} {H : Hp} {φ : VK}
theorem ae_var (hN : X.N[i]? = some x) (hv : Vis X.env.scope x) (hd : (x == ("__debug__" : Str)) = false := by decide) (hcd : (x == ("__classdict__" : Str)) = false := by decide) : AE X (.Name x pos) (xVar i) := by
  refine PEimp (pe_var hN hv hd hcd) ?_
  rintro σ H φ ⟨B, s, Q, R, h, k⟩
  have h : (match s[i]? with | some (.d x) => Q (.d x) s | some (.m _ _) => Q (.c i) s | _ => False) := h
  rcases es : s[i]? with _ | (_ | y | ⟨p, xs⟩)
  · rw [es] at h; exact h.elim
  · rw [es] at h; exact h.elim
  · rw [es] at h
    obtain ⟨w, e1, e2⟩ := R.dat i y es
    exact ⟨w, e1, k _ _ _ _ _ h (GoE.refl R) e2⟩
  · rw [es] at h
    obtain ⟨b, vs, e1, e2, e3, e4⟩ := R.own i p xs es
    exact ⟨_, e1, k _ _ _ _ _ h (GoE.refl R) ⟨e1, Or.inl ⟨p, xs, es⟩⟩⟩
theorem ae_const {te : TE} {v : V} (h : PE X e (tC v)) (hd : ∀ B, Da X.K B v d) : AE X e (xC d) := by
  refine PEimp h ?_
  rintro σ H φ ⟨B, s, Q, R, h, k⟩
  exact k _ _ _ _ _ h (GoE.refl R) (hd B)
theorem ae_int {z : Int} {j} : AE X (.Constant (.int z) j pos) (xC (.int z)) := ae_const (te := tC (.int z)) pe_int fun _ => .int z
theorem ae_bl {z : Bool} {j} : AE X (.Constant (.bool z) j pos) (xC (.bool z)) := ae_const (te := tC (.bl z)) pe_bl fun _ => .bl z
theorem ae_non {j} : AE X (.Constant .none j pos) (xC .none) := ae_const (te := tC .non) pe_non fun _ => .non
theorem ae_str {z : Str} {j} : AE X (.Constant (.str z) j pos) (xC (.str z)) := ae_const (te := tC (.str z)) pe_str fun _ => .str z
/-- one operand -/
def Ok1 (K : PySem.W.Frag) (r : V → Hp → VK → Prop) (op : PyData → (Rv → Prop) → Prop) : Prop := ∀ (B H : Hp) (x : V) (dx : PyData) (P : Rv → Prop) (φ : VK), Sub B H → Rdd K B H x dx → op dx P → (∀ z v B' H', P z → New K B H B' H' z v → φ v H') → r x H φ
/-- two operands -/
def Ok2 (K : PySem.W.Frag) (r : R2) (op : PyData → PyData → (Rv → Prop) → Prop) : Prop := ∀ (B H : Hp) (x y : V) (dx dy : PyData) (P : Rv → Prop) (φ : VK), Sub B H → Rdd K B H x dx → Rdd K B H y dy → op dx dy P → (∀ z v B' H', P z → New K B H B' H' z v → φ v H') → r x y H φ
theorem lift1 {r : V → Hp → VK → Prop} {op : PyData → (Rv → Prop) → Prop} (ok : Ok1 X.K r op) (h : Lift X.K (x1 t op) σ H φ) : Lift X.K t σ H fun x H1 => r x H1 φ := by
  obtain ⟨B, s, Q, R, h, k⟩ := h
  refine ⟨B, s, _, R, h, ?_⟩
  intro r1 v1 s1 B1 H1 q g is
  refine ok B1 H1 v1 _ _ φ g.rel.sub (is.rdd g.rel) q ?_
  intro z v B2 H2 q2 nw
  have g2 : GoE X.K B1 H1 σ s1 B2 H2 s1 := nw.1.go g.rel
  exact k z v s1 B2 H2 q2 (g.trans g2) (Is.back g.live nw.is)
theorem lift2 {r : R2} {op : PyData → PyData → (Rv → Prop) → Prop} (ok : Ok2 X.K r op) (h : Lift X.K (x2 t u op) σ H φ) : tOp r (Lift X.K t) (Lift X.K u) σ H φ := by
  obtain ⟨B, s, Q, R, h, k⟩ := h
  refine ⟨B, s, _, R, h, ?_⟩
  intro r1 v1 s1 B1 H1 q g is
  refine ⟨B1, s1, _, g.rel, q, ?_⟩
  intro r2 v2 s2 B2 H2 q2 g2 is2
  have is1 := is.keep R g g2
  refine ok B2 H2 v1 v2 _ _ _ φ g2.rel.sub (is1.rdd g2.rel) (is2.rdd g2.rel) q2 ?_
  intro z v B3 H3 q3 nw
  have g3 : GoE X.K B2 H2 σ s2 B3 H3 s2 := nw.1.go g2.rel
  exact k z v s2 B3 H3 q3 ((g.trans g2).trans g3) (Is.back (fun a n => g.live a (g2.live a n)) nw.is)
theorem ae_op {op : Operator} {r : R2} {f : PyData → PyData → (Rv → Prop) → Prop} (ho : OpR X (binaryOp op) r) (ok : Ok2 X.K r f) (ha : AE X a t) (hb : AE X b u) : AE X (.BinOp a op b pos) (x2 t u f) := PEimp (pe_op ho ha hb) fun _ _ _ h => lift2 ok h
theorem ae_cmp {op : CmpOp} {r : R2} {f : PyData → PyData → (Rv → Prop) → Prop} (ho : OpR X (compareOp op) r) (ok : Ok2 X.K r f) (hm : behindInMarks op b = false) (ha : AE X a t) (hb : AE X b u) : AE X (.Compare a [op] [b] pos) (x2 t u f) := PEimp (pe_cmpR ho ha hb hm) fun _ _ _ h => lift2 ok h
theorem ae_un {op : UnaryOp} {r : V → Hp → VK → Prop} {f : PyData → (Rv → Prop) → Prop} (ho : UnR X (unaryOp op) r) (ok : Ok1 X.K r f) (ha : AE X a t) : AE X (.UnaryOp op a pos) (x1 t f) := PEimp (pe_un ho ha) fun _ _ _ h => lift1 ok h
theorem ae_if (hc : AB X c tb) (ha : AE X a t) (hb : AE X b u) : AE X (.IfExp c a b pos) (xIf tb t u) := by
  refine PEimp (pe_ifExp hc ha hb) ?_
  rintro σ H φ ⟨B, s, Q, R, h, k⟩
  refine ⟨B, s, _, R, h, ?_⟩
  intro bb s1 B1 H1 q g
  cases bb with
  | true => exact iteT ⟨B1, s1, Q, g.rel, q, fun r v s2 B2 H2 q2 g2 is => k r v s2 B2 H2 q2 (g.trans g2) (is.back g.live)⟩
  | false => exact iteF ⟨B1, s1, Q, g.rel, q, fun r v s2 B2 H2 q2 g2 is => k r v s2 B2 H2 q2 (g.trans g2) (is.back g.live)⟩
theorem Is.val {K : PySem.W.Frag} {B' H' : Hp} {s' : AS} {r : Rv} {v : V} {d : PyData} (R : Rel K B' H' σ s') (h : Is K H B' H' σ s' r v) (e : rd s' r = d) (nl : ∀ xs, d ≠ .list xs) : Da K B' v d := by
  rcases h.rdd R with h | ⟨a, vs, xs, _, h, _⟩
  · rw [e] at h; exact h
  · exact absurd (e.symm.trans h) (nl xs)
theorem ae_and (ha : AE X a t) (hb : AE X (.BoolOp .And (b :: rest) p) u) : AE X (.BoolOp .And (a :: b :: rest) p) (xAnd t u) := by
  refine PEimp (pe_and ha hb) ?_
  rintro σ H φ ⟨B, s, Q, R, h, k⟩
  refine ⟨B, s, _, R, h, ?_⟩
  intro r v s1 B1 H1 q g is
  have q : (match rd s1 r with | .bool true => u s1 Q | .bool false => Q (.d (.bool false)) s1 | _ => False) := q
  split at q
  · next e =>
    cases is.val g.rel e (fun _ => nofun)
    exact ⟨true, rfl, iteT ⟨B1, s1, Q, g.rel, q, fun r v s2 B2 H2 q2 g2 is2 => k r v s2 B2 H2 q2 (g.trans g2) (is2.back g.live)⟩⟩
  · next e =>
    cases is.val g.rel e (fun _ => nofun)
    exact ⟨false, rfl, iteF (k _ _ _ _ _ q g (Da.bl false))⟩
  · exact q.elim
theorem ae_one {op} (ha : AE X a t) : AE X (.BoolOp op [a] pos) t := pe_one ha
theorem ae_not (ha : AE X a t) : AE X (.UnaryOp .Not a pos) (xNot t) := by
  refine PEimp (pe_not ha) ?_
  rintro σ H φ ⟨B, s, Q, R, h, k⟩
  refine ⟨B, s, _, R, h, ?_⟩
  intro r v s1 B1 H1 q g is
  have q : (match rd s1 r with | .bool b => Q (.d (.bool !b)) s1 | _ => False) := q
  split at q
  · next bb e =>
    cases is.val g.rel e (fun _ => nofun)
    exact ⟨bb, rfl, k _ _ _ _ _ q g (Da.bl _)⟩
  · exact q.elim
/-! tests -/
theorem ab_val (h : AE X e t) (he : ∀ whole, isTrue e X.env whole = (do let v ← whole; standAt e.pos; holding [v] (truthy v)) := by intro _; rfl) : AB X e (bV t) := by
  refine PTimp (pt_val h he) ?_
  rintro σ H φ ⟨B, s, Q, R, h, k⟩
  refine ⟨B, s, _, R, h, ?_⟩
  intro r v s1 B1 H1 q g is
  have q : (match rd s1 r with | .bool b => Q b s1 | _ => False) := q
  split at q
  · next bb e =>
    cases is.val g.rel e (fun _ => nofun)
    exact ⟨bb, rfl, k _ _ _ _ q g⟩
  · exact q.elim
theorem ab_cmp {op : CmpOp} {r : R2} {f : PyData → PyData → (Rv → Prop) → Prop} (ho : OpR X (compareOp op) r) (ok : Ok2 X.K r f) (hm : behindInMarks op b = false) (ha : AE X a t) (hb : AE X b u) : AB X (.Compare a [op] [b] pos) (bV (x2 t u f)) := by
  refine PTimp (pt_cmpR ho ha hb hm) ?_
  rintro σ H φ ⟨B, s, Q, R, h, k⟩
  refine lift2 ok (u := u) (t := t) ⟨B, s, _, R, h, ?_⟩
  intro r v s1 B1 H1 q g is
  have q : (match rd s1 r with | .bool b => Q b s1 | _ => False) := q
  split at q
  · next bb e =>
    cases is.val g.rel e (fun _ => nofun)
    exact ⟨bb, rfl, k _ _ _ _ q g⟩
  · exact q.elim
theorem ab_not (h : AB X a tb) : AB X (.UnaryOp .Not a pos) (bNot tb) := by
  refine PTimp (pt_not h) ?_
  rintro σ H φ ⟨B, s, Q, R, h, k⟩
  exact ⟨B, s, _, R, h, fun b s1 B1 H1 q g => k _ _ _ _ q g⟩
theorem aw_or1 (h : AB X a tb) : AW X (.BoolOp .Or [a] pos) tb := pw_or1 h
theorem aw_or (ha : AB X a tb) (hb : AW X (.BoolOp .Or (b :: rest) p) ub) : AW X (.BoolOp .Or (a :: b :: rest) p) (bOr tb ub) := by
  refine PWimp (pw_or ha hb) ?_
  rintro σ H φ ⟨B, s, Q, R, h, k⟩
  refine ⟨B, s, _, R, h, fun b s1 B1 H1 q g => ?_⟩
  cases b with
  | true => exact iteT (k _ _ _ _ q g)
  | false => exact iteF ⟨B1, s1, Q, g.rel, q, fun b2 s2 B2 H2 q2 g2 => k b2 s2 B2 H2 q2 (g.trans g2)⟩
theorem ab_w (h : AW X e tb) : AB X e tb := PW.pt h
/-! displays -/
theorem ad_nil : AD X [] dNil := by
  refine PAimp pa_nil ?_
  rintro σ H φ ⟨B, s, Q, R, h, k⟩
  exact k _ _ _ _ _ h (GoE.refl R) .nil
theorem ad_cons (ha : AE X e t) (hr : AD X es td) (hs : starEach (e :: es) X.env = (false, eval e X.env) :: starEach es X.env := by rfl) : AD X (e :: es) (dCons t td) := by
  refine PAimp (pa_cons ha hr hs) ?_
  rintro σ H φ ⟨B, s, Q, R, h, k⟩
  refine ⟨B, s, _, R, h, ?_⟩
  intro r v s1 B1 H1 q g is
  obtain ⟨B2, g2, d2⟩ := is.freeze R g
  refine ⟨B2, fz s1 r, _, g2.rel, q, ?_⟩
  intro ds vs s3 B3 H3 q3 g3 l3
  exact k _ _ _ _ _ q3 (g2.trans g3) (.cons (d2.up g3.same) l3)
theorem ae_tup (h : AD X es td) {x1} : AE X (.Tuple es x1 pos) (xTup td) := by
  refine PEimp (pe_tup h) ?_
  rintro σ H φ ⟨B, s, Q, R, h, k⟩
  refine ⟨B, s, _, R, h, ?_⟩
  rintro ds vs s1 B1 H1 ⟨few, q⟩ g l
  refine ⟨by rw [l.length]; exact Nat.le_trans few (by decide), fun p hp => ?_⟩
  have nw := New.tup (K := X.K) g.rel.sub hp l
  exact k _ _ _ _ _ q (g.trans (nw.1.go g.rel)) nw.2
theorem ae_lst (h : AD X es td) : AE X (.List es pos) (xLst td) := by
  refine PEimp (pe_lst h) ?_
  rintro σ H φ ⟨B, s, Q, R, h, k⟩
  refine ⟨B, s, _, R, h, ?_⟩
  rintro ds vs s1 B1 H1 ⟨few, q⟩ g l
  refine ⟨by rw [l.length]; exact Nat.le_trans few (by decide), fun p hp => ?_⟩
  have nw := New.list (K := X.K) g.rel.sub hp l
  exact k _ _ _ _ _ q (g.trans (nw.1.go g.rel)) (Is.back g.live nw.is)
end
end DL

namespace DL
open PySem PySem.Spec PyProof.Rows L2
variable [Tb]
/-! ### operations on data -/
/-- small enough for products, quotients, common divisors -/
def Sm (i : Int) : Prop := i.natAbs < 2 ^ 4000
def oAdd : PyData → PyData → (Rv → Prop) → Prop
  | .int i, .int j, k => k (.d (.int (i + j)))
  | .list xs, .list ys, k => (xs.length ≤ 100000 ∧ ys.length ≤ 100000) ∧ k (.f (xs ++ ys))
  | .tuple xs, .tuple ys, k => (xs ≠ [] ∧ ys ≠ [] ∧ xs.length ≤ 100000 ∧ ys.length ≤ 100000) ∧ k (.d (.tuple (xs ++ ys)))
  | _, _, _ => False
def oSub : PyData → PyData → (Rv → Prop) → Prop
  | .int i, .int j, k => k (.d (.int (i - j)))
  | _, _, _ => False
def oMul : PyData → PyData → (Rv → Prop) → Prop
  | .int i, .int j, k => (Sm i ∧ Sm j) ∧ k (.d (.int (i * j)))
  | _, _, _ => False
def oDiv : PyData → PyData → (Rv → Prop) → Prop
  | .int i, .int j, k => (j ≠ 0 ∧ j.natAbs < 2 ^ 8100) ∧ k (.d (.int (i.fdiv j)))
  | _, _, _ => False
def oMod : PyData → PyData → (Rv → Prop) → Prop
  | .int i, .int j, k => j ≠ 0 ∧ k (.d (.int (i.fmod j)))
  | _, _, _ => False
def oPow : PyData → PyData → (Rv → Prop) → Prop
  | .int i, .int j, k => (0 ≤ j ∧ j ≤ 1000 ∧ i.natAbs < 1000) ∧ k (.d (.int (i ^ j.toNat)))
  | _, _, _ => False
def oNeg : PyData → (Rv → Prop) → Prop
  | .int i, k => k (.d (.int (-i)))
  | _, _ => False
def oLt : PyData → PyData → (Rv → Prop) → Prop
  | .int i, .int j, k => k (.d (.bool (decide (i < j))))
  | _, _, _ => False
def oLe : PyData → PyData → (Rv → Prop) → Prop
  | .int i, .int j, k => k (.d (.bool (decide (i ≤ j))))
  | _, _, _ => False
def oGt : PyData → PyData → (Rv → Prop) → Prop
  | .int i, .int j, k => k (.d (.bool (decide (j < i))))
  | _, _, _ => False
def oGe : PyData → PyData → (Rv → Prop) → Prop
  | .int i, .int j, k => k (.d (.bool (decide (j ≤ i))))
  | _, _, _ => False
/-- both are texts -/
def twoStr : PyData → PyData → Option (Str × Str)
  | .str a, .str b => some (a, b)
  | _, _ => none
def oEq (d e : PyData) (k : Rv → Prop) : Prop := match twoStr d e with
  | some (a, b) => k (.d (.bool (decide (a = b))))
  | none => SeqAt.shaped d = true ∧ SeqAt.shaped e = true ∧ k (.d (.bool (PyData.eqv d e)))
def oNe (d e : PyData) (k : Rv → Prop) : Prop := match twoStr d e with
  | some (a, b) => k (.d (.bool (!decide (a = b))))
  | none => SeqAt.shaped d = true ∧ SeqAt.shaped e = true ∧ k (.d (.bool (!PyData.eqv d e)))
/-- the item at a place, from either end -/
def ixD (xs : List PyData) (i : Int) : Option PyData := if 0 ≤ i then xs[i.toNat]? else if -(xs.length : Int) ≤ i then xs[(i + xs.length).toNat]? else none
def oIx : PyData → PyData → (Rv → Prop) → Prop
  | .dict [(.none, .list xs)], .int i, k => match ixD xs i with
    | some d => k (.d d)
    | none => False
  | .list xs, .int i, k => match ixD xs i with
    | some d => k (.d d)
    | none => False
  | .tuple xs, .int i, k => match ixD xs i with
    | some d => k (.d d)
    | none => False
  | _, _, _ => False
section
variable {K : PySem.W.Frag} {B H : Hp} {v : V} {d : PyData}
theorem Rdd.flat (h : Rdd K B H v d) (nl : ∀ xs, d ≠ .list xs) : Da K B v d := by
  rcases h with h | ⟨a, vs, xs, _, h, _⟩
  · exact h
  · exact absurd h (nl xs)
theorem Rdd.int {i : Int} (h : Rdd K B H v (.int i)) : v = .int i := by
  cases h.flat (fun _ => nofun)
  rfl
theorem Rdd.bool {b : Bool} (h : Rdd K B H v (.bool b)) : v = .bl b := by
  cases h.flat (fun _ => nofun)
  rfl
theorem Rdd.tuple {xs : List PyData} (h : Rdd K B H v (.tuple xs)) (e : Sub B H) : ∃ a vs, v = .ref a ∧ SqT K H a vs ∧ DaL K B vs xs := by
  cases h.flat (fun _ => nofun) with
  | tup s l => exact ⟨_, _, rfl, e.sqT s, l⟩
theorem Rdd.list {xs : List PyData} (h : Rdd K B H v (.list xs)) (e : Sub B H) : ∃ a vs, v = .ref a ∧ H a = some (.lst vs) ∧ DaL K B vs xs := by
  rcases h with h | ⟨a, vs, ys, rfl, z, q, l⟩
  · cases h with
    | lst s l => exact ⟨_, _, rfl, e.k s, l⟩
  · cases z
    exact ⟨a, vs, rfl, q, l⟩
theorem DaK.noNone {kvs : List (Key × V)} {ds : List (PyData × PyData)} (h : DaK K H kvs ds) : ∀ x r, ds ≠ (.none, x) :: r := by
  intro x r e
  cases h with
  | nil => cases e
  | @cons k _ _ _ _ _ _ =>
    have z := congrArg Prod.fst (List.cons.inj e).1
    cases k <;> cases z
theorem Rdd.scr {xs : List PyData} (h : Rdd K B H v (.dict [(.none, .list xs)])) (e : Sub B H) : ∃ a vs, v = .ref a ∧ SqL K H a vs ∧ DaL K B vs xs := by
  cases h.flat (fun _ => nofun) with
  | scr s => exact ⟨_, _, rfl, e.sqL s, DaL.int _⟩
  | dct _ k => exact absurd rfl (k.noNone _ _)
theorem ok2_int {r : R2} {f : PyData → PyData → (Rv → Prop) → Prop} {C : Int → Int → Prop} {g : Int → Int → V} {gd : Int → Int → PyData} (hf : ∀ d e k, f d e k → ∃ i j, d = .int i ∧ e = .int j ∧ C i j ∧ k (.d (gd i j)))
    (hg : ∀ (B : Hp) i j, Da K B (g i j) (gd i j)) (hr : ∀ i j H Q, C i j → Q (g i j) H → r (.int i) (.int j) H Q) : Ok2 K r f := by
  intro B H x y dx dy P φ sub hx hy q k
  obtain ⟨i, j, rfl, rfl, c, q⟩ := hf _ _ _ q
  cases hx.int
  cases hy.int
  exact hr _ _ _ _ c (k _ _ _ _ q (New.same sub (hg _ _ _)))
end
section
variable {X : Cx} {a b e : Expr} {t u : AT} {pos : Pos}
theorem OpR.or {X : Cx} {f : Value → Value → Sem Value} {r r' : R2} (h : OpR X f r) (h' : OpR X f r') : OpR X f (fun x y H Q => r x y H Q ∨ r' x y H Q) := by
  intro pins s σ H x y v u Q I rx ry q
  rcases q with q | q
  · exact h pins s σ H x y v u Q I rx ry q
  · exact h' pins s σ H x y v u Q I rx ry q
theorem line_of {n : Nat} (h : n ≤ 1000000) : n ≤ sizeLine := Nat.le_trans h (by decide)
theorem ok_add {K : PySem.W.Frag} : Ok2 K (fun x y H Q => rI0 (fun i j => .int (i + j)) x y H Q ∨ (rCat x y H Q ∨ rCatT K x y H Q)) oAdd := by
  intro B H x y dx dy P φ sub hx hy q k
  match dx, dy, hx, hy, q with
  | .int i, .int j, hx, hy, q =>
    cases hx.int
    cases hy.int
    left
    exact ⟨i, j, rfl, rfl, k _ _ _ _ q (New.same sub (.int _))⟩
  | .list xs, .list ys, hx, hy, ⟨⟨f1, f2⟩, q⟩ =>
    obtain ⟨a, vs, rfl, ha, la⟩ := hx.list sub
    obtain ⟨b, ws, rfl, hb, lb⟩ := hy.list sub
    right; left
    refine ⟨a, b, vs, ws, rfl, rfl, ha, hb, ?_, fun p hp => k _ _ _ _ q (New.list sub hp (la.app lb))⟩
    rw [la.length, lb.length]
    exact line_of (by omega)
  | .tuple xs, .tuple ys, hx, hy, ⟨⟨n1, n2, f1, f2⟩, q⟩ =>
    obtain ⟨a, vs, rfl, ha, la⟩ := hx.tuple sub
    obtain ⟨b, ws, rfl, hb, lb⟩ := hy.tuple sub
    right; right
    refine ⟨a, b, vs, ws, rfl, rfl, ha, hb, ?_, ?_, ?_, fun _ p hp => k _ _ _ _ q (New.tup sub hp (la.app lb))⟩
    · rintro rfl
      cases la
      exact n1 rfl
    · rw [la.length, lb.length]
      exact line_of (by omega)
    · rintro rfl
      cases lb
      exact absurd rfl n2
theorem ae_add (ha : AE X a t) (hb : AE X b u) : AE X (.BinOp a .Add b pos) (x2 t u oAdd) := ae_op (OpR.or op_add (OpR.or op_cat op_catT)) ok_add ha hb
theorem ae_sub (ha : AE X a t) (hb : AE X b u) : AE X (.BinOp a .Sub b pos) (x2 t u oSub) := ae_op op_sub (ok2_int (C := fun _ _ => True) (g := fun i j => .int (i - j)) (gd := fun i j => .int (i - j)) (fun d e k h => by
  match d, e, h with
  | .int i, .int j, h => exact ⟨i, j, rfl, rfl, trivial, h⟩) (fun _ _ _ => .int _) fun i j H Q _ q => ⟨i, j, rfl, rfl, q⟩) ha hb
theorem ae_mul (ha : AE X a t) (hb : AE X b u) : AE X (.BinOp a .Mult b pos) (x2 t u oMul) := ae_op op_mulW (ok2_int (C := fun i j => Sm i ∧ Sm j) (g := fun i j => .int (i * j)) (gd := fun i j => .int (i * j)) (fun d e k h => by
  match d, e, h with
  | .int i, .int j, ⟨c, h⟩ => exact ⟨i, j, rfl, rfl, c, h⟩) (fun _ _ _ => .int _) fun i j H Q c q => ⟨i, j, rfl, rfl, wide_mul c.1 c.2 (by decide) (by decide) (by decide), q⟩) ha hb
theorem op_fdivB : OpR X (binaryOp .FloorDiv) (rI (fun _ j => j ≠ 0 ∧ j.natAbs.log2 < 9000) fun i j => .int (i.fdiv j)) := opI fun _ _ _ _ _ _ _ hc q => floordiv_int hc.1 q (.inl (PyProof.noPylong_of_log2 hc.2))
theorem ae_div (ha : AE X a t) (hb : AE X b u) : AE X (.BinOp a .FloorDiv b pos) (x2 t u oDiv) := ae_op op_fdivB (ok2_int (C := fun _ j => j ≠ 0 ∧ j.natAbs < 2 ^ 8100) (g := fun i j => .int (i.fdiv j)) (gd := fun i j => .int (i.fdiv j)) (fun d e k h => by
  match d, e, h with
  | .int i, .int j, ⟨c, h⟩ => exact ⟨i, j, rfl, rfl, c, h⟩) (fun _ _ _ => .int _) fun i j H Q c q => ⟨i, j, rfl, rfl, ⟨c.1, Nat.lt_of_lt_of_le (PySem.Flt.log2_lt_of (by decide) c.2) (by decide)⟩, q⟩) ha hb
theorem ae_mod (ha : AE X a t) (hb : AE X b u) : AE X (.BinOp a .Mod b pos) (x2 t u oMod) := ae_op op_modN (ok2_int (C := fun _ j => j ≠ 0) (g := fun i j => .int (i.fmod j)) (gd := fun i j => .int (i.fmod j)) (fun d e k h => by
  match d, e, h with
  | .int i, .int j, ⟨c, h⟩ => exact ⟨i, j, rfl, rfl, c, h⟩) (fun _ _ _ => .int _) fun i j H Q c q => ⟨i, j, rfl, rfl, c, q⟩) ha hb
theorem ae_pow (ha : AE X a t) (hb : AE X b u) : AE X (.BinOp a .Pow b pos) (x2 t u oPow) := ae_op op_pow (ok2_int (C := fun i j => 0 ≤ j ∧ j ≤ 1000 ∧ i.natAbs < 1000) (g := fun i j => .int (i ^ j.toNat)) (gd := fun i j => .int (i ^ j.toNat)) (fun d e k h => by
  match d, e, h with
  | .int i, .int j, ⟨c, h⟩ => exact ⟨i, j, rfl, rfl, c, h⟩) (fun _ _ _ => .int _) fun i j H Q c q => ⟨i, j, rfl, rfl, ⟨c.1, by omega, Nat.lt_of_lt_of_le c.2.2 (by decide)⟩, q⟩) ha hb
theorem ae_neg (ha : AE X a t) : AE X (.UnaryOp .USub a pos) (x1 t oNeg) := ae_un un_neg (fun B H x dx P φ sub hx q k => by
  match dx, hx, q with
  | .int i, hx, q =>
    cases hx.int
    exact ⟨i, rfl, k _ _ _ _ q (New.same sub (.int _))⟩) ha
theorem ok_cmp {K : PySem.W.Frag} {p : Int → Int → Bool} {f : PyData → PyData → (Rv → Prop) → Prop} (hf : ∀ d e k, f d e k → ∃ i j, d = .int i ∧ e = .int j ∧ k (.d (.bool (p i j)))) : Ok2 K (rI0 fun i j => .bl (p i j)) f :=
  ok2_int (C := fun _ _ => True) (g := fun i j => .bl (p i j)) (gd := fun i j => .bool (p i j)) (fun d e k h => by
    obtain ⟨i, j, h1, h2, h3⟩ := hf d e k h
    exact ⟨i, j, h1, h2, trivial, h3⟩) (fun _ _ _ => .bl _) fun i j H Q _ q => ⟨i, j, rfl, rfl, q⟩
theorem ok_lt {K : PySem.W.Frag} : Ok2 K (rI0 fun i j => .bl (decide (i < j))) oLt := ok_cmp fun d e k h => by
  match d, e, h with
  | .int i, .int j, h => exact ⟨i, j, rfl, rfl, h⟩
theorem ok_gt {K : PySem.W.Frag} : Ok2 K (rI0 fun i j => .bl (decide (j < i))) oGt := ok_cmp (p := fun i j => decide (j < i)) fun d e k h => by
  match d, e, h with
  | .int i, .int j, h => exact ⟨i, j, rfl, rfl, h⟩
theorem ok_ge {K : PySem.W.Frag} : Ok2 K (rI0 fun i j => .bl (decide (j ≤ i))) oGe := ok_cmp (p := fun i j => decide (j ≤ i)) fun d e k h => by
  match d, e, h with
  | .int i, .int j, h => exact ⟨i, j, rfl, rfl, h⟩
/-- == and != of data: the reading that a comparison of any data has -/
def rEqA (K : PySem.W.Frag) : R2 := fun x y H Q => ∃ d e, Da K H x d ∧ Da K H y e ∧ SeqAt.shaped d = true ∧ SeqAt.shaped e = true ∧ Q (.bl (PyData.eqv d e)) H
def rNeA (K : PySem.W.Frag) : R2 := fun x y H Q => ∃ d e, Da K H x d ∧ Da K H y e ∧ SeqAt.shaped d = true ∧ SeqAt.shaped e = true ∧ Q (.bl (!PyData.eqv d e)) H
theorem op_eqA (hu : X.A.units + 64 < cLine) : OpR X (compareOp .Eq) (rEqA X.K) := by
  intro pins s σ H x y v u Q I rx ry h
  obtain ⟨d, e, hd, he, sd, se, q⟩ := h
  obtain ⟨as, r1⟩ := Da.reads I d x v hd rx (noDict_of d (SeqAt.canLay_of_shaped sd))
  obtain ⟨bs, r2⟩ := Da.reads I e y u he ry (noDict_of e (SeqAt.canLay_of_shaped se))
  exact SeqAt.compareEq_shaped r1 r2 sd se hu ⟨.bl _, H, I, rfl, q⟩
theorem op_neA (hu : X.A.units + 64 < cLine) : OpR X (compareOp .NotEq) (rNeA X.K) := by
  intro pins s σ H x y v u Q I rx ry h
  obtain ⟨d, e, hd, he, sd, se, q⟩ := h
  obtain ⟨as, r1⟩ := Da.reads I d x v hd rx (noDict_of d (SeqAt.canLay_of_shaped sd))
  obtain ⟨bs, r2⟩ := Da.reads I e y u he ry (noDict_of e (SeqAt.canLay_of_shaped se))
  exact SeqAt.compareNe_shaped r1 r2 sd se hu ⟨.bl _, H, I, rfl, q⟩
theorem twoStr_s {d e : PyData} {a b : Str} (h : twoStr d e = some (a, b)) : d = .str a ∧ e = .str b := by
  unfold twoStr at h
  split at h
  · cases h
    exact ⟨rfl, rfl⟩
  · cases h
theorem Rdd.str {K : PySem.W.Frag} {B H : Hp} {v : V} {x : Str} (h : Rdd K B H v (.str x)) : v = .str x := by
  cases h.flat (fun _ => nofun)
  rfl
theorem ok_eq {K : PySem.W.Frag} : Ok2 K (fun x y H Q => rEq x y H Q ∨ rEqA K x y H Q) oEq := fun B H x y dx dy P φ sub hx hy q k => by
  unfold oEq at q
  rcases e : twoStr dx dy with _ | ⟨a, b⟩
  · rw [e] at q
    obtain ⟨s1, s2, q⟩ := q
    right
    exact ⟨dx, dy, hx.da sub, hy.da sub, s1, s2, k _ _ _ _ q (New.same sub (.bl _))⟩
  · rw [e] at q
    obtain ⟨rfl, rfl⟩ := twoStr_s e
    left
    cases hx.str
    cases hy.str
    refine ⟨rfl, ?_⟩
    have z : decide (V.str a = V.str b) = decide (a = b) := decide_eq_decide.mpr ⟨fun h => V.str.inj h, fun h => by rw [h]⟩
    rw [z]
    exact k _ _ _ _ q (New.same sub (.bl _))
theorem ok_ne {K : PySem.W.Frag} : Ok2 K (fun x y H Q => rNe x y H Q ∨ rNeA K x y H Q) oNe := fun B H x y dx dy P φ sub hx hy q k => by
  unfold oNe at q
  rcases e : twoStr dx dy with _ | ⟨a, b⟩
  · rw [e] at q
    obtain ⟨s1, s2, q⟩ := q
    right
    exact ⟨dx, dy, hx.da sub, hy.da sub, s1, s2, k _ _ _ _ q (New.same sub (.bl _))⟩
  · rw [e] at q
    obtain ⟨rfl, rfl⟩ := twoStr_s e
    left
    cases hx.str
    cases hy.str
    refine ⟨rfl, ?_⟩
    have z : decide (V.str a = V.str b) = decide (a = b) := decide_eq_decide.mpr ⟨fun h => V.str.inj h, fun h => by rw [h]⟩
    rw [z]
    exact k _ _ _ _ q (New.same sub (.bl _))
/-- the comparisons that have a rule: how each is, as data -/
structure CmpA (X : Cx) (op : CmpOp) (f : PyData → PyData → (Rv → Prop) → Prop) : Prop where
  ex : ∃ r, OpR X (compareOp op) r ∧ Ok2 X.K r f
  mk0 : ∀ b, behindInMarks op b = false
theorem c_lt : CmpA X .Lt oLt := ⟨⟨_, op_lt, ok_lt⟩, fun b => nomark b⟩
theorem c_gt : CmpA X .Gt oGt := ⟨⟨_, op_gt, ok_gt⟩, fun b => nomark b⟩
theorem c_ge : CmpA X .GtE oGe := ⟨⟨_, op_ge, ok_ge⟩, fun b => nomark b⟩
theorem c_eq (hu : X.A.units + 64 < cLine) : CmpA X .Eq oEq := ⟨⟨_, OpR.or op_eq (op_eqA hu), ok_eq⟩, fun b => nomark b⟩
theorem c_ne (hu : X.A.units + 64 < cLine) : CmpA X .NotEq oNe := ⟨⟨_, OpR.or op_ne (op_neA hu), ok_ne⟩, fun b => nomark b⟩
theorem ae_cmpC {op : CmpOp} {f : PyData → PyData → (Rv → Prop) → Prop} (c : CmpA X op f) (ha : AE X a t) (hb : AE X b u) : AE X (.Compare a [op] [b] pos) (x2 t u f) := by
  obtain ⟨⟨r, h1, h2⟩, m⟩ := c
  exact ae_cmp h1 h2 (m b) ha hb
theorem ab_cmpC {op : CmpOp} {f : PyData → PyData → (Rv → Prop) → Prop} (c : CmpA X op f) (ha : AE X a t) (hb : AE X b u) : AB X (.Compare a [op] [b] pos) (bV (x2 t u f)) := by
  obtain ⟨⟨r, h1, h2⟩, m⟩ := c
  exact ab_cmp h1 h2 (m b) ha hb
/-- an item -/
theorem ixD_of {K : PySem.W.Frag} {B : Hp} {vs : List V} {xs : List PyData} {i : Int} {d : PyData} (l : DaL K B vs xs) (h : ixD xs i = some d) : ∃ v, atI vs i = some v ∧ Da K B v d := by
  unfold ixD at h
  unfold atI ixN
  rw [l.length]
  by_cases h0 : 0 ≤ i
  · rw [if_pos h0] at h ⊢
    obtain ⟨v, e, z⟩ := l.get h
    have lt : i.toNat < xs.length := (List.getElem?_eq_some_iff.mp h).1
    rw [if_pos (by omega)]
    exact ⟨v, e, z⟩
  · rw [if_neg h0] at h ⊢
    by_cases h1 : -(xs.length : Int) ≤ i
    · rw [if_pos h1] at h ⊢
      obtain ⟨v, e, z⟩ := l.get h
      exact ⟨v, e, z⟩
    · rw [if_neg h1] at h
      cases h
theorem ok_ix {K : PySem.W.Frag} : Ok2 K (rIx K) oIx := by
  intro B H x y dx dy P φ sub hx hy q k
  match dx, dy, hx, hy, q with
  | .dict [(.none, .list xs)], .int i, hx, hy, q =>
    cases hy.int
    obtain ⟨a, vs, rfl, ha, la⟩ := hx.scr sub
    have q : (match ixD xs i with | some d => P (.d d) | none => False) := q
    rcases e : ixD xs i with _ | d
    · rw [e] at q; exact q.elim
    · rw [e] at q
      obtain ⟨v, e1, e2⟩ := ixD_of la e
      left
      exact ⟨a, vs, i, v, rfl, rfl, ha, e1, k _ _ _ _ q (New.same sub e2)⟩
  | .list xs, .int i, hx, hy, q =>
    cases hy.int
    obtain ⟨a, vs, rfl, ha, la⟩ := hx.list sub
    have q : (match ixD xs i with | some d => P (.d d) | none => False) := q
    rcases e : ixD xs i with _ | d
    · rw [e] at q; exact q.elim
    · rw [e] at q
      obtain ⟨v, e1, e2⟩ := ixD_of la e
      left
      exact ⟨a, vs, i, v, rfl, rfl, SqL.of ha, e1, k _ _ _ _ q (New.same sub e2)⟩
  | .tuple xs, .int i, hx, hy, q =>
    cases hy.int
    obtain ⟨a, vs, rfl, ha, la⟩ := hx.tuple sub
    have q : (match ixD xs i with | some d => P (.d d) | none => False) := q
    rcases e : ixD xs i with _ | d
    · rw [e] at q; exact q.elim
    · rw [e] at q
      obtain ⟨v, e1, e2⟩ := ixD_of la e
      right; left
      exact ⟨a, vs, i, v, rfl, rfl, ha, e1, k _ _ _ _ q (New.same sub e2)⟩
theorem ae_ix (ha : AE X a t) (hb : AE X b u) (hs : PlainIx b := by exact fun _ _ => rfl) : AE X (.Subscript a b pos) (x2 t u oIx) := PEimp (pe_ix ix_seq ha hb hs) fun _ _ _ h => lift2 ok_ix h
end
end DL

namespace DL
open PySem PySem.Spec PyProof.Rows L2
variable [Tb]
/-! ### built-in calls on data -/
def oLen : PyData → (Rv → Prop) → Prop
  | .dict [(.none, .list xs)], k => k (.d (.int xs.length))
  | .list xs, k => k (.d (.int xs.length))
  | .tuple xs, k => k (.d (.int xs.length))
  | _, _ => False
def oAbs : PyData → (Rv → Prop) → Prop
  | .int i, k => k (.d (.int (if i < 0 then -i else i)))
  | _, _ => False
/-- sum of a list of ints -/
def intsD : List PyData → Option (List Int)
  | [] => some []
  | .int b :: r => (intsD r).map (b :: ·)
  | _ :: _ => none
theorem intsD_eq : ∀ {ds : List PyData} {bs : List Int}, intsD ds = some bs → ds = bs.map PyData.int
  | [], _, h => by cases h; rfl
  | .int b :: r, bs, h => by
    have h : (intsD r).map (b :: ·) = some bs := h
    rcases e : intsD r with _ | cs
    · rw [e] at h; cases h
    · rw [e] at h
      cases h
      rw [intsD_eq e]
      rfl
  | .none :: _, _, h => nomatch h
  | .bool _ :: _, _, h => nomatch h
  | .str _ :: _, _, h => nomatch h
  | .list _ :: _, _, h => nomatch h
  | .tuple _ :: _, _, h => nomatch h
  | .dict _ :: _, _, h => nomatch h
theorem intsD_map : ∀ bs : List Int, intsD (bs.map PyData.int) = some bs
  | [] => rfl
  | b :: bs => by
    show (intsD (bs.map PyData.int)).map (b :: ·) = _
    rw [intsD_map bs]
    rfl
def oSum : PyData → (Rv → Prop) → Prop
  | .list xs, k => ∃ ns, intsD xs = some ns ∧ k (.d (.int ns.sum))
  | _, _ => False
def oInt : PyData → (Rv → Prop) → Prop
  | .int i, k => k (.d (.int i))
  | _, _ => False
def oGcd : PyData → PyData → (Rv → Prop) → Prop
  | .int i, .int j, k => k (.d (.int (Int.gcd i j)))
  | _, _, _ => False
def oMax : PyData → PyData → (Rv → Prop) → Prop
  | .int i, .int j, k => k (.d (.int (if j > i then j else i)))
  | _, _, _ => False
def oMin : PyData → PyData → (Rv → Prop) → Prop
  | .int i, .int j, k => k (.d (.int (if j < i then j else i)))
  | _, _, _ => False
/-- a list of bools as such -/
def boolsD : List PyData → Option (List Bool)
  | [] => some []
  | .bool b :: r => (boolsD r).map (b :: ·)
  | _ :: _ => none
theorem boolsD_eq : ∀ {ds : List PyData} {bs : List Bool}, boolsD ds = some bs → ds = bs.map PyData.bool
  | [], _, h => by cases h; rfl
  | .bool b :: r, bs, h => by
    have h : (boolsD r).map (b :: ·) = some bs := h
    rcases e : boolsD r with _ | cs
    · rw [e] at h; cases h
    · rw [e] at h
      cases h
      rw [boolsD_eq e]
      rfl
  | .none :: _, _, h => nomatch h
  | .int _ :: _, _, h => nomatch h
  | .str _ :: _, _, h => nomatch h
  | .list _ :: _, _, h => nomatch h
  | .tuple _ :: _, _, h => nomatch h
  | .dict _ :: _, _, h => nomatch h
theorem boolsD_map : ∀ bs : List Bool, boolsD (bs.map PyData.bool) = some bs
  | [] => rfl
  | b :: bs => by
    show (boolsD (bs.map PyData.bool)).map (b :: ·) = _
    rw [boolsD_map bs]
    rfl
def oAll : PyData → (Rv → Prop) → Prop
  | .list xs, k => ∃ bs, boolsD xs = some bs ∧ k (.d (.bool (bs.all id)))
  | _, _ => False
/-- list(x), tuple(x) -/
def oList : PyData → (Rv → Prop) → Prop
  | .list xs, k => k (.f xs)
  | .tuple xs, k => k (.f xs)
  | _, _ => False
def oTuple : PyData → (Rv → Prop) → Prop
  | .list xs, k => k (.d (.tuple xs))
  | .tuple xs, k => k (.d (.tuple xs))
  | _, _ => False
def oRepr (d : PyData) (k : Rv → Prop) : Prop := (d.showable = true ∧ d.hasDict = false ∧ d.shown.length ≤ sizeLine ∧ d.depth ≤ 60) ∧ k (.d (.str d.shown))
/-- what a value is called -/
def kindD : PyData → String
  | .none => "NoneType"
  | .bool _ => "bool"
  | .int _ => "int"
  | .str _ => "str"
  | .list _ => "list"
  | .tuple _ => "tuple"
  | .dict ds => match ds with
    | (.none, _) :: _ => "list"
    | _ => "dict"
/-- no def -/
def noFn : PyData → Bool
  | .dict ((.none, .str _) :: _) => false
  | .dict ((.none, .tuple _) :: _) => false
  | _ => true
mutual
/-- no def in it -/
def plain : PyData → Bool
  | .list ds => plainAll ds
  | .tuple ds => plainAll ds
  | .dict ((.none, .str _) :: _) => false
  | .dict ((.none, .tuple _) :: _) => false
  | _ => true
def plainAll : List PyData → Bool
  | [] => true
  | d :: ds => plain d && plainAll ds
end
def isiD (d : PyData) (T : String) : Bool := kindD d == T || (kindD d == "bool" && T == "int")
def oIsi (T : String) (d : PyData) (k : Rv → Prop) : Prop := noFn d = true ∧ k (.d (.bool (isiD d T)))
section
variable {K : PySem.W.Frag}
abbrev Ok1c (K : PySem.W.Frag) (r : List V → Hp → VK → Prop) (op : PyData → (Rv → Prop) → Prop) : Prop := Ok1 K (fun x H Q => r [x] H Q) op
abbrev Ok2c (K : PySem.W.Frag) (r : List V → Hp → VK → Prop) (op : PyData → PyData → (Rv → Prop) → Prop) : Prop := Ok2 K (fun x y H Q => r [x, y] H Q) op
theorem ok_len : Ok1c K (fun xs H Q => ∃ p ys, xs = [.ref p] ∧ (SqL K H p ys ∨ SqT K H p ys) ∧ Q (.int ys.length) H) oLen := by
  intro B H x dx P φ sub hx q k
  match dx, hx, q with
  | .dict [(.none, .list xs)], hx, q =>
    obtain ⟨a, vs, rfl, ha, la⟩ := hx.scr sub
    refine ⟨a, vs, rfl, Or.inl ha, ?_⟩
    rw [la.length]
    exact k _ _ _ _ q (New.same sub (.int _))
  | .list xs, hx, q =>
    obtain ⟨a, vs, rfl, ha, la⟩ := hx.list sub
    refine ⟨a, vs, rfl, Or.inl (SqL.of ha), ?_⟩
    rw [la.length]
    exact k _ _ _ _ q (New.same sub (.int _))
  | .tuple xs, hx, q =>
    obtain ⟨a, vs, rfl, ha, la⟩ := hx.tuple sub
    refine ⟨a, vs, rfl, Or.inr ha, ?_⟩
    rw [la.length]
    exact k _ _ _ _ q (New.same sub (.int _))
theorem ok_abs : Ok1c K (fun xs H Q => ∃ i, xs = [.int i] ∧ Q (.int (if i < 0 then -i else i)) H) oAbs := by
  intro B H x dx P φ sub hx q k
  match dx, hx, q with
  | .int i, hx, q =>
    cases hx.int
    exact ⟨i, rfl, k _ _ _ _ q (New.same sub (.int _))⟩
theorem ok_int : Ok1c K (fun xs H Q => (∃ i, xs = [.int i] ∧ Q (.int i) H) ∨ ∃ k, xs = [.bl k] ∧ Q (.int (if k then 1 else 0)) H) oInt := by
  intro B H x dx P φ sub hx q k
  match dx, hx, q with
  | .int i, hx, q =>
    cases hx.int
    left
    exact ⟨i, rfl, k _ _ _ _ q (New.same sub (.int _))⟩
theorem ok_max : Ok2c K (fun xs H Q => ∃ i j, xs = [.int i, .int j] ∧ Q (.int (if j > i then j else i)) H) oMax := by
  intro B H x y dx dy P φ sub hx hy q k
  match dx, dy, hx, hy, q with
  | .int i, .int j, hx, hy, q =>
    cases hx.int
    cases hy.int
    exact ⟨i, j, rfl, k _ _ _ _ q (New.same sub (.int _))⟩
theorem ok_min : Ok2c K (fun xs H Q => ∃ i j, xs = [.int i, .int j] ∧ Q (.int (if j < i then j else i)) H) oMin := by
  intro B H x y dx dy P φ sub hx hy q k
  match dx, dy, hx, hy, q with
  | .int i, .int j, hx, hy, q =>
    cases hx.int
    cases hy.int
    exact ⟨i, j, rfl, k _ _ _ _ q (New.same sub (.int _))⟩
theorem ok_all : Ok1c K (rAll K) oAll := by
  intro B H x dx P φ sub hx q k
  match dx, hx, q with
  | .list xs, hx, ⟨bs, e, q⟩ =>
    obtain ⟨a, vs, rfl, ha, la⟩ := hx.list sub
    rw [boolsD_eq e] at la
    rw [la.bools] at ha
    exact ⟨a, bs, rfl, SqL.of ha, k _ _ _ _ q (New.same sub (.bl _))⟩
theorem ok_sum : Ok1c K (rSum K) oSum := by
  intro B H x dx P φ sub hx q k
  match dx, hx, q with
  | .list xs, hx, ⟨ns, e, q⟩ =>
    obtain ⟨a, vs, rfl, ha, la⟩ := hx.list sub
    rw [intsD_eq e] at la
    rw [la.ints] at ha
    exact ⟨a, ns, rfl, SqL.of ha, k _ _ _ _ q (New.same sub (.int _))⟩
theorem ty_of {B H : Hp} {x : V} {d : PyData} (h : Rdd K B H x d) (sub : Sub B H) (nf : noFn d = true) : TyX K H x (.type (kindD d)) := by
  have := h.da sub
  cases this with
  | non => exact .base .non
  | bl b => exact .base (.bl b)
  | int i => exact .base (.int i)
  | str x => exact .base (.str x)
  | lst e l => exact .base (.lst e)
  | @dct a kvs ds e l =>
    have z : kindD (.dict ds) = "dict" := by
      cases l with
      | nil => rfl
      | @cons k _ _ _ _ _ _ => cases k <;> rfl
    rw [z]
    exact .base (.dK e)
  | scr e =>
    rcases e with (e | ⟨o, e⟩) | ⟨o, its, n, e, c, _⟩
    · exact .base (.lst e)
    · exact .base (.frz e)
    · exact .kList e c
  | tup e l =>
    rcases e with (e | ⟨o, e⟩) | ⟨o, its, n, e, c, _⟩
    · exact .base (.tup e)
    · exact .fTuple e
    · exact .kTuple e c
  | fnv _ => cases nf
  | exn => cases nf
  | exc _ _ => cases nf
  | ins _ _ _ _ => cases nf
  | exw _ _ => cases nf
  | exv _ _ _ _ => cases nf
  | lam _ _ => cases nf
theorem kit_all : ∀ a ∈ ["NoneType", "bool", "int", "str", "list", "tuple", "dict"], ∀ b ∈ ["bool", "int", "str", "list", "tuple", "dict"], kitB a b = some (a == b || (a == "bool" && b == "int")) := by decide +kernel
theorem kindD_mem (d : PyData) : kindD d ∈ ["NoneType", "bool", "int", "str", "list", "tuple", "dict"] := by
  unfold kindD
  split <;> (try split) <;> simp
theorem kit_is {T : String} (hT : T ∈ ["bool", "int", "str", "list", "tuple", "dict"]) (d : PyData) : PySem.W.kitOne K (.type (kindD d)) (.type T) = some (isiD d T) := kit_ty (kit_all _ (kindD_mem d) T hT)
end
section
variable {X : Cx} {e : Expr} {a b : Expr} {t u : AT} {pos p : Pos} {x : Str} {id T : String}
/-- f(e), f(a, b) of built-in functions and types -/
theorem ae_b1 {r : List V → Hp → VK → Prop} {op : PyData → (Rv → Prop) → Prop} (ok : Ok1c X.K r op) (hc : CallR X (.builtin id) r) (hg : Gl X x) (hm : X.mg x = none) (hv : bootBuiltins x = some (.builtin id)) (ha : AE X e t) (hn : x ≠ "__name__" := by decide) (hdb : (x == ("__debug__" : Str)) = false := by decide)
    (he : starEach [e] X.env = (false, eval e X.env) :: starEach [] X.env := by rfl) : AE X (.Call (.Name x p) [e] [] pos) (x1 t op) := PEimp (pe_callB hc hg hm hv (pa_cons ha pa_nil he) hn hdb he) fun _ _ _ h => lift1 ok h
theorem ae_t1 {r : List V → Hp → VK → Prop} {op : PyData → (Rv → Prop) → Prop} (ok : Ok1c X.K r op) (hc : CallR X (.type T) r) (hg : Gl X x) (hm : X.mg x = none) (hv : bootBuiltins x = some (.type T)) (ha : AE X e t) (hn : x ≠ "__name__" := by decide) (hdb : (x == ("__debug__" : Str)) = false := by decide)
    (he : starEach [e] X.env = (false, eval e X.env) :: starEach [] X.env := by rfl) : AE X (.Call (.Name x p) [e] [] pos) (x1 t op) := PEimp (pe_callTy hc hg hm hv (pa_cons ha pa_nil he) hn hdb he) fun _ _ _ h => lift1 ok h
theorem ae_b2 {r : List V → Hp → VK → Prop} {op : PyData → PyData → (Rv → Prop) → Prop} (ok : Ok2c X.K r op) (hc : CallR X (.builtin id) r) (hg : Gl X x) (hm : X.mg x = none) (hv : bootBuiltins x = some (.builtin id)) (ha : AE X a t) (hb : AE X b u) (hn : x ≠ "__name__" := by decide) (hdb : (x == ("__debug__" : Str)) = false := by decide)
    (he : starEach [a, b] X.env = (false, eval a X.env) :: starEach [b] X.env := by rfl) (he2 : starEach [b] X.env = (false, eval b X.env) :: starEach [] X.env := by rfl) (hpl : (backTo pos (starEach [b] X.env)).any (·.1) = false := by rfl) : AE X (.Call (.Name x p) [a, b] [] pos) (x2 t u op) := PEimp (pe_callB hc hg hm hv (pa_cons ha (pa_cons hb pa_nil he2) he) hn hdb he hpl) fun _ _ _ h => lift2 ok h
theorem ae_len (hg : Gl X "len") (hm : X.mg "len" = none) (ha : AE X e t) (he : starEach [e] X.env = (false, eval e X.env) :: starEach [] X.env := by rfl) : AE X (.Call (.Name "len" p) [e] [] pos) (x1 t oLen) := ae_b1 ok_len call_len_seq hg hm PySem.boot_len ha (he := he)
theorem ae_abs (hg : Gl X "abs") (hm : X.mg "abs" = none) (ha : AE X e t) (he : starEach [e] X.env = (false, eval e X.env) :: starEach [] X.env := by rfl) : AE X (.Call (.Name "abs" p) [e] [] pos) (x1 t oAbs) := ae_b1 ok_abs call_abs hg hm boot_abs ha (he := he)
theorem ae_callint (hg : Gl X "int") (hm : X.mg "int" = none) (ha : AE X e t) (he : starEach [e] X.env = (false, eval e X.env) :: starEach [] X.env := by rfl) : AE X (.Call (.Name "int" p) [e] [] pos) (x1 t oInt) := ae_t1 ok_int call_int1 hg hm (by decide +kernel) ha (he := he)
theorem ae_max (hc : X.calm = true) (hg : Gl X "max") (hm : X.mg "max" = none) (ha : AE X a t) (hb : AE X b u) (he : starEach [a, b] X.env = (false, eval a X.env) :: starEach [b] X.env := by rfl) (he2 : starEach [b] X.env = (false, eval b X.env) :: starEach [] X.env := by rfl) (hpl : (backTo pos (starEach [b] X.env)).any (·.1) = false := by rfl) : AE X (.Call (.Name "max" p) [a, b] [] pos) (x2 t u oMax) := ae_b2 ok_max (call_max2 hc) hg hm (by decide +kernel) ha hb (he := he) (he2 := he2) (hpl := hpl)
theorem ae_min (hc : X.calm = true) (hg : Gl X "min") (hm : X.mg "min" = none) (ha : AE X a t) (hb : AE X b u) (he : starEach [a, b] X.env = (false, eval a X.env) :: starEach [b] X.env := by rfl) (he2 : starEach [b] X.env = (false, eval b X.env) :: starEach [] X.env := by rfl) (hpl : (backTo pos (starEach [b] X.env)).any (·.1) = false := by rfl) : AE X (.Call (.Name "min" p) [a, b] [] pos) (x2 t u oMin) := ae_b2 ok_min (call_min2 hc) hg hm (by decide +kernel) ha hb (he := he) (he2 := he2) (hpl := hpl)
theorem ae_all (hc : X.calm = true) (hg : Gl X "all") (hm : X.mg "all" = none) (ha : AE X e t) (he : starEach [e] X.env = (false, eval e X.env) :: starEach [] X.env := by rfl) : AE X (.Call (.Name "all" p) [e] [] pos) (x1 t oAll) := ae_b1 ok_all (cr_all hc) hg hm boot_all ha (he := he)
theorem ae_sum (hc : X.calm = true) (hg : Gl X "sum") (hm : X.mg "sum" = none) (ha : AE X e t) (he : starEach [e] X.env = (false, eval e X.env) :: starEach [] X.env := by rfl) : AE X (.Call (.Name "sum" p) [e] [] pos) (x1 t oSum) := ae_b1 ok_sum (cr_sum hc) hg hm (by decide +kernel) ha (he := he)
/-- isinstance(e, T), T a built-in type by its name -/
theorem ae_isi {y : Str} {q : Pos} (hT : T ∈ ["bool", "int", "str", "list", "tuple", "dict"]) (hg : Gl X "isinstance") (hm : X.mg "isinstance" = none) (gy : Gl X y) (my : X.mg y = none) (by0 : bootBuiltins y = some (.type T)) (ha : AE X e t) (ny : y ≠ "__name__" := by decide) (dy : (y == ("__debug__" : Str)) = false := by decide)
    (he : starEach [e, .Name y q] X.env = (false, eval e X.env) :: starEach [.Name y q] X.env := by rfl) (he2 : starEach [.Name y q] X.env = (false, eval (.Name y q) X.env) :: starEach [] X.env := by rfl) (hpl : (backTo pos (starEach [.Name y q] X.env)).any (·.1) = false := by rfl) :
    AE X (.Call (.Name "isinstance" p) [e, .Name y q] [] pos) (x1 t (oIsi T)) := by
  have hty : PE X (.Name y q) (tC (.ty T)) := pe_bltn gy my by0 rfl ny dy
  refine PEimp (pe_callB call_isi hg hm boot_isinstance (pa_cons ha (pa_cons hty pa_nil he2) he) (by decide) (by decide) he hpl) ?_
  intro σ H φ h
  refine lift1 (r := fun x H Q => rIsi X.K [x, .ty T] H Q) ?_ h
  intro B H x dx P φ sub hx q k
  exact ⟨x, .ty T, .type (kindD dx), .type T, isiD dx T, rfl, .ty T, ty_of hx sub q.1, kit_is hT dx, k _ _ _ _ q.2 (New.same sub (.bl _))⟩
end
end DL

namespace DL
open PySem PySem.Spec PyProof.Rows L2
variable [Tb]
/-! ### slices -/
section
variable {prog : Program} {w : World} {A : Around} {E : Value → Shared → Prop} {s : Shared}
/-- what a tuple makes of a slice, up to what the slice picks -/
theorem tupSlice {t sl : Addr} {items : Array Value} {lo step : Int} {n : Nat} {R : Value → Shared → Prop} (ht : IsTup s.heap t items) (hT : s.TypeIs (.ref sl) "slice")
    (applied : ∀ (A : Around) (E : Value → Shared → Prop) (Q : Int × Int × Nat → Shared → Prop), Q (lo, step, n) s → wpAny (model prog w) A (Builtin.Slice.sliceApplied (.ref sl) (pure (items.size : Int))) Q E s)
    (whole : (lo == 0 && step == 1 && n == items.size) = true → R (.ref t) s)
    (cut : (lo == 0 && step == 1 && n == items.size) = false → ((List.range n).filterMap fun (k : Nat) => items[(lo + (k : Int) * step).toNat]?).length ≤ sizeLine ∧
      R (.ref s.heap.objs.size) { s with heap := s.heap.push { cls := .type "tuple", data := .seq ((List.range n).filterMap fun (k : Nat) => items[(lo + (k : Int) * step).toNat]?).toArray } }) :
    wpAny (model prog w) A (getItem (.ref t) (.ref sl)) R E s := by
  unfold getItem
  try with_reducible refine wpAny_holding ?_
  first | refine wpAny_bind (wpAny_pure ?_) | skip
  refine wpAny_bind (wpAny_sequenceKey ht.typeIs (by decide) ?_)
  apply wpAny_bind
  apply wpAny_callSpecial?_slot (name := Str.ofString "__getitem__") ht.typeIs slot_tuple_getitem
  apply wpAny_call_entry slot_tuple_getitem ht.typeIs entry_tuple_getitem ?_ (args_tuple_getitem _ _)
  show wpAny _ _ (Builtin.Tuple.tupleItemsOf (.ref t) >>= _) _ _ s
  apply wpAny_bind
  apply tupleItemsOf_ ht
  apply wpAny_bind
  apply wpAny_typeOf hT
  rw [if_pos (by decide)]
  apply wpAny_bind
  apply applied
  show wpAny _ _ (if (lo == 0 && step == 1 && n == items.size) = true then _ else _) _ _ s
  rcases c : (lo == 0 && step == 1 && n == items.size) with _ | _
  · rw [if_neg Bool.false_ne_true]
    obtain ⟨fit, q⟩ := cut c
    have fit2 : sizeOk (.seq ((List.range n).filterMap fun (k : Nat) => items[(lo + (k : Int) * step).toNat]?).toArray) := by
      show Array.size _ ≤ sizeLine
      rw [List.size_toArray]
      exact fit
    first
      | exact wpAny_bind (m := Builtin.Tuple.tupleExact _) (wpAny_newObj_type (wpAny_pure ⟨_, rfl, wpAny_pure q⟩) fit2)
      | exact wpAny_bind (m := Builtin.Tuple.tupleExact _) (wpAny_newObj_type (wpAny_bind (wpAny_pure (wpAny_pure ⟨_, rfl, wpAny_pure q⟩))) fit2)
      | exact wpAny_bind (wpAny_bind (m := Builtin.Tuple.tupleExact _) (wpAny_newObj_type (wpAny_pure (wpAny_pure ⟨_, rfl, wpAny_pure q⟩)) fit2))
      | exact wpAny_bind (wpAny_bind (m := Builtin.Tuple.tupleExact _) (wpAny_newObj_type (wpAny_pure ⟨_, rfl, wpAny_pure q⟩) fit2))
  · rw [if_pos rfl]
    have q := whole c
    unfold Builtin.Tuple.tupleIsExact
    refine wpAny_bind (wpAny_bind (wpAny_typeOf ht.typeIs (wpAny_pure ?_)))
    rw [if_pos (by decide)]
    refine wpAny_bind (wpAny_rule ?_)
    first
      | exact wpAny_pure ⟨_, rfl, wpAny_pure q⟩
      | exact wpAny_bind (wpAny_pure (wpAny_pure ⟨_, rfl, wpAny_pure q⟩))
end
section
variable {X : Cx}
/-- t[lo:hi] of a tuple, the whole of it too -/
def rSlTA (K : PySem.W.Frag) : V → Option Int → Option Int → Hp → VK → Prop := fun x lo hi H Q => ∃ a xs, x = .ref a ∧ SqT K H a xs ∧ ((HT.sIx xs.length 0 lo = 0 ∧ HT.sIx xs.length xs.length hi = xs.length) → Q (.ref a) H) ∧ ∀ p, H p = none → Q (.ref p) (upd H p (.tup (cutV xs lo hi)))
theorem sl_tupA : SlR X (rSlTA X.K) := by
  intro pins s σ H x v vl vu lo hi sl Q I rx hs pl pu h
  obtain ⟨a, xs, rfl, hx, q1, q2⟩ := h
  cases rx
  obtain ⟨its, r, ht, hz⟩ := I.tuple hx
  have hlen : its.toArray.size = xs.length := by rw [List.size_toArray]; exact r.length.symm
  have back : its.toArray.toList = its := List.toList_toArray
  refine ⟨"tuple", _, slot_tuple_getitem.lookup, ht.typeIs, ?_⟩
  obtain ⟨os, hos, hcs, hds⟩ := id hs
  refine tupSlice ht ⟨os, hos, hcs⟩ (fun A E Q q => HT.sliceApplied_gen hs pl pu q) (fun z => ?_) (fun z => ?_)
  · rw [Bool.and_eq_true, Bool.and_eq_true] at z
    have z1 : ((HT.sIx its.toArray.size 0 lo : Nat) : Int) = 0 := eq_of_beq z.1.1
    have z2 := eq_of_beq z.2
    have le : HT.sIx its.toArray.size its.toArray.size hi ≤ its.toArray.size := HT.sIx_le _ _ (Nat.le_refl _) hi
    rw [hlen] at z1 z2 le
    exact ⟨.ref a, H, I, rfl, q1 ⟨by omega, by omega⟩⟩
  · have e := HT.pick_gen its.toArray (HT.sIx its.toArray.size 0 lo) (HT.sIx its.toArray.size its.toArray.size hi - HT.sIx its.toArray.size 0 lo)
    have e2 := congrArg Array.toList e
    rw [List.toList_toArray, List.toList_toArray, back, hlen] at e2
    rw [hlen, e2]
    refine ⟨?_, .ref _, _, I.laid (t' := s.toks) (o := .tup (cutV xs lo hi)) (fun b ob q => Heap.get?_push_of_some _ q) (Nat.le_refl _) ?_, rfl, q2 _ (I.hok.fresh (Nat.le_refl _))⟩
    · rw [List.length_take, List.length_drop, ← r.length]
      omega
    · exact ⟨Nat.le_trans (cutV_length xs lo hi) hz, _, (r.drop (HT.sIx xs.length 0 lo)).take (HT.sIx xs.length xs.length hi - HT.sIx xs.length 0 lo), IsTup.new _ _⟩
end
/-! slices of data -/
def cutD (xs : List PyData) (lo hi : Option Int) : List PyData := (xs.drop (HT.sIx xs.length 0 lo)).take (HT.sIx xs.length xs.length hi - HT.sIx xs.length 0 lo)
theorem DaL.cut {K : PySem.W.Frag} {B : Hp} {vs : List V} {xs : List PyData} {lo hi : Option Int} (l : DaL K B vs xs) : DaL K B (cutV vs lo hi) (cutD xs lo hi) := by
  unfold cutV cutD
  rw [l.length]
  exact (l.drop _).take _
theorem cutD_all {xs : List PyData} {lo hi : Option Int} (h : HT.sIx xs.length 0 lo = 0 ∧ HT.sIx xs.length xs.length hi = xs.length) : cutD xs lo hi = xs := by
  unfold cutD
  rw [h.1, h.2, List.drop_zero, Nat.sub_zero, List.take_length]
def oSl : PyData → Option Int → Option Int → (Rv → Prop) → Prop
  | .dict [(.none, .list xs)], lo, hi, k => k (.f (cutD xs lo hi))
  | .list xs, lo, hi, k => k (.f (cutD xs lo hi))
  | .tuple xs, lo, hi, k => k (.d (.tuple (cutD xs lo hi)))
  | _, _, _, _ => False
def oRev : PyData → (Rv → Prop) → Prop
  | .list xs, k => k (.f xs.reverse)
  | .tuple xs, k => k (.d (.tuple xs.reverse))
  | _, _ => False
abbrev OT := AS → (Option Int → AS → Prop) → Prop
def pNo : OT := fun s Q => Q none s
def pSo (t : AT) : OT := fun s Q => t s fun r s1 => match rd s1 r with
  | .int i => Q (some i) s1
  | _ => False
def xSl (t : AT) (lo hi : OT) : AT := fun s Q => t s fun r s1 => lo s1 fun l s2 => hi s2 fun u s3 => oSl (rd s3 r) l u fun z => Q z s3
def LiftO (K : PySem.W.Frag) (t : OT) : TO := fun σ H φ => ∃ (B : Hp) (s : AS) (Q : Option Int → AS → Prop), Rel K B H σ s ∧ t s Q ∧ ∀ o s' B' H', Q o s' → GoE K B H σ s B' H' s' → φ o H'
def AO (X : Cx) (e : Option Expr) (t : OT) : Prop := PO X e (LiftO X.K t)
section
variable {X : Cx} {e : Expr} {eo el eh : Option Expr} {t : AT} {lo hi : OT} {pos p2 : Pos}
theorem POimp {te te' : TO} (h : PO X eo te) (k : ∀ σ H Q, te' σ H Q → te σ H Q) : PO X eo te' := ⟨fun pins s σ H Q I w => h.run pins s σ H Q I (k σ H Q w)⟩
theorem ao_no : AO X none pNo := by
  refine POimp po_none ?_
  rintro σ H φ ⟨B, s, Q, R, h, k⟩
  exact k _ _ _ _ h (GoE.refl R)
theorem ao_so (h : AE X e t) : AO X (some e) (pSo t) := by
  refine POimp (po_some h) ?_
  rintro σ H φ ⟨B, s, Q, R, h, k⟩
  refine ⟨B, s, _, R, h, ?_⟩
  intro r v s1 B1 H1 q g is
  have q : (match rd s1 r with | .int i => Q (some i) s1 | _ => False) := q
  split at q
  · next i e =>
    cases is.val g.rel e (fun _ => nofun)
    exact ⟨i, rfl, k _ _ _ _ q g⟩
  · exact q.elim
theorem ae_sl (he : AE X e t) (hl : AO X el lo) (hh : AO X eh hi) : AE X (.Subscript e (.Slice el eh none p2) pos) (xSl t lo hi) := by
  refine PEimp (pe_slice (SlR.or sl_list sl_tupA) he hl hh) ?_
  rintro σ H φ ⟨B, s, Q, R, h, k⟩
  refine ⟨B, s, _, R, h, ?_⟩
  intro r v s1 B1 H1 q g is
  refine ⟨B1, s1, _, g.rel, q, ?_⟩
  intro l s2 B2 H2 q2 g2
  refine ⟨B2, s2, _, g2.rel, q2, ?_⟩
  intro u s3 B3 H3 q3 g3
  have is2 := (is.keep R g g2).keep R (g.trans g2) g3
  have g4 := (g.trans g2).trans g3
  have rr := is2.rdd g4.rel
  rcases e : rd s3 r with _ | _ | _ | _ | xs | xs | ds
  case list =>
    rw [e] at q3 rr
    obtain ⟨a, vs, rfl, ha, la⟩ := rr.list g4.rel.sub
    left
    refine ⟨a, vs, rfl, SqL.of ha, fun p hp => ?_⟩
    have nw := New.list (K := X.K) g4.rel.sub hp (la.cut (lo := l) (hi := u))
    exact k _ _ _ _ _ q3 (g4.trans (nw.1.go g4.rel)) (Is.back g4.live nw.is)
  case tuple =>
    rw [e] at q3 rr
    have da := rr.flat (fun _ => nofun)
    obtain ⟨a, vs, rfl, ha, la⟩ := rr.tuple g4.rel.sub
    right
    refine ⟨a, vs, rfl, ha, fun w => ?_, fun p hp => ?_⟩
    · rw [la.length] at w
      have q3 : Q (.d (.tuple (cutD xs l u))) s3 := q3
      rw [cutD_all w] at q3
      exact k _ _ _ _ _ q3 g4 da
    · have nw := New.tup (K := X.K) g4.rel.sub hp (la.cut (lo := l) (hi := u))
      exact k _ _ _ _ _ q3 (g4.trans (nw.1.go g4.rel)) (Is.back (K := X.K) (r := .d (.tuple (cutD xs l u))) g4.live nw.2)
  case dict ds =>
    rw [e] at q3 rr
    match ds, q3, rr with
    | [(.none, .list xs)], q3, rr =>
      obtain ⟨a, vs, rfl, ha, la⟩ := rr.scr g4.rel.sub
      left
      refine ⟨a, vs, rfl, ha, fun p hp => ?_⟩
      have nw := New.list (K := X.K) g4.rel.sub hp (la.cut (lo := l) (hi := u))
      exact k _ _ _ _ _ q3 (g4.trans (nw.1.go g4.rel)) (Is.back g4.live nw.is)
  all_goals
    rw [e] at q3
    exact q3.elim
end
end DL

namespace DL
open PySem PySem.Spec PyProof.Rows L2
variable [Tb]
/-! ### statements on data -/
structure AEnds where
  nx : AS → Prop
  rt : Rv → AS → Prop
  bk : AS → Prop := fun _ => False
  ct : AS → Prop := fun _ => False
abbrev ATS := AEnds → AS → Prop
/-- a value that is handed on from a statement that began with H -/
def IsR (K : PySem.W.Frag) (H B' H' : Hp) (σ' : L2.St) (s' : AS) : Rv → V → Prop
  | .d x, v => Da K B' v x
  | .c _, _ => False
  | .f xs, v => ∃ a vs, v = .ref a ∧ H a = none ∧ H' a = some (.lst vs) ∧ B' a = none ∧ DaL K B' vs xs ∧ ¬ Cel σ' s' a
/-- as an end hands it on: a list may be one that stood in a slot at the start -/
def IsE (K : PySem.W.Frag) (H : Hp) (σ : L2.St) (s : AS) (B' H' : Hp) (σ' : L2.St) (s' : AS) : Rv → V → Prop
  | .d x, v => Da K B' v x
  | .c _, _ => False
  | .f xs, v => ∃ a vs, v = .ref a ∧ (H a = none ∨ Cel σ s a) ∧ H' a = some (.lst vs) ∧ B' a = none ∧ DaL K B' vs xs ∧ ¬ Cel σ' s' a
structure EndsOk (K : PySem.W.Frag) (B H : Hp) (σ : L2.St) (s : AS) (A : AEnds) (D : Ends) : Prop where
  nx : ∀ s' σ' B' H', A.nx s' → Go K B H σ s B' H' σ' s' → D.nx σ' H'
  rt : ∀ r v s' σ' B' H', A.rt r s' → Go K B H σ s B' H' σ' s' → IsE K H σ s B' H' σ' s' r v → D.rt v H'
  bk : ∀ s' σ' B' H', A.bk s' → Go K B H σ s B' H' σ' s' → D.bk σ' H'
  ct : ∀ s' σ' B' H', A.ct s' → Go K B H σ s B' H' σ' s' → D.ct σ' H'
def LiftS (K : PySem.W.Frag) (t : ATS) : TS := fun D σ H => ∃ (B : Hp) (s : AS) (A : AEnds), Rel K B H σ s ∧ t A s ∧ EndsOk K B H σ s A D
def ASt (X : Cx) (st : Stmt) (t : ATS) : Prop := PS X st (LiftS X.K t)
def ASs (X : Cx) (st : List Stmt) (t : ATS) : Prop := PSs X st (LiftS X.K t)
section
variable {K : PySem.W.Frag} {B H B1 H1 : Hp} {σ σ1 : L2.St} {s s1 : AS} {A : AEnds} {D : Ends} {r : Rv} {v : V}
theorem IsR.back {H0 : Hp} (l : ∀ a, H a = none → H0 a = none) (h : IsR K H B1 H1 σ1 s1 r v) : IsR K H0 B1 H1 σ1 s1 r v := by
  match r, h with
  | .d x, h => exact h
  | .f xs, ⟨a, vs, e, n, h⟩ => exact ⟨a, vs, e, l a n, h⟩
theorem Is.toR (R : Rel K B H σ s) (g : GoE K B H σ s B1 H1 s1) (h : Is K H B1 H1 σ s1 r v) (nc : ∀ i, r ≠ .c i) : IsR K H B1 H1 σ s1 r v := by
  match r, h with
  | .d x, h => exact h
  | .c i, _ => exact absurd rfl (nc i)
  | .f xs, ⟨a, vs, e, n, h1, h2, h3⟩ => exact ⟨a, vs, e, n, h1, h2, h3, g.nocell R n⟩
theorem IsR.toE {H' B' : Hp} {σ' : L2.St} {s' : AS} (h : IsR K H B' H' σ' s' r v) : IsE K H σ s B' H' σ' s' r v := by
  match r, h with
  | .d x, h => exact h
  | .f xs, ⟨a, vs, e, n, h⟩ => exact ⟨a, vs, e, Or.inl n, h⟩
theorem IsE.shift {H' B' : Hp} {σ' : L2.St} {s' : AS} (g : Go K B H σ s B1 H1 σ1 s1) (h : IsE K H1 σ1 s1 B' H' σ' s' r v) : IsE K H σ s B' H' σ' s' r v := by
  match r, h with
  | .d x, h => exact h
  | .f xs, ⟨a, vs, e, n, h⟩ => exact ⟨a, vs, e, n.elim (fun z => Or.inl (g.live a z)) (fun z => g.cells a z), h⟩
theorem EndsOk.shift (g : Go K B H σ s B1 H1 σ1 s1) (e : EndsOk K B H σ s A D) : EndsOk K B1 H1 σ1 s1 A D :=
  ⟨fun s' σ' B' H' a k => e.nx _ _ _ _ a (g.trans k), fun r v s' σ' B' H' a k is => e.rt _ _ _ _ _ _ a (g.trans k) (is.shift g), fun s' σ' B' H' a k => e.bk _ _ _ _ a (g.trans k), fun s' σ' B' H' a k => e.ct _ _ _ _ a (g.trans k)⟩
/-- a slot's content for a value -/
def sl : Rv → Sl
  | .d x => .d x
  | .f xs => .m false xs
  | .c _ => .no
theorem get_set {α : Type} {l : List α} {i j : Nat} {x y : α} (h : (l.set i x)[j]? = some y) : (j = i ∧ y = x ∧ i < l.length) ∨ (j ≠ i ∧ l[j]? = some y) := by
  by_cases e : j = i
  · subst e
    have lt : j < l.length := by
      have := (List.getElem?_eq_some_iff.mp h).1
      rwa [List.length_set] at this
    rw [List.getElem?_set_self lt] at h
    left
    exact ⟨rfl, (Option.some.inj h).symm, lt⟩
  · rw [List.getElem?_set_ne (Ne.symm e)] at h
    right
    exact ⟨e, h⟩
/-- a name is stored -/
theorem Go.asg {i : Nat} (g : Go K B H σ s B1 H1 σ1 s1) (hi : i < s1.length) (h : IsR K H B1 H1 σ1 s1 r v) : Go K B H σ s B1 H1 (σ1.set i (some v)) (s1.set i (sl r)) := by
  have R := g.rel
  have hiσ : i < σ1.length := by rw [R.len]; exact hi
  have off : ∀ j, j ≠ i → (σ1.set i (some v))[j]? = σ1[j]? := fun j n => List.getElem?_set_ne (Ne.symm n)
  have at_i : (σ1.set i (some v))[i]? = some (some v) := List.getElem?_set_self hiσ
  refine ⟨⟨by rw [List.length_set, List.length_set]; exact R.len, R.sub, fun j x e => ?_, fun j p xs e => ?_, fun j k p q xs ys a e1 e2 w1 w2 => ?_⟩, g.same, g.live, g.grow, g.frame, fun a c => ?_, fun j ys e => ?_⟩
  · rcases get_set e with ⟨rfl, z, _⟩ | ⟨n, z⟩
    · match r, h, z with
      | .d y, h, z =>
        cases z
        exact ⟨v, at_i, h⟩
    · obtain ⟨w, w1, w2⟩ := R.dat j x z
      exact ⟨w, (off j n).trans w1, w2⟩
  · rcases get_set e with ⟨rfl, z, _⟩ | ⟨n, z⟩
    · match r, h, z with
      | .f ys, ⟨a, vs, e1, e2, e3, e4, e5, e6⟩, z =>
        cases z
        subst e1
        exact ⟨a, vs, at_i, e3, e4, e5⟩
    · obtain ⟨a, vs, w1, w2⟩ := R.own j p xs z
      exact ⟨a, vs, (off j n).trans w1, w2⟩
  · rcases get_set e1 with ⟨rfl, z, _⟩ | ⟨n, z⟩
    · rcases get_set e2 with ⟨rfl, _, _⟩ | ⟨n2, z2⟩
      · rfl
      · match r, h, z with
        | .f ys, ⟨b, vs, f1, f2, f3, f4, f5, f6⟩, z =>
          subst f1
          rw [at_i] at w1
          cases w1
          rw [off k n2] at w2
          exact absurd ⟨k, q, _, z2, w2⟩ f6
    · rcases get_set e2 with ⟨rfl, z2, _⟩ | ⟨n2, z2⟩
      · match r, h, z2 with
        | .f ys, ⟨b, vs, f1, f2, f3, f4, f5, f6⟩, z2 =>
          subst f1
          rw [at_i] at w2
          cases w2
          rw [off j n] at w1
          exact absurd ⟨j, p, _, z, w1⟩ f6
      · rw [off j n] at w1
        rw [off k n2] at w2
        exact R.sep j k p q xs ys a z z2 w1 w2
  · obtain ⟨j, p, xs, e, w⟩ := c
    rcases get_set e with ⟨rfl, z, _⟩ | ⟨n, z⟩
    · match r, h, z with
      | .f ys, ⟨b, vs, f1, f2, f3, f4, f5, f6⟩, z =>
        subst f1
        rw [at_i] at w
        cases w
        left
        exact f2
    · rw [off j n] at w
      exact g.cells a ⟨j, p, xs, z, w⟩
  · rcases get_set e with ⟨rfl, z, _⟩ | ⟨n, z⟩
    · match r, h, z with
      | .f ys, _, z => cases z
    · obtain ⟨w1, w2⟩ := g.pin j ys z
      exact ⟨(off j n).trans w1, w2⟩
/-- a list of one's own is changed -/
theorem Go.put {i : Nat} {p : Bool} {xs ys : List PyData} {a : Addr} {vs : List V} (g : Go K B H σ s B1 H1 σ1 s1) (e : s1[i]? = some (Sl.m p xs)) (ea : σ1[i]? = some (some (V.ref a))) (l : DaL K B1 vs ys) : Go K B H σ s B1 (upd H1 a (.lst vs)) σ1 (s1.set i (.m p ys)) := by
  have R := g.rel
  have hi : i < s1.length := (List.getElem?_eq_some_iff.mp e).1
  obtain ⟨a', us, e1, e2, e3, e4⟩ := R.own i p xs e
  rw [ea] at e1
  cases e1
  have cel : Cel σ1 s1 a := ⟨i, p, xs, e, ea⟩
  have same : ∀ (j : Nat) (q : Bool) (zs : List PyData), (s1.set i (Sl.m p ys))[j]? = some (Sl.m q zs) → ∃ ws : List PyData, s1[j]? = some (Sl.m q ws) := by
    intro j q zs h
    rcases get_set h with ⟨rfl, z, _⟩ | ⟨n, z⟩
    · cases z
      exact ⟨xs, e⟩
    · exact ⟨zs, z⟩
  refine ⟨⟨by rw [List.length_set]; exact R.len, R.sub.put e2 e3, fun j x h => ?_, fun j q zs h => ?_, fun j k q t zs ws b h1 h2 w1 w2 => ?_⟩, g.same, fun b n => ?_, g.grow, fun b o h nt => ?_, fun b c => ?_, fun j zs h => ?_⟩
  · rcases get_set h with ⟨rfl, z, _⟩ | ⟨n, z⟩
    · cases z
    · exact R.dat j x z
  · rcases get_set h with ⟨rfl, z, _⟩ | ⟨n, z⟩
    · cases z
      exact ⟨a, vs, ea, upd_same, e3, l⟩
    · obtain ⟨b, ws, w1, w2, w3⟩ := R.own j q zs z
      refine ⟨b, ws, w1, ?_, w3⟩
      have nb : b ≠ a := by
        rintro rfl
        exact n (R.sep j i q p zs xs b z e w1 ea)
      rw [upd_ne nb]
      exact w2
  · obtain ⟨_, z1⟩ := same j q zs h1
    obtain ⟨_, z2⟩ := same k t ws h2
    exact R.sep j k q t _ _ b z1 z2 w1 w2
  · by_cases nb : b = a
    · subst nb
      rw [upd_same] at n
      cases n
    · rw [upd_ne nb] at n
      exact g.live b n
  · by_cases nb : b = a
    · subst nb
      rcases g.cells b cel with z | z
      · rw [h] at z; cases z
      · left; exact z
    · rw [upd_ne nb]
      exact g.frame b o h nt
  · obtain ⟨j, q, zs, h, w⟩ := c
    obtain ⟨_, z⟩ := same j q zs h
    exact g.cells b ⟨j, q, _, z, w⟩
  · obtain ⟨ws, z⟩ := same j true zs h
    exact g.pin j ws z
end
/-! the readings -/
def aNext : ATS := fun D s => D.nx s
def aSeq (t u : ATS) : ATS := fun D s => t { D with nx := u D } s
def aNever : ATS := fun _ _ => False
def aBreak : ATS := fun D s => D.bk s
def aCont : ATS := fun D s => D.ct s
def aRet (t : AT) : ATS := fun D s => xR t s D.rt
def aRetN : ATS := fun D s => D.rt (.d .none) s
def aIf (c : BT) (t u : ATS) : ATS := fun D s => c s fun b s1 => if b = true then t D s1 else u D s1
def aExpr (t : AT) : ATS := fun D s => t s fun _ s1 => D.nx s1
def aAsg (i : Nat) (t : AT) : ATS := fun D s => xR t s fun r s1 => i < s1.length ∧ D.nx (s1.set i (sl r))
def aPar (i j : Nat) (t u : AT) : ATS := fun D s => xR t s fun r s1 => xR u s1 fun q s2 => (i < s2.length ∧ j < s2.length ∧ i ≠ j) ∧ D.nx ((s2.set i (sl r)).set j (sl q))
def aPar3 (i j k : Nat) (t u v : AT) : ATS := fun D s => xR t s fun r s1 => xR u s1 fun q s2 => xR v s2 fun p s3 => (i < s3.length ∧ j < s3.length ∧ k < s3.length ∧ i ≠ j ∧ i ≠ k ∧ j ≠ k) ∧ D.nx (((s3.set i (sl r)).set j (sl q)).set k (sl p))
/-- targets -/
abbrev GT := PyData → AS → (AS → Prop) → Prop
def gN (i : Nat) : GT := fun x s Q => i < s.length ∧ Q (s.set i (.d x))
abbrev GTs := List PyData → AS → (AS → Prop) → Prop
def gE : GTs := fun xs s Q => xs = [] ∧ Q s
def gC (g : GT) (h : GTs) : GTs := fun xs s Q => match xs with
  | [] => False
  | x :: r => g x s fun s' => h r s' Q
def gT (n : Nat) (h : GTs) : GT := fun x s Q => match x with
  | .tuple xs => xs.length = n ∧ h xs s Q
  | _ => False
def aTup (g : GT) (t : AT) : ATS := fun D s => xD t s fun r s1 => g (rd s1 r) s1 D.nx
/-- the list of a name that may change -/
def ownOf (s : AS) : Rv → Option (Nat × Bool × List PyData)
  | .c j => match s[j]? with
    | some (.m p xs) => some (j, p, xs)
    | _ => none
  | _ => none
def intOf : PyData → Option Int
  | .int i => some i
  | _ => none
def aSet (t o i : AT) : ATS := fun D s => xD t s fun r s1 => o s1 fun ro s2 => i s2 fun ri s3 => ∃ j p xs k n, ownOf s3 ro = some (j, p, xs) ∧ intOf (rd s3 ri) = some k ∧ ixN xs.length k = some n ∧ D.nx (s3.set j (.m p (xs.set n (rd s3 r))))
def aApp (o t : AT) : ATS := fun D s => o s fun ro s1 => (ownOf s1 ro).isSome = true ∧ xD t s1 fun r s2 => ∃ j p xs, ownOf s2 ro = some (j, p, xs) ∧ xs.length ≤ 100000 ∧ D.nx (s2.set j (.m p (xs ++ [rd s2 r])))
def aIns (o i t : AT) : ATS := fun D s => o s fun ro s1 => (ownOf s1 ro).isSome = true ∧ i s1 fun ri s2 => ∃ k, intOf (rd s2 ri) = some k ∧ xD t s2 fun r s3 => ∃ j p xs, ownOf s3 ro = some (j, p, xs) ∧ (xs.length ≤ 100000 ∧ 0 ≤ k ∧ k ≤ 100000) ∧ D.nx (s3.set j (.m p (xs.take k.toNat ++ [rd s3 r] ++ xs.drop k.toNat)))
def aAug (i : Nat) (f : Int → Int → Int) (t : AT) : ATS := fun D s => match s[i]? with
  | some (.d (.int a)) => t s fun r s1 => match rd s1 r with
    | .int b => D.nx (s1.set i (.d (.int (f a b))))
    | _ => False
  | _ => False
section
variable {X : Cx} {e a b c o : Expr} {st : Stmt} {rest sts : List Stmt} {t u v w : AT} {tb : BT} {ts us : ATS} {pos pos' : Pos} {i j k : Nat} {x y z : Str} {K : PySem.W.Frag}
theorem ownOf_eq {s : AS} {ro : Rv} {j : Nat} {p : Bool} {xs : List PyData} (h : ownOf s ro = some (j, p, xs)) : ro = .c j ∧ s[j]? = some (Sl.m p xs) := by
  match ro, h with
  | .c i, h =>
    have h : (match s[i]? with | some (.m p xs) => some (i, p, xs) | _ => none) = some (j, p, xs) := h
    split at h
    · next q ys e =>
      cases h
      exact ⟨rfl, e⟩
    · cases h
theorem intOf_eq {d : PyData} {k : Int} (h : intOf d = some k) : d = .int k := by
  match d, h with
  | .int i, h => cases h; rfl
theorem own_at {B0 B H0 H : Hp} {σ : L2.St} {s : AS} {ro : Rv} {v : V} {j : Nat} {p : Bool} {xs : List PyData} (R : Rel K B H σ s) (is : Is K H0 B H σ s ro v) (h : ownOf s ro = some (j, p, xs)) : ∃ a vs, v = .ref a ∧ s[j]? = some (Sl.m p xs) ∧ σ[j]? = some (some (V.ref a)) ∧ H a = some (.lst vs) ∧ DaL K B vs xs := by
  obtain ⟨rfl, e⟩ := ownOf_eq h
  obtain ⟨a, vs, e1, e2, e3, e4⟩ := R.own j p xs e
  have eo := is.1
  rw [e1] at eo
  cases eo
  exact ⟨a, vs, rfl, e, e1, e2, e4⟩
theorem PSimp {t t' : TS} (h : PS X st t) (k : ∀ D σ H, t' D σ H → t D σ H) : PS X st t' := ⟨fun pins s σ H D I w => h.run pins s σ H D I (k D σ H w)⟩
theorem PSsimp {t t' : TS} (h : PSs X sts t) (k : ∀ D σ H, t' D σ H → t D σ H) : PSs X sts t' := ⟨fun pins s σ H D I w => h.run pins s σ H D I (k D σ H w)⟩
theorem as_nil : ASs X [] aNext := PSsimp pss_nil fun D σ H ⟨B, s, A, R, h, e⟩ => e.nx _ _ _ _ h (Go.refl R)
theorem as_cons (h1 : ASt X st ts) (h2 : ASs X rest us) : ASs X (st :: rest) (aSeq ts us) := by
  refine PSsimp (pss_cons h1 h2) ?_
  rintro D σ H ⟨B, s, A, R, h, e⟩
  refine ⟨B, s, { A with nx := us A }, R, h, ?_, e.rt, e.bk, e.ct⟩
  intro s' σ' B' H' q g
  exact ⟨B', s', A, g.rel, q, e.shift g⟩
theorem as_one (h : ASt X st ts) : ASs X [st] ts := pss_one h
theorem liftR {B H : Hp} {σ : L2.St} {s : AS} {Q : Rv → AS → Prop} {φ : VK} (R : Rel X.K B H σ s) (h : xR t s Q) (k : ∀ r v s' B' H', Q r s' → GoE X.K B H σ s B' H' s' → IsR X.K H B' H' σ s' r v → φ v H') : Lift X.K t σ H φ := by
  refine ⟨B, s, _, R, h, ?_⟩
  intro r v s1 B1 H1 q g is
  match r, q, is with
  | .f xs, q, is => exact k _ _ _ _ _ q g (is.toR R g (fun _ => nofun))
  | .d x, q, is => exact k _ _ _ _ _ q g is
  | .c i, q, is =>
    obtain ⟨B2, g2, d2⟩ := is.freeze R g
    exact k (.d _) _ _ _ _ q g2 d2
theorem liftDat {B H : Hp} {σ : L2.St} {s : AS} {Q : Rv → AS → Prop} {φ : VK} (R : Rel X.K B H σ s) (h : xD t s Q) (k : ∀ d v s' B' H', Q (.d d) s' → GoE X.K B H σ s B' H' s' → Da X.K B' v d → φ v H') : Lift X.K t σ H φ := by
  refine ⟨B, s, _, R, h, ?_⟩
  intro r v s1 B1 H1 q g is
  obtain ⟨B2, g2, d2⟩ := is.freeze R g
  exact k _ _ _ _ _ q g2 d2
theorem as_ret (he : AE X e t) : ASt X (.Return (some e) pos) (aRet t) := by
  refine PSimp (ps_ret he) ?_
  rintro D σ H ⟨B, s, A, R, h, e⟩
  exact liftR R h fun r v s' B' H' q g is => e.rt _ _ _ _ _ _ q g.toGo is.toE
theorem as_if {bs cs : List Stmt} (hc : AB X c tb) (hb : ASs X bs ts) (hd : ASs X cs us) : ASt X (.If c bs cs pos) (aIf tb ts us) := by
  refine PSimp (ps_if hc hb hd) ?_
  rintro D σ H ⟨B, s, A, R, h, e⟩
  refine ⟨B, s, _, R, h, ?_⟩
  intro b s1 B1 H1 q g
  cases b with
  | true => exact iteT ⟨B1, s1, A, g.rel, q, e.shift g.toGo⟩
  | false => exact iteF ⟨B1, s1, A, g.rel, q, e.shift g.toGo⟩
/-- name = e, by any rule that stores a value at a slot -/
theorem asg_of (h : PS X st (tAsg (Lift X.K t) (gName i))) : ASt X st (aAsg i t) := by
  refine PSimp h ?_
  rintro D σ H ⟨B, s, A, R, h, e⟩
  exact liftR R h fun r v s' B' H' ⟨hi, q⟩ g is => e.nx _ _ _ _ q (g.toGo.asg hi is)
theorem as_set (hN : X.N.Nodup) (hi : X.N[i]? = some x) (hx : Loc X.env.scope x) (he : AE X e t) (hs : swapsWith e (some (.Name x pos')) pos.line X.env = pure false := by rfl) (hf : X.fn x = true ∨ X.env.scope.names.lookup x = some .local := by first | exact .inl rfl | exact .inr rfl | assumption) :
    ASt X (.Assign [.Name x pos'] e pos) (aAsg i t) := asg_of (ps_set hN hi hx he hs hf)
theorem pairGo {B H : Hp} {σ : L2.St} {s s1 s2 : AS} {B1 H1 B2 H2 : Hp} {r : Rv} {v1 : V} (R : Rel X.K B H σ s) (g : GoE X.K B H σ s B1 H1 s1) (is : IsR X.K H B1 H1 σ s1 r v1) (g2 : GoE X.K B1 H1 σ s1 B2 H2 s2) : IsR X.K H B2 H2 σ s2 r v1 := by
  match r, is with
  | .d x, is => exact is.up g2.same
  | .f xs, ⟨a, vs, e, n, h1, h2, h3, h4⟩ =>
    have z := Is.keep (K := X.K) (r := .f xs) R ⟨a, vs, e, n, h1, h2, h3⟩ g g2
    exact z.toR R (g.trans g2) (fun _ => nofun)
/-- a value beside a newer one that was stored -/
theorem IsR.beside {H B1 H1 H0 : Hp} {σ : L2.St} {s : AS} {r q : Rv} {v w : V} (R : Rel X.K B1 H1 σ s) (is : IsR X.K H B1 H1 σ s r v) (js : IsR X.K H0 B1 H1 σ s q w) (apart : ∀ a, v = .ref a → w = .ref a → (∀ xs, r ≠ .f xs) ∨ ∀ xs, q ≠ .f xs) : IsR X.K H B1 H1 (σ.set i (some w)) (s.set i (sl q)) r v := by
  match r, is with
  | .d x, is => exact is
  | .f xs, ⟨a, vs, e, n, h1, h2, h3, h4⟩ =>
    refine ⟨a, vs, e, n, h1, h2, h3, ?_⟩
    rintro ⟨j, p, ys, ej, wj⟩
    rcases get_set ej with ⟨rfl, z, lt⟩ | ⟨nj, z⟩
    · rw [List.getElem?_set_self (by rw [R.len]; exact lt)] at wj
      cases wj
      match q, z with
      | .f zs, z =>
        rcases apart a e rfl with c | c
        · exact c xs rfl
        · exact c zs rfl
    · rw [List.getElem?_set_ne (Ne.symm nj)] at wj
      exact h4 ⟨j, p, ys, z, wj⟩
theorem apartOf {H B1 H1 B2 H2 : Hp} {σ : L2.St} {s1 s2 : AS} {r r2 : Rv} {v v2 : V} (is : IsR X.K H B1 H1 σ s1 r v) (is2 : IsR X.K H1 B2 H2 σ s2 r2 v2) : ∀ c, v2 = .ref c → v = .ref c → (∀ xs, r2 ≠ .f xs) ∨ ∀ xs, r ≠ .f xs := by
  intro c e1 e2
  match r2, is2, r, is with
  | .d _, _, _, _ => left; exact fun _ => nofun
  | .f _, _, .d _, _ => right; exact fun _ => nofun
  | .f _, ⟨a1, _, w1, w2, _⟩, .f _, ⟨a2, _, w3, _, w4, _⟩ =>
    rw [e1] at w1
    rw [e2] at w3
    cases w1
    cases w3
    rw [w2] at w4
    cases w4
theorem as_par {kt k2 pt2 pt px py} (hc : X.calm = true) (hN : X.N.Nodup) (hi : X.N[i]? = some x) (hj : X.N[j]? = some y) (hij : i ≠ j) (hx : X.env.scope.names.lookup x = some .local) (hy : X.env.scope.names.lookup y = some .local) (ha : AE X a t) (hb : AE X b u)
    (hw : swappedStores [.Tuple [.Name x px, .Name y py] kt pt] (.Tuple [a, b] k2 pt2) X.env = pure (some [x, y])) (hs : swapsWithSole [.Tuple [.Name x px, .Name y py] kt pt] (.Tuple [a, b] k2 pt2) pos.line X.env = pure false := by rfl)
    (st1 : starEach [a, b] X.env = (false, eval a X.env) :: starEach [b] X.env := by rfl) (st2 : starEach [b] X.env = (false, eval b X.env) :: starEach [] X.env := by rfl) :
    ASt X (.Assign [.Tuple [.Name x px, .Name y py] kt pt] (.Tuple [a, b] k2 pt2) pos) (aPar i j t u) := by
  refine PSimp (ps_par hc hN hi hj hij hx hy (pa_cons ha (pa_cons hb pa_nil st2) st1) hw hs) ?_
  rintro D σ H ⟨B, s, A, R, h, e⟩
  refine liftR R h ?_
  intro r v s1 B1 H1 q g is
  refine liftR g.rel q ?_
  rintro r2 v2 s2 B2 H2 ⟨⟨f1, f2, f3⟩, q2⟩ g2 is2
  refine ⟨v, v2, rfl, ?_⟩
  have is' := pairGo R g is g2
  have js := is2.back g.live
  have g3 := (g.trans g2).toGo.asg f1 is'
  have js' := IsR.beside (i := i) (g.trans g2).rel js is' (apartOf is is2)
  exact e.nx _ _ _ _ q2 (g3.asg (by rw [List.length_set]; exact f2) js')
/-! targets -/
def LiftG (K : PySem.W.Frag) (g : GT) : TG := fun v σ H φ => ∃ (B : Hp) (s : AS) (x : PyData) (Q : AS → Prop), Rel K B H σ s ∧ Da K B v x ∧ g x s Q ∧ ∀ s' σ', Q s' → Go K B H σ s B H σ' s' → φ σ' H
def AG (X : Cx) (tg : Expr) (g : GT) : Prop := PG X tg (LiftG X.K g)
variable {tg : Expr} {tgs : List Expr} {g : GT} {gs : GTs} {n : Nat}
theorem PGimp {t t' : TG} (h : PG X tg t) (k : ∀ v σ H Q, t' v σ H Q → t v σ H Q) : PG X tg t' := ⟨fun pins s σ H v u Q I r w => h.run pins s σ H v u Q I r (k v σ H Q w)⟩
theorem ag_name (hN : X.N.Nodup) (hi : X.N[i]? = some x) (hx : Loc X.env.scope x) (hf : X.fn x = true ∨ X.env.scope.names.lookup x = some .local := by first | exact .inl rfl | exact .inr rfl | assumption) : AG X (.Name x pos) (gN i) := by
  refine PGimp (pg_name hN hi hx hf) ?_
  rintro v σ H φ ⟨B, s, y, Q, R, d, ⟨lt, q⟩, k⟩
  exact k _ _ q ((Go.refl R).asg (r := .d y) lt d)
/-- o[i] = e -/
theorem as_sub (he : AE X e t) (hg : PG X tg (gSub (Lift X.K u) (Lift X.K w) rSetL)) (hs : swapsWithSole [tg] e pos.line X.env = pure false := by rfl) (hw : swappedStores [tg] e X.env = pure none := by rfl) (h1 : (assignEach [tg] X.env).map (·.2) = [assign tg X.env] := by rfl) :
    ASt X (.Assign [tg] e pos) (aSet t u w) := by
  refine PSimp (ps_asg he hg hs hw h1) ?_
  rintro D σ H ⟨B, s, A, R, h, e⟩
  refine liftDat R h ?_
  intro d v s1 B1 H1 q g1 da
  refine ⟨B1, s1, _, g1.rel, q, ?_⟩
  intro ro vo s2 B2 H2 q2 g2 is2
  refine ⟨B2, s2, _, g2.rel, q2, ?_⟩
  rintro ri vi s3 B3 H3 ⟨j, p, xs, k, n, h1, h2, h3, q3⟩ g3 is3
  have g123 := (g1.trans g2).trans g3
  have is2' := is2.keep g1.rel g2 g3
  obtain ⟨a, vs, rfl, es, ea, ha, l⟩ := own_at (B0 := B) g3.rel is2' h1
  cases is3.val g3.rel (intOf_eq h2) (fun _ => nofun)
  have da3 : Da X.K B3 v d := da.up (g2.same.trans g3.same)
  exact ⟨a, vs, k, n, rfl, rfl, ha, by rw [l.length]; exact h3, e.nx _ _ _ _ q3 (g123.toGo.put es ea (l.set da3 n))⟩
/-- o.append(e) -/
theorem as_app {apos cpos : Pos} (ho : AE X o u) (he : AE X e t) (hbase : attributeBase o "append" X.env (eval o X.env) = eval o X.env := by rfl)
    (hfew : ((backTo cpos (starEach [e] X.env)).all (fun x => !x.1) && (backToKw cpos (keywordEach [] X.env)).all (fun x => x.1.isSome) && decide ([e].length + ([] : List Keyword).length + (if ([] : List Keyword).isEmpty then 0 else 1) < 30)) = true := by rfl)
    (hline : (apos.endLine == cpos.line) = true := by rfl) (st1 : starEach [e] X.env = (false, eval e X.env) :: starEach [] X.env := by rfl) (hsw : swapsWith (.Call (.Attribute o "append" apos) [e] [] cpos) none pos.line X.env = pure false := by rfl) :
    ASt X (.Expr (.Call (.Attribute o "append" apos) [e] [] cpos) pos) (aApp u t) := by
  refine PSimp (ps_expr (pe_bm PySem.F.plainAttrs_list PySem.F.slot_list_append PySem.F.type_list_append mt_append ho (pa_cons he pa_nil st1) hbase hfew hline st1 rfl) hsw) ?_
  rintro D σ H ⟨B, s, A, R, h, e⟩
  refine ⟨B, s, _, R, h, ?_⟩
  rintro ro vo s1 B1 H1 ⟨c, q⟩ g1 is1
  rcases e0 : ownOf s1 ro with _ | ⟨j0, p0, xs0⟩
  · rw [e0] at c
    cases c
  obtain ⟨a, vs, rfl, es, ea, ha, l⟩ := own_at (B0 := B) g1.rel is1 e0
  refine ⟨Or.inl ⟨rfl, _, SqL.of ha⟩, ?_⟩
  refine liftDat g1.rel q ?_
  rintro d v s2 B2 H2 ⟨j, p, xs, h1, h2, q2⟩ g2 da
  have is1' := is1.keep R g1 g2
  obtain ⟨a', vs', e', es', ea', ha', l'⟩ := own_at (B0 := B) g2.rel is1' h1
  cases e'
  refine ⟨a, vs', v, rfl, rfl, ha', ?_, e.nx _ _ _ _ q2 ((g1.trans g2).toGo.put es' ea' (l'.app (.cons da .nil)))⟩
  rw [l'.length]
  exact Nat.lt_of_le_of_lt h2 (by decide)
end
end DL

namespace DL
open PySem PySem.Spec PyProof.Rows L2
variable [Tb]
/-! ### loops on data -/
/-- an iterator that yields this data, whatever grows beside it -/
structure Walks (K : PySem.W.Frag) (B : Hp) (J : It) (xs : List PyData) : Prop where
  go : ∀ i H, Sub B H → i < xs.length → J.go i H
  stop : ∀ H, Sub B H → J.stop xs.length H
  yld : ∀ (i : Nat) (H : Hp) (x : V) (H' : Hp) (d : PyData), Sub B H → xs[i]? = some d → J.yld i H x H' → ∀ B2, Sub B B2 → Sub B2 H → ∃ B3, Grow B2 H B3 H' ∧ Da K B3 x d
theorem Walks.up {K : PySem.W.Frag} {B B' : Hp} {J : It} {xs : List PyData} (w : Walks K B J xs) (e : Sub B B') : Walks K B' J xs :=
  ⟨fun i H s lt => w.go i H (e.trans s) lt, fun H s => w.stop H (e.trans s), fun i H x H' d s h y B2 s1 s2 => w.yld i H x H' d (e.trans s) h y B2 (e.trans s1) s2⟩
def LiftI (K : PySem.W.Frag) (w : DT) : TI := fun σ H R => ∃ (B : Hp) (s : AS) (Q : List PyData → AS → Prop), Rel K B H σ s ∧ w s Q ∧ ∀ xs s' B' H' J, Q xs s' → GoE K B H σ s B' H' s' → Walks K B' J xs → R J H'
def AI (X : Cx) (tg iter : Expr) (w : DT) : Prop := PI X tg iter (LiftI X.K w)
def aFor (w : DT) (g : GT) (body : ATS) : ATS := fun D s => w s fun xs s1 => ∃ I : Nat → AS → Prop, I 0 s1 ∧ (∀ (i : Nat) d s2, xs[i]? = some d → I i s2 → g d s2 fun s3 => body { D with nx := I (i + 1), ct := I (i + 1), bk := D.nx } s3) ∧ ∀ s2, I xs.length s2 → D.nx s2
def aWhile (c : BT) (body : ATS) : ATS := fun D s => ∃ (I : AS → Prop) (μ : AS → Nat), I s ∧ ∀ s1, I s1 → c s1 fun b s2 => if b = true then body { D with nx := fun s3 => I s3 ∧ μ s3 < μ s1, ct := fun s3 => I s3 ∧ μ s3 < μ s1, bk := D.nx } s2 else D.nx s2
/-- what is walked: data -/
def wSeq (t : AT) : DT := fun s Q => t s fun r s1 => match rd s1 r with
  | .list xs => Q xs (fz s1 r)
  | .tuple xs => Q xs (fz s1 r)
  | _ => False
def rngD (lo : Int) (n : Nat) : List PyData := (List.range n).map fun (i : Nat) => .int (lo + (i : Int))
def wRng1 (t : AT) : DT := fun s Q => t s fun r s1 => match rd s1 r with
  | .int j => (-(2 ^ 60) ≤ j ∧ j ≤ 2 ^ 60) ∧ Q (rngD 0 j.toNat) s1
  | _ => False
def zipD (xs ys : List PyData) : List PyData := List.zipWith (fun x y => .tuple [x, y]) xs ys
def wZip (td : DT) : DT := fun s Q => td s fun ds s1 => match ds with
  | [.list xs, .list ys] => Q (zipD xs ys) s1
  | [.tuple xs, .tuple ys] => Q (zipD xs ys) s1
  | _ => False
section
variable {K : PySem.W.Frag} {B H : Hp} {xs : List PyData}
theorem walks_list {a : Addr} {vs : List V} (h : B a = some (.lst vs)) (l : DaL K B vs xs) : Walks K B (Itl K a) xs := by
  refine ⟨fun i H s lt => ?_, fun H s => ⟨vs, SqL.of (s.k h), by rw [l.length]; exact Nat.le_refl _⟩, fun i H x H' d s e y B2 s1 s2 => ?_⟩
  · obtain ⟨v, e, _⟩ := l.get (List.getElem?_eq_getElem lt)
    exact ⟨vs, v, SqL.of (s.k h), e⟩
  · obtain ⟨rfl, y⟩ := y
    obtain ⟨v, e2, d2⟩ := l.get e
    have := y vs (SqL.of (s.k h))
    rw [e2] at this
    cases this
    exact ⟨B2, Grow.refl s2, d2.up s1⟩
theorem walks_tup {a : Addr} {vs : List V} (h : SqT K B a vs) (l : DaL K B vs xs) : Walks K B (Itt K a) xs := by
  refine ⟨fun i H s lt => ?_, fun H s => ⟨vs, s.sqT h, by rw [l.length]; exact Nat.le_refl _⟩, fun i H x H' d s e y B2 s1 s2 => ?_⟩
  · obtain ⟨v, e, _⟩ := l.get (List.getElem?_eq_getElem lt)
    exact ⟨vs, v, s.sqT h, e⟩
  · obtain ⟨rfl, y⟩ := y
    obtain ⟨v, e2, d2⟩ := l.get e
    have := y vs (s.sqT h)
    rw [e2] at this
    cases this
    exact ⟨B2, Grow.refl s2, d2.up s1⟩
theorem rngD_len (lo : Int) (n : Nat) : (rngD lo n).length = n := by
  unfold rngD
  rw [List.length_map, List.length_range]
theorem rngD_get {lo : Int} {n i : Nat} {d : PyData} (h : (rngD lo n)[i]? = some d) : d = .int (lo + (i : Int)) ∧ i < n := by
  have lt : i < n := by
    have := (List.getElem?_eq_some_iff.mp h).1
    rwa [rngD_len] at this
  unfold rngD at h
  rw [List.getElem?_map, List.getElem?_range lt] at h
  exact ⟨(Option.some.inj h).symm, lt⟩
theorem walks_rng {lo : Int} {n : Nat} : Walks K B (Itr lo n) (rngD lo n) := by
  refine ⟨fun i H s lt => ?_, fun H s => ?_, fun i H x H' d s e y B2 s1 s2 => ?_⟩
  · rw [rngD_len] at lt
    exact lt
  · rw [rngD_len]
    exact Nat.le_refl n
  · obtain ⟨rfl, rfl⟩ := y
    obtain ⟨rfl, _⟩ := rngD_get e
    exact ⟨B2, Grow.refl s2, .int _⟩
end
end DL

namespace DL
open PySem PySem.Spec PyProof.Rows L2
variable [Tb]
section
variable {X : Cx} {e a b c o iter tg : Expr} {t u : AT} {tb : BT} {w td : DT} {g : GT} {ts : ATS} {pos pos' p : Pos} {body : List Stmt} {i j k : Nat}
theorem PIimp {wi wi' : TI} (h : PI X tg iter wi) (k : ∀ σ H R, wi' σ H R → wi σ H R) : PI X tg iter wi' := ⟨fun pins s σ H R I q => h.run pins s σ H R I (k σ H R q)⟩
/-- a list or a tuple -/
theorem pi_any {l : Expr} {tl : TE} (hl : PE X l tl) : PI X tg l (fun σ H R => tl σ H fun x H1 => ∃ a, x = .ref a ∧ ((∃ xs, SqL X.K H1 a xs ∧ R (Itl X.K a) H1) ∨ ∃ xs, SqT X.K H1 a xs ∧ R (Itt X.K a) H1)) := by
  constructor
  intro pins s σ H R I h
  refine thn (hl.run pins s σ H _ I h) ?_
  rintro v s1 ⟨x, H1, I1, r1, a, rfl, q⟩
  cases r1
  have fresh := I1.hok.fresh (Nat.le_refl s1.heap.objs.size)
  have fp : ∀ b ∈ [s1.heap.objs.size], FpOk X pins H1 b := by
    intro b hb
    obtain rfl : b = s1.heap.objs.size := by simpa using hb
    exact I1.fpOk (Nat.le_refl _) fresh
  rcases q with ⟨xs, hq, q⟩ | ⟨xs, hq, q⟩
  · obtain ⟨its, rv, pl, hz⟩ := I1.list hq
    apply wpAny_pyIter_list pl.isList
    exact ⟨s1.heap.objs.size, [s1.heap.objs.size], _, _, H1, rfl, I1.kept (t' := s1.toks) fun b o e => Heap.get?_push_of_some _ e, turn_list a _, ⟨_, Heap.get?_push_size _ rfl, rfl, rfl⟩, fp, q⟩
  · obtain ⟨its, rv, pl, hz⟩ := I1.tuple hq
    apply wpAny_pyIter_tuple (show s1.heap.IsTuple a its.toArray from pl)
    exact ⟨s1.heap.objs.size, [s1.heap.objs.size], _, _, H1, rfl, I1.kept (t' := s1.toks) fun b o e => Heap.get?_push_of_some _ e, turn_tuple a _, ⟨_, Heap.get?_push_size _ rfl, rfl, rfl⟩, fp, q⟩
theorem ai_seq (h : AE X e t) : AI X tg e (wSeq t) := by
  refine PIimp (pi_any h) ?_
  rintro σ H R ⟨B, s, Q, Rl, h, k⟩
  refine ⟨B, s, _, Rl, h, ?_⟩
  intro r v s1 B1 H1 q g is
  obtain ⟨B2, g2, d2⟩ := is.freeze Rl g
  have q : (match rd s1 r with | .list xs => Q xs (fz s1 r) | .tuple xs => Q xs (fz s1 r) | _ => False) := q
  rcases er : rd s1 r with _ | _ | _ | _ | xs | xs | _
  case list =>
    rw [er] at q d2
    cases d2 with
    | lst hs l =>
      exact ⟨_, rfl, Or.inl ⟨_, SqL.of (g2.rel.sub.k hs), k _ _ _ _ _ q g2 (walks_list hs l)⟩⟩
  case tuple =>
    rw [er] at q d2
    cases d2 with
    | tup hs l =>
      exact ⟨_, rfl, Or.inr ⟨_, g2.rel.sub.sqT hs, k _ _ _ _ _ q g2 (walks_tup hs l)⟩⟩
  all_goals
    rw [er] at q
    exact q.elim
theorem ai_rng1 (hg : Gl X "range") (hm : X.mg "range" = none) (h : AE X a t) (hs : starEach [a] X.env = [(false, eval a X.env)] := by rfl) : AI X tg (.Call (.Name "range" p) [a] [] pos) (wRng1 t) := by
  refine PIimp (pi_range1 hg hm (pa_cons h pa_nil hs) hs) ?_
  rintro σ H R ⟨B, s, Q, Rl, h, k⟩
  refine ⟨B, s, _, Rl, h, ?_⟩
  intro r v s1 B1 H1 q g is
  have q : (match rd s1 r with | .int j => (-(2 ^ 60) ≤ j ∧ j ≤ 2 ^ 60) ∧ Q (rngD 0 j.toNat) s1 | _ => False) := q
  split at q
  · next j er =>
    cases is.val g.rel er (fun _ => nofun)
    exact ⟨j, rfl, by omega, by omega, k _ _ _ _ _ q.2 g walks_rng⟩
  · exact q.elim
/-- for tg in iter: body -/
theorem as_for (hp : PassesOwn (model X.prog X.w) X.A X.env X.xe) (hc : X.calm = true) (hi : AI X tg iter w) (hg : AG X tg g) (hb : ASs X body ts) (hs : ∀ x, foldedSetIterable iter X.env x = pure x := by intro _; rfl) : ASt X (.For tg iter body [] pos) (aFor w g ts) := by
  refine PSimp (ps_for hp hc hi hg hb hs) ?_
  rintro D σ H ⟨B, s, A, R, h, e⟩
  refine ⟨B, s, _, R, h, ?_⟩
  rintro xs s1 B1 H1 J ⟨I, h0, step, done⟩ g1 wk
  refine ⟨fun i m σ2 H2 => m = xs.length - i ∧ i ≤ xs.length ∧ ∃ s2 B2, I i s2 ∧ Go X.K B H σ s B2 H2 σ2 s2 ∧ Sub B1 B2, ⟨xs.length, by rw [Nat.sub_zero], Nat.zero_le _, s1, B1, h0, g1.toGo, g1.rel.sub.left⟩, ?_⟩
  rintro i m σ2 H2 ⟨rfl, le, s2, B2, i2, g2, sub2⟩
  have subH := sub2.trans g2.rel.sub
  by_cases lt : i < xs.length
  · right
    refine ⟨wk.go i H2 subH lt, fun σ' H' => ∃ s3 B3, I (i + 1) s3 ∧ Go X.K B H σ s B3 H' σ' s3 ∧ Sub B1 B3, ?_, ?_⟩
    · rintro σ' H' ⟨s3, B3, i3, g3, sub3⟩
      exact ⟨xs.length - (i + 1), by omega, rfl, lt, s3, B3, i3, g3, sub3⟩
    · intro x H3 y
      have ed : xs[i]? = some xs[i] := List.getElem?_eq_getElem lt
      obtain ⟨B3, gr, da⟩ := wk.yld i H2 x H3 _ subH ed y B2 sub2 g2.rel.sub
      have g3 := g2.trans (gr.go g2.rel).toGo
      refine ⟨B3, s2, xs[i], _, g3.rel, da, step i xs[i] s2 ed i2, ?_⟩
      intro s4 σ4 q4 g4
      have g34 := g3.trans g4
      have e4 := e.shift g34
      refine ⟨B3, s4, _, g4.rel, q4, ?_, e4.rt, ?_, ?_⟩
      · intro s5 σ5 B5 H5 i5 g5
        exact ⟨s5, B5, i5, g34.trans g5, (sub2.trans gr.same).trans g5.same⟩
      · intro s5 σ5 B5 H5 a g5
        exact e.nx _ _ _ _ a (g34.trans g5)
      · intro s5 σ5 B5 H5 i5 g5
        exact ⟨s5, B5, i5, g34.trans g5, (sub2.trans gr.same).trans g5.same⟩
  · left
    obtain rfl : i = xs.length := by omega
    exact ⟨wk.stop H2 subH, e.nx _ _ _ _ (done s2 i2) g2⟩
theorem as_while (hp : PassesOwn (model X.prog X.w) X.A X.env X.xe) (hc : AB X c tb) (hb : ASs X body ts) : ASt X (.While c body [] pos) (aWhile tb ts) := by
  refine PSimp (ps_while hp hc hb) ?_
  rintro D σ H ⟨B, s, A, R, ⟨I, μ, h0, step⟩, e⟩
  refine ⟨fun m σ1 H1 => ∃ s1 B1, I s1 ∧ μ s1 = m ∧ Go X.K B H σ s B1 H1 σ1 s1, ⟨μ s, s, B, h0, rfl, Go.refl R⟩, ?_⟩
  rintro m σ1 H1 ⟨s1, B1, h1, rfl, g⟩
  refine ⟨B1, s1, _, g.rel, step s1 h1, ?_⟩
  intro b s2 B2 H2 q g2
  cases b with
  | false => exact iteF (e.nx _ _ _ _ q (g.trans g2.toGo))
  | true =>
    refine iteT ⟨fun σ' H' => ∃ s3 B3, I s3 ∧ μ s3 < μ s1 ∧ Go X.K B H σ s B3 H' σ' s3, ?_, ?_⟩
    · rintro σ' H' ⟨s3, B3, i3, lt, g3⟩
      exact ⟨_, lt, s3, B3, i3, rfl, g3⟩
    · have g12 := g.trans g2.toGo
      have e2 := e.shift g12
      refine ⟨B2, s2, _, g2.rel, q, ?_, e2.rt, ?_, ?_⟩
      · rintro s3 σ3 B3 H3 ⟨i3, lt⟩ g3
        exact ⟨s3, B3, i3, lt, g12.trans g3⟩
      · intro s3 σ3 B3 H3 a g3
        exact e.nx _ _ _ _ a (g12.trans g3)
      · rintro s3 σ3 B3 H3 ⟨i3, lt⟩ g3
        exact ⟨s3, B3, i3, lt, g12.trans g3⟩
end
end DL

namespace DL
open PySem PySem.Spec PyProof.Rows L2
variable [Tb]
/-! ### comprehensions on data -/
def wipeS (s : AS) : List Nat → AS
  | [] => s
  | v :: vs => (wipeS s vs).set v .no
/-- what a comprehension's names held comes back -/
def backS (s0 s : AS) : List Nat → AS
  | [] => s
  | v :: vs => (backS s0 s vs).set v (s0.getD v .no)
def noM (s : AS) (i : Nat) : Bool := match s[i]? with
  | some (.m _ _) => false
  | _ => true
section
variable {K : PySem.W.Frag} {B H B1 H1 B2 H2 : Hp} {σ σ1 : L2.St} {s s1 s2 : AS} {vs : List Nat}
theorem wipeS_len : ∀ vs : List Nat, (wipeS s vs).length = s.length
  | [] => rfl
  | v :: vs => by
    show ((wipeS s vs).set v .no).length = _
    rw [List.length_set, wipeS_len vs]
theorem wipeS_at : ∀ {vs : List Nat} {i : Nat}, i ∉ vs → (wipeS s vs)[i]? = s[i]?
  | [], _, _ => rfl
  | v :: vs, i, h => by
    show ((wipeS s vs).set v .no)[i]? = _
    rw [List.getElem?_set_ne (fun e => h (by rw [e]; exact List.mem_cons_self)), wipeS_at fun m => h (List.mem_cons_of_mem _ m)]
theorem wipeS_in : ∀ {vs : List Nat} {i : Nat} {x : Sl}, i ∈ vs → (wipeS s vs)[i]? = some x → x = .no
  | v :: vs, i, x, h, e => by
    have e : ((wipeS s vs).set v .no)[i]? = some x := e
    rcases get_set e with ⟨_, z, _⟩ | ⟨n, z⟩
    · exact z
    · rcases List.mem_cons.mp h with q | q
      · exact absurd q n
      · exact wipeS_in q z
theorem wipeS_d {i : Nat} {x : PyData} (e : (wipeS s vs)[i]? = some (Sl.d x)) : i ∉ vs ∧ s[i]? = some (Sl.d x) := by
  have n : i ∉ vs := fun h => by cases wipeS_in h e
  exact ⟨n, by rw [wipeS_at n] at e; exact e⟩
theorem wipeS_m {i : Nat} {p : Bool} {x : List PyData} (e : (wipeS s vs)[i]? = some (Sl.m p x)) : i ∉ vs ∧ s[i]? = some (Sl.m p x) := by
  have n : i ∉ vs := fun h => by cases wipeS_in h e
  exact ⟨n, by rw [wipeS_at n] at e; exact e⟩
theorem wipe_at : ∀ {vs : List Nat} {i : Nat}, i ∉ vs → (wipe σ vs)[i]? = σ[i]?
  | [], _, _ => rfl
  | v :: vs, i, h => by
    show ((wipe σ vs).set v none)[i]? = _
    rw [List.getElem?_set_ne (fun e => h (by rw [e]; exact List.mem_cons_self)), wipe_at fun m => h (List.mem_cons_of_mem _ m)]
theorem backS_len {s0 : AS} : ∀ vs : List Nat, (backS s0 s vs).length = s.length
  | [] => rfl
  | v :: vs => by
    show ((backS s0 s vs).set v _).length = _
    rw [List.length_set, backS_len vs]
theorem backS_at {s0 : AS} : ∀ {vs : List Nat} {i : Nat}, i ∉ vs → (backS s0 s vs)[i]? = s[i]?
  | [], _, _ => rfl
  | v :: vs, i, h => by
    show ((backS s0 s vs).set v _)[i]? = _
    rw [List.getElem?_set_ne (fun e => h (by rw [e]; exact List.mem_cons_self)), backS_at fun m => h (List.mem_cons_of_mem _ m)]
theorem backS_in {s0 : AS} (hl : s.length = s0.length) : ∀ {vs : List Nat} {i : Nat}, i ∈ vs → (backS s0 s vs)[i]? = s0[i]?
  | v :: vs, i, h => by
    show ((backS s0 s vs).set v _)[i]? = _
    by_cases e : v = i
    · subst e
      by_cases lt : v < s0.length
      · rw [List.getElem?_set_self (by rw [backS_len, hl]; exact lt), List.getD_eq_getElem?_getD, List.getElem?_eq_getElem lt]
        rfl
      · rw [List.getElem?_eq_none (by rw [List.length_set, backS_len, hl]; omega), List.getElem?_eq_none (by omega)]
    · rw [List.getElem?_set_ne e]
      rcases List.mem_cons.mp h with q | q
      · exact absurd q.symm e
      · exact backS_in hl q
theorem noM_ne {i : Nat} {p : Bool} {xs : List PyData} (h : noM s i = true) : s[i]? ≠ some (Sl.m p xs) := by
  intro e
  unfold noM at h
  rw [e] at h
  cases h
theorem Rel.wipe (R : Rel K B H σ s) : Rel K B H (L2.wipe σ vs) (wipeS s vs) := by
  refine ⟨by rw [wipe_length, wipeS_len]; exact R.len, R.sub, fun i x e => ?_, fun i p xs e => ?_, fun i j p q xs ys a e1 e2 w1 w2 => ?_⟩
  · obtain ⟨n, e⟩ := wipeS_d e
    obtain ⟨v, e1, e2⟩ := R.dat i x e
    exact ⟨v, by rw [wipe_at n]; exact e1, e2⟩
  · obtain ⟨n, e⟩ := wipeS_m e
    obtain ⟨a, us, e1, e2⟩ := R.own i p xs e
    exact ⟨a, us, by rw [wipe_at n]; exact e1, e2⟩
  · obtain ⟨n1, e1⟩ := wipeS_m e1
    obtain ⟨n2, e2⟩ := wipeS_m e2
    rw [wipe_at n1] at w1
    rw [wipe_at n2] at w2
    exact R.sep i j p q xs ys a e1 e2 w1 w2
theorem Cel.wipe {a : Addr} (c : Cel (L2.wipe σ vs) (wipeS s vs) a) : Cel σ s a := by
  obtain ⟨i, p, xs, e, w⟩ := c
  obtain ⟨n, e⟩ := wipeS_m e
  rw [wipe_at n] at w
  exact ⟨i, p, xs, e, w⟩
/-- out of a comprehension's names again -/
theorem GoE.back (R : Rel K B H σ s) (nm : ∀ v ∈ vs, noM s v = true) (g : GoE K B H (L2.wipe σ vs) (wipeS s vs) B1 H1 s1) : GoE K B H σ s B1 H1 (backS s s1 vs) := by
  have len1 : s1.length = s.length := by
    have := g.rel.len
    rw [wipe_length, R.len] at this
    exact this.symm
  have inM : ∀ {i : Nat} {p : Bool} {xs : List PyData}, (backS s s1 vs)[i]? = some (Sl.m p xs) → i ∉ vs ∧ s1[i]? = some (Sl.m p xs) := by
    intro i p xs e
    have n : i ∉ vs := by
      intro h
      rw [backS_in len1 h] at e
      exact noM_ne (nm i h) e
    exact ⟨n, by rw [backS_at n] at e; exact e⟩
  have celUp : ∀ {a : Addr}, Cel σ (backS s s1 vs) a → Cel (L2.wipe σ vs) s1 a := by
    rintro a ⟨i, p, xs, e, w⟩
    obtain ⟨n, e⟩ := inM e
    exact ⟨i, p, xs, e, by rw [wipe_at n]; exact w⟩
  refine ⟨⟨⟨by rw [backS_len, len1]; exact R.len, g.rel.sub, fun i x e => ?_, fun i p xs e => ?_, fun i j p q xs ys a e1 e2 w1 w2 => ?_⟩, g.same, g.live, fun a n => ?_, fun a o e nt => ?_, fun a c => ?_, fun i ys e => ?_⟩, fun i p xs e => ?_, fun i x e => ?_, fun i p xs e => ?_⟩
  · by_cases h : i ∈ vs
    · rw [backS_in len1 h] at e
      obtain ⟨v, e1, e2⟩ := R.dat i x e
      exact ⟨v, e1, e2.up g.same⟩
    · rw [backS_at h] at e
      obtain ⟨v, e1, e2⟩ := g.rel.dat i x e
      rw [wipe_at h] at e1
      exact ⟨v, e1, e2⟩
  · obtain ⟨n, e⟩ := inM e
    obtain ⟨a, us, e1, e2⟩ := g.rel.own i p xs e
    rw [wipe_at n] at e1
    exact ⟨a, us, e1, e2⟩
  · obtain ⟨n1, e1⟩ := inM e1
    obtain ⟨n2, e2⟩ := inM e2
    exact g.rel.sep i j p q xs ys a e1 e2 (by rw [wipe_at n1]; exact w1) (by rw [wipe_at n2]; exact w2)
  · rcases g.grow a n with z | z | z
    · left; exact z
    · right; left; exact z
    · right; right; exact z.wipe
  · rcases g.frame a o e nt with z | z
    · left; exact z.wipe
    · right; exact z
  · rcases g.cells a (celUp c) with z | z
    · left; exact z
    · right; exact z.wipe
  · obtain ⟨n, e⟩ := inM e
    obtain ⟨_, xs, e2⟩ := g.pin i ys e
    obtain ⟨_, e2⟩ := wipeS_m e2
    exact ⟨rfl, xs, e2⟩
  · obtain ⟨n, e⟩ := inM e
    obtain ⟨ys, e2⟩ := g.mkeep i p xs e
    exact ⟨ys, (wipeS_m e2).2⟩
  · by_cases h : i ∈ vs
    · rw [backS_in len1 h]
      exact e
    · rw [backS_at h]
      exact g.dkeep i x (by rw [wipeS_at h]; exact e)
  · have h : i ∉ vs := fun h => noM_ne (nm i h) e
    rw [backS_at h]
    exact g.mdat i p xs (by rw [wipeS_at h]; exact e)
/-- one turn: from the wiped state by way of the names' values to the wiped state -/
theorem GoE.turn (hσ : L2.wipe σ1 vs = L2.wipe σ vs) (R : Rel K B H (L2.wipe σ vs) s) (dead : ∀ v ∈ vs, s[v]? = some Sl.no ∨ s[v]? = none) (off : ∀ i, i ∉ vs → s1[i]? = s[i]?) (noown : ∀ v ∈ vs, noM s1 v = true) (R1 : Rel K B H σ1 s1) (g : GoE K B H σ1 s1 B2 H2 s2) : GoE K B H (L2.wipe σ vs) s B2 H2 (wipeS s2 vs) := by
  have celD : ∀ {a : Addr}, Cel σ1 s1 a → Cel (L2.wipe σ vs) s a := by
    rintro a ⟨i, p, xs, e, w⟩
    have n : i ∉ vs := fun h => noM_ne (noown i h) e
    rw [off i n] at e
    refine ⟨i, p, xs, e, ?_⟩
    rw [← hσ, wipe_at n]
    exact w
  have Rw : Rel K B2 H2 (L2.wipe σ1 vs) (wipeS s2 vs) := g.rel.wipe
  rw [hσ] at Rw
  have inM : ∀ {i : Nat} {p : Bool} {xs : List PyData}, (wipeS s2 vs)[i]? = some (Sl.m p xs) → i ∉ vs ∧ ∃ ys : List PyData, s[i]? = some (Sl.m p ys) := by
    intro i p xs e
    obtain ⟨n, e⟩ := wipeS_m e
    obtain ⟨ys, e2⟩ := g.mkeep i p xs e
    rw [off i n] at e2
    exact ⟨n, ys, e2⟩
  refine ⟨⟨Rw, g.same, g.live, fun a n => ?_, fun a o e nt => ?_, fun a c => ?_, fun i ys e => ?_⟩, fun i p xs e => (inM e).2, fun i x e => ?_, fun i p xs e => ?_⟩
  · rcases g.grow a n with z | z | z
    · left; exact z
    · right; left; exact z
    · right; right; exact celD z
  · rcases g.frame a o e nt with z | z
    · left; exact celD z
    · right; exact z
  · obtain ⟨i, p, xs, e, w⟩ := c
    obtain ⟨n, ys, e2⟩ := inM e
    right
    exact ⟨i, p, ys, e2, w⟩
  · obtain ⟨n, ys, e2⟩ := inM e
    exact ⟨rfl, ys, e2⟩
  · have n : i ∉ vs := by
      intro h
      rcases dead i h with z | z
      · rw [e] at z; cases z
      · rw [e] at z; cases z
    rw [wipeS_at n]
    exact g.dkeep i x (by rw [off i n]; exact e)
  · have n : i ∉ vs := by
      intro h
      rcases dead i h with z | z
      · rw [e] at z; cases z
      · rw [e] at z; cases z
    rw [wipeS_at n]
    exact g.mdat i p xs (by rw [off i n]; exact e)
theorem wipeS_dead {v : Nat} (h : v ∈ vs) : (wipeS s vs)[v]? = some Sl.no ∨ (wipeS s vs)[v]? = none := by
  rcases e : (wipeS s vs)[v]? with _ | x
  · right; rfl
  · left; rw [wipeS_in h e]
end
/-- what binds a comprehension's names: a name, or as many names as the item is long -/
inductive Tgt where
  | one (j : Nat)
  | many (js : List Nat)
/-- the names' values; none where the item is of another form -/
def bindD : Tgt → PyData → Option (List (Nat × PyData))
  | .one j, x => some [(j, x)]
  | .many js, .tuple xs => if xs.length = js.length then some (js.zip xs) else none
  | .many _, _ => none
def putD (s : AS) : List (Nat × PyData) → AS
  | [] => s
  | (j, x) :: r => putD (s.set j (.d x)) r
def xLc (w : DT) (tg : Tgt) (vs : List Nat) (tt : BT) (te : AT) : AT := fun s Q => w s fun xs s1 => (xs.length ≤ 100000 ∧ ∀ v ∈ vs, noM s1 v = true) ∧ ∃ I : Nat → List PyData → AS → Prop, I 0 [] (wipeS s1 vs) ∧
  (∀ (i : Nat) d acc s2, xs[i]? = some d → I i acc s2 → ∃ b, bindD tg d = some b ∧ (∀ q ∈ b, q.1 ∈ vs ∧ q.1 < s2.length) ∧ tt (putD s2 b) fun k s3 => if k = true then xD te s3 fun r s4 => I (i + 1) (acc ++ [rd s4 r]) (wipeS s4 vs) else I (i + 1) acc (wipeS s3 vs)) ∧
  ∀ acc s2, I xs.length acc s2 → Q (.f acc) (backS s1 s2 vs)
def gNames : List Nat → TGs
  | [] => gNil
  | j :: js => gCons (gName j) (gNames js)
def gOf (K : PySem.W.Frag) : Tgt → TG
  | .one j => gName j
  | .many js => gTup K js.length (gNames js)
def putV (σ : L2.St) : List (Nat × V) → L2.St
  | [] => σ
  | (j, x) :: r => putV (σ.set j (some x)) r
section
variable {K : PySem.W.Frag} {B H : Hp} {σ σ1 : L2.St} {s : AS} {vs : List Nat}
theorem names_ok {φ : L2.St → Hp → Prop} : ∀ {js : List Nat} {ws : List V} {σ : L2.St}, ws.length = js.length → φ (putV σ (js.zip ws)) H → gNames js ws σ H φ
  | [], [], _, _, h => ⟨rfl, h⟩
  | j :: js, w :: ws, σ, n, h => ⟨w, ws, rfl, names_ok (js := js) (ws := ws) (by simpa using n) h⟩
  | [], _ :: _, _, n, _ => by cases n
  | _ :: _, [], _, n, _ => by cases n
theorem put_go : ∀ {js : List Nat} {ws : List V} {ds : List PyData} {σ : L2.St} {s : AS}, Rel K B H σ s → DaL K B ws ds → (∀ q ∈ js.zip ds, q.1 < s.length) → Go K B H σ s B H (putV σ (js.zip ws)) (putD s (js.zip ds))
  | [], _, _, _, _, R, _, _ => by
    rw [List.zip_nil_left, List.zip_nil_left]
    exact Go.refl R
  | j :: js, [], ds, _, _, R, l, _ => by
    cases l
    rw [List.zip_nil_right, List.zip_nil_right]
    exact Go.refl R
  | j :: js, w :: ws, d :: ds, _, _, R, .cons a l, h => by
    have lt := h (j, d) List.mem_cons_self
    have g := (Go.refl R).asg (r := .d d) lt a
    exact g.trans (put_go (js := js) g.rel l fun q m => by rw [List.length_set]; exact h q (List.mem_cons_of_mem _ m))
theorem wipe_in : ∀ {vs : List Nat} {i : Nat}, i ∈ vs → (wipe σ vs)[i]? = if i < σ.length then some none else none
  | v :: vs, i, h => by
    show ((wipe σ vs).set v none)[i]? = _
    by_cases e : v = i
    · subst e
      by_cases lt : v < σ.length
      · rw [if_pos lt, List.getElem?_set_self (by rw [wipe_length]; exact lt)]
      · rw [if_neg lt, List.getElem?_eq_none (by rw [List.length_set, wipe_length]; omega)]
    · rw [List.getElem?_set_ne e]
      rcases List.mem_cons.mp h with q | q
      · exact absurd q.symm e
      · exact wipe_in q
theorem wipe_eq (l : σ1.length = σ.length) (h : ∀ i, i ∉ vs → σ1[i]? = σ[i]?) : wipe σ1 vs = wipe σ vs := by
  apply List.ext_getElem?
  intro i
  by_cases m : i ∈ vs
  · rw [wipe_in m, wipe_in m, l]
  · rw [wipe_at m, wipe_at m, h i m]
theorem putV_len : ∀ {b : List (Nat × V)} {σ : L2.St}, (putV σ b).length = σ.length
  | [], _ => rfl
  | (j, x) :: r, σ => by
    show (putV (σ.set j (some x)) r).length = _
    rw [putV_len, List.length_set]
theorem putV_off : ∀ {b : List (Nat × V)} {σ : L2.St} {i : Nat}, (∀ q ∈ b, q.1 ≠ i) → (putV σ b)[i]? = σ[i]?
  | [], _, _, _ => rfl
  | (j, x) :: r, σ, i, h => by
    show (putV (σ.set j (some x)) r)[i]? = _
    rw [putV_off fun q m => h q (List.mem_cons_of_mem _ m), List.getElem?_set_ne (h (j, x) List.mem_cons_self)]
theorem putD_off : ∀ {b : List (Nat × PyData)} {s : AS} {i : Nat}, (∀ q ∈ b, q.1 ≠ i) → (putD s b)[i]? = s[i]?
  | [], _, _, _ => rfl
  | (j, x) :: r, s, i, h => by
    show (putD (s.set j (.d x)) r)[i]? = _
    rw [putD_off fun q m => h q (List.mem_cons_of_mem _ m), List.getElem?_set_ne (h (j, x) List.mem_cons_self)]
theorem putD_noM : ∀ {b : List (Nat × PyData)} {s : AS} {i : Nat}, noM s i = true → noM (putD s b) i = true
  | [], _, _, h => h
  | (j, x) :: r, s, i, h => by
    refine putD_noM (b := r) (s := s.set j (.d x)) ?_
    unfold noM at h ⊢
    by_cases e : j = i
    · subst e
      by_cases lt : j < s.length
      · rw [List.getElem?_set_self lt]
      · rw [List.getElem?_eq_none (by rw [List.length_set]; omega)]
    · rw [List.getElem?_set_ne e]
      exact h
end
/-- what a comprehension's names need -/
def PGo (X : Cx) (tg : Expr) (g : Tgt) : Prop := PG X tg (gOf X.K g)
/-- the tests of a comprehension -/
def ABs (X : Cx) (es : List Expr) (t : BT) : Prop := PTs X es (LiftB X.K t)
def bYes : BT := fun s Q => Q true s
section
variable {X : Cx} {elt tg iter : Expr} {ifs : List Expr} {scope : Scope} {own : List (Str × Nat)} {pos : Pos} {w : DT} {tt : BT} {te : AT} {G : Tgt}
theorem abs_nil : ABs X [] bYes := by
  have h : PTs X [] tYes := pts_nil
  refine ⟨fun pins s σ H Q I q => h.run pins s σ H Q I ?_⟩
  obtain ⟨B, s, P, R, q, k⟩ := q
  exact k _ _ _ _ q (GoE.refl R)
theorem abs_one {c : Expr} (h : AB X c tt) : ABs X [c] tt := pts_one h
theorem lcLift {σ : L2.St} {H : Hp} {φ : VK} (h : Lift X.K (xLc w G (own.map (·.2)) tt te) σ H φ) : tLc (LiftI X.K w) (gOf X.K G) (LiftB X.K tt) (Lift X.K te) (own.map (·.2)) σ H φ := by
  obtain ⟨B, s, Q, R, h, k⟩ := h
  refine ⟨B, s, _, R, h, ?_⟩
  rintro xs s1 B1 H1 J ⟨⟨few, nm⟩, I, h0, step, done⟩ g1 wk
  intro Dl hD
  generalize hvs : own.map (·.2) = vs at *
  -- the list that is made: not tracked below, no name's
  have subD : Sub H1 (upd H1 Dl (.lst [])) := Sub.new g1.rel.sub.t1 hD
  have Rw : Rel X.K B1 H1 (wipe σ vs) (wipeS s1 vs) := g1.rel.wipe
  have gD : Grow B1 H1 B1 (upd H1 Dl (.lst [])) := Grow.own g1.rel.sub hD
  refine ⟨fun i m H2 => m = xs.length - i ∧ i ≤ xs.length ∧ ∃ (acc : List PyData) (s2 : AS) (B2 : Hp) (ws : List V), I i acc s2 ∧ acc.length ≤ i ∧ (∀ v ∈ vs, s2[v]? = some Sl.no ∨ s2[v]? = none) ∧ GoE X.K B1 H1 (wipe σ vs) (wipeS s1 vs) B2 H2 s2 ∧ H2 Dl = some (.lst ws) ∧ B2 Dl = none ∧ DaL X.K B2 ws acc, ⟨xs.length, by rw [Nat.sub_zero], Nat.zero_le _, [], wipeS s1 vs, B1, [], h0, Nat.le_refl _, fun v m => wipeS_dead m, gD.go Rw, upd_same, g1.rel.sub.free hD, .nil⟩, ?_⟩
  rintro i m H2 ⟨rfl, le, acc, s2, B2, ws, i2, la, dead, g2, hl, bl, dl⟩
  have subH : Sub B1 H2 := g2.same.trans g2.rel.sub
  by_cases lt : i < xs.length
  · right
    refine ⟨wk.go i H2 subH lt, fun H' => ∃ (acc : List PyData) (s2 : AS) (B2 : Hp) (ws : List V), I (i + 1) acc s2 ∧ acc.length ≤ i + 1 ∧ (∀ v ∈ vs, s2[v]? = some Sl.no ∨ s2[v]? = none) ∧ GoE X.K B1 H1 (wipe σ vs) (wipeS s1 vs) B2 H' s2 ∧ H' Dl = some (.lst ws) ∧ B2 Dl = none ∧ DaL X.K B2 ws acc, ?_, ?_⟩
    · rintro H' ⟨acc', s3, B3, ws', r⟩
      exact ⟨xs.length - (i + 1), by omega, rfl, lt, acc', s3, B3, ws', r⟩
    · intro x H3 y
      have ed : xs[i]? = some xs[i] := List.getElem?_eq_getElem lt
      obtain ⟨B3, gr, da⟩ := wk.yld i H2 x H3 _ subH ed y B2 g2.same g2.rel.sub
      have g3 := g2.trans (gr.go g2.rel)
      obtain ⟨b, hb, inV, q⟩ := step i xs[i] acc s2 ed i2
      have hl3 : H3 Dl = some (.lst ws) := gr.up.k hl
      have bl3 : B3 Dl = none := by
        rcases gr.grow Dl bl with z | z
        · exact z
        · rw [hl] at z; cases z
      -- the names are bound
      have bound : ∃ (js : List Nat) (us : List V) (ds : List PyData), b = js.zip ds ∧ DaL X.K B3 us ds ∧ us.length = js.length ∧ ∀ ψ : L2.St → Hp → Prop, ψ (putV (wipe σ vs) (js.zip us)) H3 → gOf X.K G x (wipe σ vs) H3 ψ := by
        match G, hb with
        | .one j, hb =>
          cases hb
          exact ⟨[j], [x], [xs[i]], rfl, .cons da .nil, rfl, fun ψ h => h⟩
        | .many js, hb =>
          match ex : xs[i], hb, da with
          | .tuple zs, hb, da =>
            have hb : (if zs.length = js.length then some (js.zip zs) else none) = some b := hb
            by_cases n : zs.length = js.length
            · rw [if_pos n] at hb
              cases hb
              cases da with
              | tup hs l =>
                refine ⟨js, _, zs, rfl, l, l.length.trans n, fun ψ h => ?_⟩
                exact ⟨_, _, rfl, g3.rel.sub.sqT hs, l.length.trans n, names_ok (l.length.trans n) h⟩
            · rw [if_neg n] at hb
              cases hb
      obtain ⟨js, us, ds, rfl, ld, lj, bind⟩ := bound
      have inJ : ∀ q ∈ js.zip us, q.1 ∈ vs := by
        intro q hq
        obtain ⟨n, hn, e⟩ := List.getElem_of_mem hq
        have n2 : n < (js.zip ds).length := by
          rw [List.length_zip] at hn ⊢
          rw [← ld.length]
          exact hn
        have z := (inV _ (List.getElem_mem n2)).1
        rw [← e]
        rw [List.getElem_zip] at z ⊢
        exact z
      refine bind _ ?_
      have go3 := put_go (K := X.K) (B := B3) (H := H3) (js := js) g3.rel ld fun q m => (inV q m).2
      have hσ : wipe (putV (wipe σ vs) (js.zip us)) vs = wipe σ vs := wipe_eq (by rw [putV_len, wipe_length]) fun k nk => by
        rw [putV_off fun q m e => nk (by rw [← e]; exact inJ q m), wipe_at nk]
      refine ⟨hσ, B3, _, _, go3.rel, q, ?_⟩
      have offD : ∀ k, k ∉ vs → (putD s2 (js.zip ds))[k]? = s2[k]? := fun k nk => putD_off fun q m e => nk (by rw [← e]; exact (inV q m).1)
      have noown : ∀ v ∈ vs, noM (putD s2 (js.zip ds)) v = true := by
        intro v hv
        refine putD_noM ?_
        unfold noM
        rcases dead v hv with z | z <;> rw [z]
      have Rw3 : Rel X.K B3 H3 (wipe σ vs) s2 := g3.rel
      intro kb s4 B4 H4 q4 g4
      cases kb with
      | false =>
        have q4 : I (i + 1) acc (wipeS s4 vs) := by simpa using q4
        have t := GoE.turn hσ Rw3 dead offD noown go3.rel g4
        refine iteF ⟨acc, wipeS s4 vs, B4, ws, q4, by omega, fun v m => wipeS_dead m, g3.trans t, ?_, ?_, (dl.up gr.same).up g4.same⟩
        · rcases t.frame Dl _ hl3 (fun _ => nofun) with z | z
          · exact absurd z (fun c => by
              obtain ⟨⟨_, _⟩, n⟩ := c.some Rw3
              exact g3.nocell Rw hD c)
          · exact z
        · rcases t.grow Dl bl3 with z | z | z
          · exact z
          · rw [hl3] at z; cases z
          · exact absurd z (g3.nocell Rw hD)
      | true =>
        have q4 : xD te s4 fun r s5 => I (i + 1) (acc ++ [rd s5 r]) (wipeS s5 vs) := by simpa using q4
        refine iteT ?_
        refine liftDat g4.rel q4 ?_
        intro d v s5 B5 H5 q5 g5 d5
        have t := GoE.turn hσ Rw3 dead offD noown go3.rel (g4.trans g5)
        have hl5 : H5 Dl = some (.lst ws) := by
          rcases t.frame Dl _ hl3 (fun _ => nofun) with z | z
          · exact absurd z (g3.nocell Rw hD)
          · exact z
        have bl5 : B5 Dl = none := by
          rcases t.grow Dl bl3 with z | z | z
          · exact z
          · rw [hl3] at z; cases z
          · exact absurd z (g3.nocell Rw hD)
        have dl5 : DaL X.K B5 ws acc := ((dl.up gr.same).up g4.same).up g5.same
        have g35 := g3.trans t
        refine ⟨ws, hl5, ?_, acc ++ [d], wipeS s5 vs, B5, ws ++ [v], q5, ?_, fun v m => wipeS_dead m, ?_, upd_same, bl5, dl5.app (.cons d5 .nil)⟩
        · rw [dl5.length]
          exact Nat.lt_of_lt_of_le (Nat.lt_of_le_of_lt la (Nat.lt_of_lt_of_le lt few)) (by decide)
        · rw [List.length_append]
          show acc.length + 1 ≤ i + 1
          omega
        · -- the made list has grown
          have nc : ¬ Cel (wipe σ vs) (wipeS s5 vs) Dl := g35.nocell Rw hD
          refine ⟨⟨⟨g35.rel.len, g35.rel.sub.put hl5 bl5, g35.rel.dat, fun k p ys e => ?_, g35.rel.sep⟩, g35.same, fun b n => ?_, g35.grow, fun b o e nt => ?_, g35.cells, g35.pin⟩, g35.mkeep, g35.dkeep, g35.mdat⟩
          · obtain ⟨b, us2, w1, w2, w3, w4⟩ := g35.rel.own k p ys e
            refine ⟨b, us2, w1, ?_, w3, w4⟩
            rw [upd_ne (by rintro rfl; exact nc ⟨k, p, ys, e, w1⟩)]
            exact w2
          · by_cases nb : b = Dl
            · subst nb
              exact hD
            · rw [upd_ne nb] at n
              exact g35.live b n
          · by_cases nb : b = Dl
            · subst nb
              rw [hD] at e
              cases e
            · rw [upd_ne nb]
              exact g35.frame b o e nt
  · left
    obtain rfl : i = xs.length := by omega
    refine ⟨wk.stop H2 subH, ?_⟩
    have gb := GoE.back g1.rel nm g2
    exact k _ _ _ _ _ (done acc s2 i2) (g1.trans gb) ⟨Dl, ws, rfl, g1.live Dl hD, hl, bl, dl⟩
theorem ae_lc (hc : X.calm = true) (hN : X.N.Nodup) (hi : AI X tg iter w) (ok : BlkOk X.N X.env.scope scope own)
    (hg : ∀ (s : Shared) (H : Hp) (C : Addr) (cl : List (Str × Addr)) (fp : List Addr), PGo (X.blk s H scope (compEnvC scope cl C X.env) fp) tg G) (ht : ∀ (s : Shared) (H : Hp) (C : Addr) (cl : List (Str × Addr)) (fp : List Addr), ABs (X.blk s H scope (compEnvC scope cl C X.env) fp) ifs tt)
    (he : ∀ (s : Shared) (H : Hp) (C : Addr) (cl : List (Str × Addr)) (fp : List Addr), AE (X.blk s H scope (compEnvC scope cl C X.env) fp) elt te) (hs : ∀ x, foldedSetIterable iter X.env x = pure x := by intro _; rfl) :
    AE X (.ListComp elt [⟨tg, iter, ifs, 0⟩] scope pos) (xLc w G (own.map (·.2)) tt te) := PEimp (pe_lc (g := gOf X.K G) (tt := LiftB X.K tt) (te := Lift X.K te) hc hN hi ok hg ht he hs) fun _ _ _ h => lcLift h
theorem pgo_one {j : Nat} {x : Str} (hN : X.N.Nodup) (hi : X.N[j]? = some x) (hx : Loc X.env.scope x) (hf : X.fn x = true ∨ X.env.scope.names.lookup x = some .local := by first | exact .inl rfl | exact .inr rfl | assumption) : PGo X (.Name x pos) (.one j) := pg_name hN hi hx hf
end
end DL

namespace DL
open PySem PySem.Spec PyProof.Rows L2
variable [Tb]
/-! ### defs on data -/
/-- a def whose arguments are data -/
abbrev FP := List PyData → (Rv → Prop) → Prop
/-- a def whose first argument is a list that it changes -/
abbrev FM := List PyData → List PyData → (Rv → List PyData → Prop) → Prop
def SpP (K : PySem.W.Frag) (F : FP) : Sp := fun vs H Q _ => ∃ (B : Hp) (ds : List PyData) (P : Rv → Prop), Sub B H ∧ DaL K B vs ds ∧ F ds P ∧ ∀ r v B' H', P r → New K B H B' H' r v → Q v H'
/-- the heap grows, the list at a may change -/
structure GrowBut (a : Addr) (B H B' H' : Hp) : Prop where
  same : Sub B B'
  up : ∀ b o, b ≠ a → H b = some o → NT o → H' b = some o
  sub : Sub B' H'
  grow : ∀ b, b ≠ a → B b = none → B' b = none ∨ H b = none
  own : B' a = none
  live : ∀ b, H' b = none → H b = none
/-- a value handed on, the list at a being the callee's -/
def NewV (K : PySem.W.Frag) (H B' H' : Hp) (a : Addr) : Rv → V → Prop
  | .d x, v => Da K B' v x
  | .c _, _ => False
  | .f xs, v => ∃ b vs, v = .ref b ∧ H b = none ∧ H' b = some (.lst vs) ∧ B' b = none ∧ DaL K B' vs xs ∧ b ≠ a
def SpM (K : PySem.W.Frag) (F : FM) : Sp := fun vs H Q _ => ∃ (B : Hp) (a : Addr) (v0 vr : List V) (xs ds : List PyData) (P : Rv → List PyData → Prop), vs = .ref a :: vr ∧ Sub B H ∧ H a = some (.lst v0) ∧ B a = none ∧ DaL K B v0 xs ∧ DaL K B vr ds ∧ F xs ds P ∧
  ∀ r v xs' v1 B' H', P r xs' → GrowBut a B H B' H' → H' a = some (.lst v1) → DaL K B' v1 xs' → NewV K H B' H' a r v → Q v H'
/-- the names at a def's entry -/
def startS (N : List Str) (ds : List PyData) : AS := ds.map Sl.d ++ List.replicate (N.length - ds.length) Sl.no
def startM (N : List Str) (xs ds : List PyData) : AS := Sl.m true xs :: (ds.map Sl.d ++ List.replicate (N.length - (ds.length + 1)) Sl.no)
section
variable {K : PySem.W.Frag} {B H : Hp}
theorem start_get {vs : List V} {N : List Str} {i : Nat} {v : V} (h : vs[i]? = some v) : (L2.start N vs)[i]? = some (some v) := by
  unfold L2.start
  have lt := (List.getElem?_eq_some_iff.mp h).1
  rw [List.getElem?_append_left (by rw [List.length_map]; exact lt), List.getElem?_map, h]
  rfl
theorem startS_get {ds : List PyData} {N : List Str} {i : Nat} {x : Sl} (h : (startS N ds)[i]? = some x) : (∃ d, x = .d d ∧ ds[i]? = some d) ∨ x = .no := by
  unfold startS at h
  by_cases lt : i < ds.length
  · rw [List.getElem?_append_left (by rw [List.length_map]; exact lt), List.getElem?_map, List.getElem?_eq_getElem lt] at h
    left
    exact ⟨ds[i], (Option.some.inj h).symm, List.getElem?_eq_getElem lt⟩
  · rw [List.getElem?_append_right (by rw [List.length_map]; omega), List.getElem?_replicate] at h
    split at h
    · right; exact (Option.some.inj h).symm
    · cases h
theorem rel_startS {vs : List V} {ds : List PyData} {N : List Str} (e : Sub B H) (l : DaL K B vs ds) : Rel K B H (L2.start N vs) (startS N ds) := by
  have no_m : ∀ {i : Nat} {p : Bool} {xs : List PyData}, (startS N ds)[i]? ≠ some (Sl.m p xs) := by
    intro i p xs h
    rcases startS_get h with ⟨d, z, _⟩ | z <;> cases z
  refine ⟨?_, e, fun i x h => ?_, fun i p xs h => absurd h no_m, fun i j p q xs ys a h => absurd h no_m⟩
  · unfold L2.start startS
    rw [List.length_append, List.length_append, List.length_map, List.length_map, List.length_replicate, List.length_replicate, l.length]
  · rcases startS_get h with ⟨d, z, hd⟩ | z
    · cases z
      obtain ⟨v, e1, e2⟩ := l.get hd
      exact ⟨v, start_get e1, e2⟩
    · cases z
theorem startM_get {xs ds : List PyData} {N : List Str} {i : Nat} {x : Sl} (h : (startM N xs ds)[i + 1]? = some x) : (∃ d, x = .d d ∧ ds[i]? = some d) ∨ x = .no := by
  unfold startM at h
  rw [List.getElem?_cons_succ] at h
  by_cases lt : i < ds.length
  · rw [List.getElem?_append_left (by rw [List.length_map]; exact lt), List.getElem?_map, List.getElem?_eq_getElem lt] at h
    left
    exact ⟨ds[i], (Option.some.inj h).symm, List.getElem?_eq_getElem lt⟩
  · rw [List.getElem?_append_right (by rw [List.length_map]; omega), List.getElem?_replicate] at h
    split at h
    · right; exact (Option.some.inj h).symm
    · cases h
theorem startM_m {xs ds ys : List PyData} {N : List Str} {i : Nat} {p : Bool} (h : (startM N xs ds)[i]? = some (Sl.m p ys)) : i = 0 ∧ p = true ∧ ys = xs := by
  cases i with
  | zero =>
    have h : some (Sl.m true xs) = some (Sl.m p ys) := h
    cases h
    exact ⟨rfl, rfl, rfl⟩
  | succ i => rcases startM_get h with ⟨d, z, _⟩ | z <;> cases z
theorem rel_startM {a : Addr} {v0 vr : List V} {xs ds : List PyData} {N : List Str} (e : Sub B H) (ha : H a = some (.lst v0)) (hb : B a = none) (l0 : DaL K B v0 xs) (l : DaL K B vr ds) (few : ds.length < N.length) : Rel K B H (L2.start N (.ref a :: vr)) (startM N xs ds) := by
  refine ⟨?_, e, fun i x h => ?_, fun i p ys h => ?_, fun i j p q ys zs b h1 h2 _ _ => ?_⟩
  · unfold L2.start startM
    simp only [List.length_append, List.length_map, List.length_replicate, List.length_cons, l.length]
    omega
  · cases i with
    | zero =>
      have h : some (Sl.m true xs) = some (Sl.d x) := h
      cases h
    | succ i =>
      rcases startM_get h with ⟨d, z, hd⟩ | z
      · cases z
        obtain ⟨v, e1, e2⟩ := l.get hd
        exact ⟨v, start_get (by rw [List.getElem?_cons_succ]; exact e1), e2⟩
      · cases z
  · obtain ⟨rfl, rfl, rfl⟩ := startM_m h
    exact ⟨a, v0, start_get rfl, ha, hb, l0⟩
  · obtain ⟨rfl, _⟩ := startM_m h1
    obtain ⟨rfl, _⟩ := startM_m h2
    rfl
end
section
variable {P : Program} {w : World} {K : PySem.W.Frag} {mg : Str → Option Value} {base : Heap} {k : Nat} {f : Addr} {fd : FuncData} {ps N : List Str} {x qual : Str} {st : Stmt} {t : ATS}
/-- a def of data: its body keeps its promise -/
theorem FnG.dataL {F : FP} (G : Fun K x qual st f fd) (S : FnScope N ps (defScope st)) (len : ∀ ds P, F ds P → ds.length = ps.length)
    (der : ∀ (cdv : Value) (A : Around) (outer : List Env) (s : Shared) (H : Hp) (E : XK), fd.code = cdv → RoomG k (A.deeper (envOfC qual (defScope st) s.heap.objs.size f cdv)) → ASs (cxOf CX0 P w K mg base N qual (defScope st) f cdv A outer s H E).nox (defBody st) t)
    (ok : ∀ ds P, F ds P → t { nx := fun _ => P (.d .none), rt := fun r _ => P r } (startS N ds)) : FnG P w K mg base CX0 (k + 1) f fd ps (SpP K F) := by
  refine FnG.mk' G S (fun vs H Q E ⟨B, ds, P, _, l, h, _⟩ => l.length.trans (len ds P h)) ?_
  rintro cdv A outer s H vs Q E hcd room ⟨B, ds, P', sub, l, h, q⟩
  refine ⟨_, PSs.nox (der cdv A outer s H E hcd room), B, startS N ds, _, rel_startS sub l, ok ds P' h, ?_⟩
  have no_cel : ∀ a, ¬ Cel (L2.start N vs) (startS N ds) a := by
    rintro a ⟨i, p, xs, e, _⟩
    rcases startS_get e with ⟨d, z, _⟩ | z <;> cases z
  have grow : ∀ {B' H' : Hp} {σ' : L2.St} {s' : AS}, Go K B H (L2.start N vs) (startS N ds) B' H' σ' s' → Grow B H B' H' := fun g =>
    ⟨g.same, ⟨fun a o e nt => (g.frame a o e nt).elim (fun c => absurd c (no_cel a)) id, g.live, sub.t1, g.rel.sub.t1⟩, g.rel.sub, fun a n => by
      rcases g.grow a n with c | c | c
      · left; exact c
      · right; exact c
      · exact absurd c (no_cel a)⟩
  refine ⟨fun s' σ' B' H' p g => q _ _ _ _ p ⟨grow g, .non⟩, fun r v s' σ' B' H' p g is => ?_, fun _ _ _ _ p _ => p.elim, fun _ _ _ _ p _ => p.elim⟩
  match r, is with
  | .d x, is => exact q _ _ _ _ p ⟨grow g, is⟩
  | .f xs, ⟨a, ws, e1, e2, e3, e4, e5, _⟩ => exact q _ _ _ _ p ⟨grow g, a, ws, e1, e2.resolve_right (no_cel a), e3, e4, e5⟩
theorem FnG.data {F : FP} (G : Fun K x qual st f fd) (S : FnScope N ps (defScope st)) (len : ∀ ds P, F ds P → ds.length = ps.length)
    (der : ∀ (cdv : Value) (A : Around) (outer : List Env) (s : Shared) (H : Hp) (E : XK), RoomG k (A.deeper (envOfC qual (defScope st) s.heap.objs.size f cdv)) → ASs (cxOf CX0 P w K mg base N qual (defScope st) f cdv A outer s H E).nox (defBody st) t)
    (ok : ∀ ds P, F ds P → t { nx := fun _ => P (.d .none), rt := fun r _ => P r } (startS N ds)) : FnG P w K mg base CX0 (k + 1) f fd ps (SpP K F) := .dataL G S len (fun cdv A outer s H E _ room => der cdv A outer s H E room) ok
/-- a def that changes the list that it is handed first -/
theorem FnG.dataML {F : FM} (G : Fun K x qual st f fd) (S : FnScope N ps (defScope st)) (len : ∀ xs ds P, F xs ds P → ds.length + 1 = ps.length)
    (der : ∀ (cdv : Value) (A : Around) (outer : List Env) (s : Shared) (H : Hp) (E : XK), fd.code = cdv → RoomG k (A.deeper (envOfC qual (defScope st) s.heap.objs.size f cdv)) → ASs (cxOf CX0 P w K mg base N qual (defScope st) f cdv A outer s H E).nox (defBody st) t)
    (ok : ∀ xs ds P, F xs ds P → t { nx := fun s => ∃ ys, s[0]? = some (Sl.m true ys) ∧ P (.d .none) ys, rt := fun r s => ∃ ys, s[0]? = some (Sl.m true ys) ∧ P r ys } (startM N xs ds)) : FnG P w K mg base CX0 (k + 1) f fd ps (SpM K F) := by
  refine FnG.mk' G S (fun vs H Q E ⟨B, a, v0, vr, xs, ds, P, e, _, _, _, _, l, h, _⟩ => ?_) ?_
  · rw [e, List.length_cons, l.length]
    exact len xs ds P h
  rintro cdv A outer s H vs Q E hcd room ⟨B, a, v0, vr, xs, ds, P', rfl, sub, ha, hb, l0, l, h, q⟩
  have hN : ps.length ≤ N.length := by
    have := congrArg List.length S.pre
    rw [List.length_take] at this
    omega
  have few : ds.length < N.length := by
    have := len xs ds P' h
    omega
  refine ⟨_, PSs.nox (der cdv A outer s H E hcd room), B, startM N xs ds, _, rel_startM sub ha hb l0 l few, ok xs ds P' h, ?_⟩
  have the_cel : ∀ b, Cel (L2.start N (.ref a :: vr)) (startM N xs ds) b → b = a := by
    rintro b ⟨i, p, ys, e, w⟩
    obtain ⟨rfl, _⟩ := startM_m e
    have z : (L2.start N (.ref a :: vr))[0]? = some (some (V.ref a)) := start_get rfl
    rw [z] at w
    cases w
    rfl
  have fin : ∀ {B' H' : Hp} {σ' : L2.St} {s' : AS} {ys : List PyData}, Go K B H (L2.start N (.ref a :: vr)) (startM N xs ds) B' H' σ' s' → s'[0]? = some (Sl.m true ys) → GrowBut a B H B' H' ∧ ∃ v1, H' a = some (.lst v1) ∧ DaL K B' v1 ys ∧ Cel σ' s' a := by
    intro B' H' σ' s' ys g e
    obtain ⟨e1, _⟩ := g.pin 0 ys e
    have z : (L2.start N (.ref a :: vr))[0]? = some (some (V.ref a)) := start_get rfl
    rw [z] at e1
    obtain ⟨b, v1, w1, w2, w3, w4⟩ := g.rel.own 0 true ys e
    rw [e1] at w1
    cases w1
    refine ⟨⟨g.same, fun b o nb h nt => (g.frame b o h nt).elim (fun c => absurd (the_cel b c) nb) id, g.rel.sub, fun b nb n => ?_, w3, g.live⟩, v1, w2, w4, ⟨0, true, ys, e, e1⟩⟩
    rcases g.grow b n with c | c | c
    · left; exact c
    · right; exact c
    · exact absurd (the_cel b c) nb
  refine ⟨fun s' σ' B' H' ⟨ys, e, p⟩ g => ?_, fun r v s' σ' B' H' ⟨ys, e, p⟩ g is => ?_, fun _ _ _ _ p _ => p.elim, fun _ _ _ _ p _ => p.elim⟩
  · obtain ⟨gb, v1, h1, h2, _⟩ := fin g e
    exact q (.d .none) .non _ _ _ _ p gb h1 h2 Da.non
  · obtain ⟨gb, v1, h1, h2, c⟩ := fin g e
    refine q r v _ _ _ _ p gb h1 h2 ?_
    match r, is with
    | .d x, is => exact is
    | .f zs, ⟨b, ws, f1, f2, f3, f4, f5, f6⟩ => exact ⟨b, ws, f1, f2.resolve_right fun z => f6 (the_cel b z ▸ c), f3, f4, f5, fun z => f6 (z ▸ c)⟩
theorem FnG.dataM {F : FM} (G : Fun K x qual st f fd) (S : FnScope N ps (defScope st)) (len : ∀ xs ds P, F xs ds P → ds.length + 1 = ps.length)
    (der : ∀ (cdv : Value) (A : Around) (outer : List Env) (s : Shared) (H : Hp) (E : XK), RoomG k (A.deeper (envOfC qual (defScope st) s.heap.objs.size f cdv)) → ASs (cxOf CX0 P w K mg base N qual (defScope st) f cdv A outer s H E).nox (defBody st) t)
    (ok : ∀ xs ds P, F xs ds P → t { nx := fun s => ∃ ys, s[0]? = some (Sl.m true ys) ∧ P (.d .none) ys, rt := fun r s => ∃ ys, s[0]? = some (Sl.m true ys) ∧ P r ys } (startM N xs ds)) : FnG P w K mg base CX0 (k + 1) f fd ps (SpM K F) := .dataML G S len (fun cdv A outer s H E _ room => der cdv A outer s H E room) ok
end
/-! calls -/
def xCall (F : FP) (td : DT) : AT := fun s Q => td s fun ds s1 => F ds fun r => Q r s1
/-- the keywords' values in the parameters' order -/
def perm {α : Type} (is : List Nat) (l : List α) : List α := is.filterMap (l[·]?)
def xCallM (F : FM) (t : AT) (td : DT) : AT := fun s Q => t s fun r0 s1 => td s1 fun ds s2 => match r0 with
  | .f xs => F xs ds fun r _ => Q r s2
  | .c j => match s2[j]? with
    | some (.m p xs) => F xs ds fun r ys => Q r (s2.set j (.m p ys))
    | _ => False
  | .d _ => False
section
variable {X : Cx} {k : Nat} {f : Addr} {fd : FuncData} {ps ks : List Str} {x : Str} {p pos : Pos} {e : Expr} {es : List Expr} {kws : List Keyword} {t : AT} {td : DT}
theorem passG {X : Cx} {E : XK} : Passes CX0 X E := fun _ _ _ _ _ _ _ h => h.elim
theorem callP {F : FP} {σ : L2.St} {H : Hp} {φ : VK} {E : XK} {B : Hp} {s s1 : AS} {B1 H1 : Hp} {ds : List PyData} {vs : List V} {Q : Rv → AS → Prop} (g : GoE X.K B H σ s B1 H1 s1) (l : DaL X.K B1 vs ds) (q : F ds fun r => Q r s1) (k : ∀ r v s' B' H', Q r s' → GoE X.K B H σ s B' H' s' → Is X.K H B' H' σ s' r v → φ v H') : SpP X.K F vs H1 φ E := by
  refine ⟨B1, ds, _, g.rel.sub, l, q, ?_⟩
  intro r v B' H' q nw
  exact k r v s1 B' H' q (g.trans (nw.1.go g.rel)) (Is.back g.live nw.is)
theorem ae_call {F : FP} (G : FnG X.prog X.w X.K X.mg X.base CX0 k f fd ps (SpP X.K F)) (hr : RoomG k X.A) (hg : Gl X x) (hm : X.mg x = some (.ref f)) (hk : PySem.W.keepIn X.K (.ref f) = true) (hb : L2.Binds X.K fd ps []) (ha : AD X (e :: es) td) (hdb : (x == ("__debug__" : Str)) = false := by decide)
    (st : starEach (e :: es) X.env = (false, eval e X.env) :: starEach es X.env := by rfl) (pl : (backTo pos (starEach es X.env)).any (·.1) = false := by rfl) : AE X (.Call (.Name x p) (e :: es) [] pos) (xCall F td) := by
  refine PEimp (pe_callG (E := fun _ _ _ => False) G hr hg hm hk hb passG ha hdb st pl) ?_
  rintro σ H φ ⟨B, s, Q, R, h, k⟩
  exact ⟨B, s, _, R, h, fun ds vs s1 B1 H1 q g l => callP g l q k⟩
theorem DaL.perm {K : PySem.W.Frag} {B : Hp} {vs : List V} {ds : List PyData} (l : DaL K B vs ds) : ∀ is : List Nat, DaL K B (perm is vs) (perm is ds)
  | [] => .nil
  | i :: is => by
    unfold DL.perm
    rw [List.filterMap_cons, List.filterMap_cons]
    rcases e : ds[i]? with _ | d
    · have : vs[i]? = none := by
        rw [List.getElem?_eq_none_iff] at e ⊢
        rw [l.length]
        exact e
      rw [this]
      exact DaL.perm l is
    · obtain ⟨v, e1, e2⟩ := l.get e
      rw [e1]
      exact .cons e2 (DaL.perm l is)
/-- keywords' values as data -/
def AK (X : Cx) (kws : List Keyword) (t : DT) : Prop := PK X kws (LiftD X.K t)
theorem PKimp {ta ta' : TA} (h : PK X kws ta) (k : ∀ σ H Q, ta' σ H Q → ta σ H Q) : PK X kws ta' := ⟨fun pos pins s σ H Q I w => h.run pos pins s σ H Q I (k σ H Q w)⟩
theorem ak_nil : AK X [] dNil := by
  refine PKimp pk_nil ?_
  rintro σ H φ ⟨B, s, Q, R, h, k⟩
  exact k _ _ _ _ _ h (GoE.refl R) .nil
theorem ak_cons {nm : Option Str} {kpos : Pos} (ha : AE X e t) (hr : AK X kws td) : AK X (⟨nm, e, kpos⟩ :: kws) (dCons t td) := by
  refine PKimp (pk_cons ha hr) ?_
  rintro σ H φ ⟨B, s, Q, R, h, k⟩
  refine ⟨B, s, _, R, h, ?_⟩
  intro r v s1 B1 H1 q g is
  obtain ⟨B2, g2, d2⟩ := is.freeze R g
  refine ⟨B2, fz s1 r, _, g2.rel, q, ?_⟩
  intro ds vs s3 B3 H3 q3 g3 l3
  exact k _ _ _ _ _ q3 (g2.trans g3) (.cons (d2.up g3.same) l3)
/-- f(o, ..), o a list that f changes -/
theorem ae_callM {F : FM} (G : FnG X.prog X.w X.K X.mg X.base CX0 k f fd ps (SpM X.K F)) (hr : RoomG k X.A) (hg : Gl X x) (hm : X.mg x = some (.ref f)) (hk : PySem.W.keepIn X.K (.ref f) = true) (hb : L2.Binds X.K fd ps []) (h0 : AE X e t) (ha : AD X es td) (hdb : (x == ("__debug__" : Str)) = false := by decide)
    (st : starEach (e :: es) X.env = (false, eval e X.env) :: starEach es X.env := by rfl) (pl : (backTo pos (starEach es X.env)).any (·.1) = false := by rfl) : AE X (.Call (.Name x p) (e :: es) [] pos) (xCallM F t td) := by
  refine PEimp (pe_callG (E := fun _ _ _ => False) G hr hg hm hk hb passG (pa_cons h0 ha st) hdb st pl) ?_
  rintro σ H φ ⟨B, s, Q, R, h, k⟩
  refine ⟨B, s, _, R, h, ?_⟩
  intro r0 v0 s1 B1 H1 q g1 is1
  refine ⟨B1, s1, _, g1.rel, q, ?_⟩
  intro ds vr s2 B2 H2 q g2 l
  have g := g1.trans g2
  have is := is1.keep R g1 g2
  -- what a call leaves
  match r0, is, q with
  | .d _, _, q => exact q.elim
  | .f xs, ⟨a, v1, e1, e2, e3, e4, e5⟩, q =>
    subst e1
    refine ⟨B2, a, v1, vr, xs, ds, _, rfl, g.rel.sub, e3, e4, e5, l, q, ?_⟩
    intro r v ys v2 B3 H3 q3 gb ha hl nv
    have nc : ¬ Cel σ s2 a := g.nocell R e2
    have g3 : GoE X.K B H σ s B3 H3 s2 := by
      refine ⟨⟨⟨g.rel.len, gb.sub, fun i y e => ?_, fun i p zs e => ?_, g.rel.sep⟩, g.same.trans gb.same, fun b n => g.live b (gb.live b n), fun b n => ?_, fun b o e nt => ?_, g.cells, g.pin⟩, g.mkeep, g.dkeep, g.mdat⟩
      · obtain ⟨w, w1, w2⟩ := g.rel.dat i y e
        exact ⟨w, w1, w2.up gb.same⟩
      · obtain ⟨b, us, w1, w2, w3, w4⟩ := g.rel.own i p zs e
        have nb : b ≠ a := fun z => nc ⟨i, p, zs, e, z ▸ w1⟩
        refine ⟨b, us, w1, gb.up b _ nb w2 (fun _ => nofun), ?_, w4.up gb.same⟩
        rcases gb.grow b nb w3 with c | c
        · exact c
        · rw [w2] at c; cases c
      · rcases g.grow b n with z | z | z
        · by_cases nb : b = a
          · subst nb
            left
            exact gb.own
          · rcases gb.grow b nb z with c | c
            · left; exact c
            · right; left; exact g.live b c
        · right; left; exact z
        · right; right; exact z
      · have nb : b ≠ a := by
          rintro rfl
          rw [e2] at e
          cases e
        rcases g.frame b o e nt with z | z
        · left; exact z
        · right; exact gb.up b o nb z nt
    refine k r v s2 B3 H3 q3 g3 ?_
    match r, nv with
    | .d x, nv => exact nv
    | .f zs, ⟨b, us, f1, f2, f3, f4, f5, f6⟩ => exact ⟨b, us, f1, g.live b f2, f3, f4, f5⟩
  | .c j, is, q =>
    have q : (match s2[j]? with | some (.m p xs) => F xs ds fun r ys => Q r (s2.set j (.m p ys)) | _ => False) := q
    rcases es : s2[j]? with _ | (_ | y | ⟨p, xs⟩)
    · rw [es] at q; exact q.elim
    · rw [es] at q; exact q.elim
    · rw [es] at q; exact q.elim
    rw [es] at q
    obtain ⟨a, v1, e1, e2, e3, e4⟩ := g.rel.own j p xs es
    have ej := is.1
    rw [e1] at ej
    cases ej
    refine ⟨B2, a, v1, vr, xs, ds, _, rfl, g.rel.sub, e2, e3, e4, l, q, ?_⟩
    intro r v ys v2 B3 H3 q3 gb ha hl nv
    have cel : Cel σ s2 a := ⟨j, p, xs, es, e1⟩
    have same : ∀ {i : Nat} {q : Bool} {zs : List PyData}, (s2.set j (Sl.m p ys))[i]? = some (Sl.m q zs) → ∃ ws : List PyData, s2[i]? = some (Sl.m q ws) := by
      intro i q zs h
      rcases get_set h with ⟨rfl, z, _⟩ | ⟨n, z⟩
      · cases z
        exact ⟨xs, es⟩
      · exact ⟨zs, z⟩
    have g3 : GoE X.K B H σ s B3 H3 (s2.set j (.m p ys)) := by
      refine ⟨⟨⟨by rw [List.length_set]; exact g.rel.len, gb.sub, fun i y e => ?_, fun i q zs e => ?_, fun i i' q q' zs zs' b h1 h2 w1 w2 => ?_⟩, g.same.trans gb.same, fun b n => g.live b (gb.live b n), fun b n => ?_, fun b o e nt => ?_, fun b c => ?_, fun i zs e => ?_⟩, fun i q zs e => ?_, fun i y e => ?_, fun i q' zs e => ?_⟩
      · rcases get_set e with ⟨rfl, z, _⟩ | ⟨n, z⟩
        · cases z
        · obtain ⟨w, w1, w2⟩ := g.rel.dat i y z
          exact ⟨w, w1, w2.up gb.same⟩
      · rcases get_set e with ⟨rfl, z, _⟩ | ⟨n, z⟩
        · cases z
          exact ⟨a, v2, e1, ha, gb.own, hl⟩
        · obtain ⟨b, us, w1, w2, w3, w4⟩ := g.rel.own i q zs z
          have nb : b ≠ a := by
            rintro rfl
            exact n (g.rel.sep i j q p zs xs b z es w1 e1)
          refine ⟨b, us, w1, gb.up b _ nb w2 (fun _ => nofun), ?_, w4.up gb.same⟩
          rcases gb.grow b nb w3 with c | c
          · exact c
          · rw [w2] at c; cases c
      · obtain ⟨_, z1⟩ := same h1
        obtain ⟨_, z2⟩ := same h2
        exact g.rel.sep i i' q q' _ _ b z1 z2 w1 w2
      · rcases g.grow b n with z | z | z
        · by_cases nb : b = a
          · subst nb
            left
            exact gb.own
          · rcases gb.grow b nb z with c | c
            · left; exact c
            · right; left; exact g.live b c
        · right; left; exact z
        · right; right; exact z
      · by_cases nb : b = a
        · subst nb
          rcases g.cells b cel with z | z
          · rw [e] at z; cases z
          · left; exact z
        · rcases g.frame b o e nt with z | z
          · left; exact z
          · right; exact gb.up b o nb z nt
      · obtain ⟨i, q, zs, e, w⟩ := c
        obtain ⟨_, z⟩ := same e
        exact g.cells b ⟨i, q, _, z, w⟩
      · obtain ⟨_, z⟩ := same e
        exact g.pin i _ z
      · obtain ⟨_, z⟩ := same e
        exact g.mkeep i q _ z
      · have z := g.dkeep i y e
        have n : i ≠ j := by
          rintro rfl
          rw [es] at z
          cases z
        rw [List.getElem?_set_ne (Ne.symm n)]
        exact z
      · by_cases n : i = j
        · subst n
          rw [List.getElem?_set_self ((List.getElem?_eq_some_iff.mp es).1)]
          rcases g.mdat i q' zs e with ⟨ws, z⟩ | ⟨y, z⟩
          · rw [es] at z
            cases z
            left
            exact ⟨ys, rfl⟩
          · rw [es] at z
            cases z
        · rw [List.getElem?_set_ne (Ne.symm n)]
          exact g.mdat i q' zs e
    refine k r v _ B3 H3 q3 g3 ?_
    match r, nv with
    | .d x, nv => exact nv
    | .f zs, ⟨b, us, f1, f2, f3, f4, f5, f6⟩ => exact ⟨b, us, f1, g.live b f2, f3, f4, f5⟩
end
end DL

namespace DL
open PySem PySem.Spec PyProof.Rows L2
variable [Tb]
/-! ### short forms for derivations -/
def xChain (t u v : AT) (f g : PyData → PyData → (Rv → Prop) → Prop) : AT := fun s Q => t s fun r1 s1 => u s1 fun r2 s2 => f (rd s2 r1) (rd s2 r2) fun z => match z with
  | .d (.bool true) => v s2 fun r3 s3 => g (rd s3 r2) (rd s3 r3) fun z => Q z s3
  | .d (.bool false) => Q (.d (.bool false)) s2
  | _ => False
section
variable {X : Cx} {e a b c : Expr} {t u v : AT} {pos : Pos} {x : Str} {d : PyData}
theorem av (i : Nat) (hN : X.N[i]? = some x := by rfl) (hv : Vis X.env.scope x := by first | exact Or.inl rfl | exact Or.inr (Or.inl rfl) | exact Or.inr (Or.inr rfl)) (hd : (x == ("__debug__" : Str)) = false := by decide) (hcd : (x == ("__classdict__" : Str)) = false := by decide) : AE X (.Name x pos) (xVar i) := ae_var hN hv hd hcd
end
/-- a def of data, as it stands among the module's names -/
def HasP (P : Program) (w : World) (K : PySem.W.Frag) (mg : Str → Option Value) (base : Heap) (k : Nat) (x : Str) (ps : List Str) (F : FP) : Prop :=
  ∃ f fd, FnG P w K mg base CX0 k f fd ps (SpP K F) ∧ mg x = some (.ref f) ∧ PySem.W.keepIn K (.ref f) = true ∧ L2.Binds K fd ps [] ∧ ∃ qual st, Fun K x qual st f fd
def HasM (P : Program) (w : World) (K : PySem.W.Frag) (mg : Str → Option Value) (base : Heap) (k : Nat) (x : Str) (ps : List Str) (F : FM) : Prop :=
  ∃ f fd, FnG P w K mg base CX0 k f fd ps (SpM K F) ∧ mg x = some (.ref f) ∧ PySem.W.keepIn K (.ref f) = true ∧ L2.Binds K fd ps [] ∧ ∃ qual st, Fun K x qual st f fd
section
variable {X : Cx} {k : Nat} {x : Str} {ps : List Str} {F : FP} {FM' : FM} {p pos : Pos} {e : Expr} {es : List Expr} {t : AT} {td : DT} {d : PyData}
theorem ac (h : HasP X.prog X.w X.K X.mg X.base k x ps F) (hr : RoomG k X.A) (ha : AD X (e :: es) td) (hg : Gl X x := by rfl) (hdb : (x == ("__debug__" : Str)) = false := by decide)
    (st : starEach (e :: es) X.env = (false, eval e X.env) :: starEach es X.env := by rfl) (pl : (backTo pos (starEach es X.env)).any (·.1) = false := by rfl) : AE X (.Call (.Name x p) (e :: es) [] pos) (xCall F td) := by
  obtain ⟨f, fd, G, h1, h2, h3, _⟩ := h
  exact ae_call G hr hg h1 h2 h3 ha hdb st pl
theorem acM (h : HasM X.prog X.w X.K X.mg X.base k x ps FM') (hr : RoomG k X.A) (h0 : AE X e t) (ha : AD X es td) (hg : Gl X x := by rfl) (hdb : (x == ("__debug__" : Str)) = false := by decide)
    (st : starEach (e :: es) X.env = (false, eval e X.env) :: starEach es X.env := by rfl) (pl : (backTo pos (starEach es X.env)).any (·.1) = false := by rfl) : AE X (.Call (.Name x p) (e :: es) [] pos) (xCallM FM' t td) := by
  obtain ⟨f, fd, G, h1, h2, h3, _⟩ := h
  exact ae_callM G hr hg h1 h2 h3 h0 ha hdb st pl
end
/-- the facts of a def that the top leaves -/
def DefK (K : PySem.W.Frag) (x : Str) (st : Stmt) : Prop := ∃ (f : Addr) (od an : Option Addr) (sl : Array (Option Value)) (oc kV dc pm cd ct : Value), PySem.W.nsIn K mainGlobals x = some (some (.ref f)) ∧ K.lookup f = some ⟨oc, od, .func (PySem.W.fnOf x x (defArgs st) (defBody st) (defScope st) .none kV dc pm an cd ct), sl⟩ ∧ PySem.W.codeIn K cd x = true ∧ PySem.W.keepIn K (.ref f) = true
section
variable {P : Program} {w : World} {K : PySem.W.Frag} {h : Heap} {mg : Str → Option Value} {base : Heap} {x : Str} {st : Stmt} {ps N : List Str} {k : Nat}
/-- how all parameters bind, by position: us matched one by one -/
abbrev BindsAll (x : Str) (st : Stmt) (ps : List Str) : Prop := ∀ (kV doc pm : Value) (an : Option Addr) (cdv ct : Value) (us : List Value), us.length = ps.length → bindArgs (PySem.W.fnOf x x (defArgs st) (defBody st) (defScope st) .none kV doc pm an cdv ct) ⟨us, []⟩ = pure (ps.zip us)
theorem HasP.of {F : FP} {t : ATS} (D : DefK K x st) (X : K.In h) (G : h.Ns mainGlobals mg) (b : BindsAll x st ps) (S : FnScope N ps (defScope st)) (len : ∀ ds P, F ds P → ds.length = ps.length)
    (der : ∀ (f : Addr) (cdv : Value) (A : Around) (outer : List Env) (s : Shared) (H : Hp) (E : XK), RoomG k (A.deeper (envOfC x (defScope st) s.heap.objs.size f cdv)) → ASs (cxOf CX0 P w K mg base N x (defScope st) f cdv A outer s H E).nox (defBody st) t)
    (ok : ∀ ds P, F ds P → t { nx := fun _ => P (.d .none), rt := fun r _ => P r } (startS N ds)) : HasP P w K mg base (k + 1) x ps F := by
  obtain ⟨f, od, an, sl, oc, kV, dc, pm, cd, ct, h1, h2, h3, h4⟩ := D
  have FF := fun_mk (st := st) h2 h3 h4
  exact ⟨f, _, FnG.data FF S len (der f) ok, PySem.W.mg_of X G h1, h4, FF.binds b, x, st, FF⟩
theorem HasM.of {F : FM} {t : ATS} (D : DefK K x st) (X : K.In h) (G : h.Ns mainGlobals mg) (b : BindsAll x st ps) (S : FnScope N ps (defScope st)) (len : ∀ xs ds P, F xs ds P → ds.length + 1 = ps.length)
    (der : ∀ (f : Addr) (cdv : Value) (A : Around) (outer : List Env) (s : Shared) (H : Hp) (E : XK), RoomG k (A.deeper (envOfC x (defScope st) s.heap.objs.size f cdv)) → ASs (cxOf CX0 P w K mg base N x (defScope st) f cdv A outer s H E).nox (defBody st) t)
    (ok : ∀ xs ds P, F xs ds P → t { nx := fun s => ∃ ys, s[0]? = some (Sl.m true ys) ∧ P (.d .none) ys, rt := fun r s => ∃ ys, s[0]? = some (Sl.m true ys) ∧ P r ys } (startM N xs ds)) : HasM P w K mg base (k + 1) x ps F := by
  obtain ⟨f, od, an, sl, oc, kV, dc, pm, cd, ct, h1, h2, h3, h4⟩ := D
  have FF := fun_mk (st := st) h2 h3 h4
  exact ⟨f, _, FnG.dataM FF S len (der f) ok, PySem.W.mg_of X G h1, h4, FF.binds b, x, st, FF⟩
end
end DL

namespace DL
open PySem PySem.Spec PyProof.Rows L2
variable [Tb]
/-! ### more short forms -/
section
variable {X : Cx} {e a b c : Expr} {t u v : AT} {pos p : Pos} {x : Str} {d : PyData}
/-- f(k = e, ..): the keywords' values in the parameters' order -/
def xCallL (F : FP) (is : List Nat) (td : DT) : AT := fun s Q => td s fun ds s1 => ds.length = is.length ∧ F (perm is ds) fun r => Q r s1
end
end DL

namespace DL
open PySem PySem.Spec PyProof.Rows L2
variable [Tb]
/-! ### enumerate over a tuple -/
end DL

namespace DL
open PySem PySem.Spec PyProof.Rows L2
variable [Tb]
section
variable {prog : Program} {w : World} {A : Around} {E : Value → Shared → Prop} {s : Shared}
end
end DL

namespace DL
open PySem PySem.Spec PyProof.Rows L2
variable [Tb]
end DL

namespace DL
open PySem PySem.Spec PyProof.Rows L2
variable [Tb]
/-! ### a lambda that is handed to a def -/
/-- nothing but tables changes, and these stay right -/
structure Step (H H1 : Hp) : Prop where
  keep : ∀ a o, H a = some o → NT o → H1 a = some o
  live : ∀ a, H1 a = none → H a = none
  tab : ∀ P, TabN H P → TabN H1 P
theorem Step.refl (H : Hp) : Step H H := ⟨fun _ _ e _ => e, fun _ n => n, fun _ t => t⟩
section
variable {K : PySem.W.Frag} {B H H1 : Hp} {σ : L2.St} {s : AS}
theorem Step.sub (t : Step H H1) (e : Sub B H) : Sub B H1 := ⟨fun a o h n => t.keep a o (e.keep a o h n) n, fun a n => e.live a (t.live a n), e.t0, fun P hP => t.tab P (e.t1 P hP)⟩
theorem Step.go (t : Step H H1) (R : Rel K B H σ s) : GoE K B H σ s B H1 s := by
  refine ⟨⟨⟨R.len, t.sub R.sub, R.dat, fun i p xs e => ?_, R.sep⟩, R.sub.left, t.live, fun a n => Or.inl n, fun a o e n => Or.inr (t.keep a o e n), fun a c => Or.inr c, fun i ys e => ⟨rfl, ys, e⟩⟩, fun i p xs e => ⟨xs, e⟩, fun i x e => e, fun i p xs e => Or.inl ⟨xs, e⟩⟩
  obtain ⟨a, vs, e1, e2, e3⟩ := R.own i p xs e
  exact ⟨a, vs, e1, t.keep a _ e2 (fun _ => nofun), e3⟩
end
/-- what a lambda is made of -/
structure LF where
  qual : Str
  params : Arguments
  body : Expr
  scope : Scope
  cl : List (Str × Addr)
  c : Addr
abbrev LF.fd (F : LF) (pm ctv : Value) : FuncData := PySem.W.kla_fn "<lambda>" F.qual F.params F.body F.scope F.cl pm (.ref F.c) ctv
/-- it stands at f -/
def LAt (h : Heap) (f : Addr) (F : LF) : Prop := ∃ pm ctv, h.get? f = some (PySem.W.kla_obj "<lambda>" F.qual F.params F.body F.scope F.cl pm F.c ctv)
/-- the table at P tells the code object at c -/
def Tells (H : Hp) (P : Addr) (pos : Pos) (c : Addr) : Prop := ∃ ps : Array Value, H P = some (.tbl ps) ∧ TriplesOk ps.toList ∧ codeAmong pos ps.toList = some (.ref c)
theorem among_more {pos : Pos} {cv : Value} (l m : List Value) (t : TriplesOk l) (h : codeAmong pos l = some cv) : codeAmong pos (l ++ m) = some cv := by
  fun_induction TriplesOk l with
  | case1 => simp [codeAmong] at h
  | case2 a t b u x rest ih =>
    simp only [List.cons_append, codeAmong] at h ⊢
    split at h
    · next q => rw [if_pos q]; exact h
    · next q => rw [if_neg q]; exact ih t h
  | case3 => exact t.elim
section
variable {X : Cx} {pins : List (Addr × Obj)} {σ : L2.St} {H : Hp} {s : Shared}
end
end DL

namespace DL
open PySem PySem.Spec PyProof.Rows L2
variable [Tb]
/-! ### the lambda's body -/
abbrev LF.nf (F : LF) : NdefX.NF := ⟨"<lambda>", F.qual, F.params, [], F.scope, F.cl, F.c⟩
section
variable {CX : CXT} {P : Program} {w : World} {K : PySem.W.Frag} {mg : Str → Option Value} {base : Heap} {N ps fr : List Str} {F : LF} {f : Addr} {A : Around} {outer : List Env} {s : Shared} {H : Hp} {E : XK} {us : List Value} {vs : List V} {ws : List (Option V)} {k : Nat} {te : TE} {Q : VK}
end
/-- what a call of the lambda asks: its argument and what it captured are data -/
def spL (K : PySem.W.Frag) (N : List Str) (wv : V) (tb : AT) (u : V) (H : Hp) (Q : VK) : Prop :=
  ∃ (B : Hp) (d c : PyData) (b : Bool), Sub B H ∧ Da K B u d ∧ Da K B wv c ∧ tb (startS N [d, c]) (fun r _ => r = .d (.bool b)) ∧ ∀ B' H', Grow B H B' H' → Q (.bl b) H'
def tCallL (K : PySem.W.Frag) (i : Nat) (f : Addr) (N : List Str) (wv : V) (tb : AT) (ta : TA) : TE := fun σ H Q => σ[i]? = some (some (.ref f)) ∧ ta σ H fun vs H1 => ∃ u, vs = [u] ∧ spL K N wv tb u H1 Q
theorem Go.grow_of {K : PySem.W.Frag} {B H B' H' : Hp} {σ σ' : L2.St} {s s' : AS} (g : Go K B H σ s B' H' σ' s') (e : Sub B H) (nc : ∀ a, ¬ Cel σ s a) : Grow B H B' H' :=
  ⟨g.same, ⟨fun a o h nt => (g.frame a o h nt).elim (fun c => absurd c (nc a)) id, g.live, e.t1, g.rel.sub.t1⟩, g.rel.sub, fun a n => by
    rcases g.grow a n with c | c | c
    · left; exact c
    · right; exact c
    · exact absurd c (nc a)⟩
/-- what a def that was handed the lambda knows at its entry -/
structure LKnow (Y : Cx) (f : Addr) (F : LF) (P : Addr) (lp : Pos) (y : Str) (wv : V) : Prop where
  at_ : LAt Y.s_0.heap f F
  fn : Y.H_0 f = none
  fr : f ∉ Y.fs
  ex : Y.ex = []
  tl : Tells Y.H_0 P lp F.c
  ts : P ∈ Tb.ts
  nm : Tb.nm P = F.qual
  cells : NdefX.CellsAt F.cl [y] [some wv] Y.s_0.heap Y.H_0
section
variable {Y : Cx} {f P : Addr} {F : LF} {lp : Pos} {y p1 : Str} {wv : V} {pins : List (Addr × Obj)} {σ : L2.St} {H : Hp} {s : Shared}
theorem LKnow.here (L : LKnow Y f F P lp y wv) (I : Inv Y pins σ H s) : LAt s.heap f F := by
  obtain ⟨pm, ctv, e⟩ := L.at_
  exact ⟨pm, ctv, I.base.keep f _ e L.fn L.fr (by rw [L.ex]; exact fun z => nomatch z)⟩
theorem LKnow.code (L : LKnow Y f F P lp y wv) (I : Inv Y pins σ H s) (t : TabN H P) : s.heap.CodeRec (.ref F.c) F.qual := by
  obtain ⟨ps, e1, e2, e3⟩ := L.tl
  obtain ⟨more, e4⟩ := I.base.tbls P ps e1
  obtain ⟨qs, e5, e6, e7⟩ := t
  rw [e4] at e5
  cases e5
  obtain ⟨c, e8, e9⟩ := e7 lp (.ref F.c) (by rw [Array.toList_append]; exact among_more _ _ e2 e3)
  cases e8
  rw [L.nm] at e9
  exact NdefX.codeO_at I.hok e9
theorem LKnow.cell (L : LKnow Y f F P lp y wv) (I : Inv Y pins σ H s) : NdefX.CellsAt F.cl [y] [some wv] s.heap H := by
  have nx : ∀ c, c ∉ Y.ex := by
    intro c
    rw [L.ex]
    exact fun z => nomatch z
  have kp : ∀ {c : Addr} {v : Option Value}, Y.H_0 c = none → Y.s_0.heap.IsCell c v → s.heap.IsCell c v := by
    rintro c v n ⟨o, ho, hd⟩
    obtain ⟨sl, q⟩ := I.base.any ho n (nx c)
    exact ⟨_, q, hd⟩
  refine ⟨L.cells.len, fun z c e => ?_, L.cells.inj, fun i z e => ?_⟩
  · obtain ⟨n, v, q⟩ := L.cells.all z c e
    refine ⟨?_, v, kp n q⟩
    obtain ⟨o, ho, _⟩ := q
    exact I.base.free c o ho n (nx c)
  · obtain ⟨c, hc, hv⟩ := L.cells.has i z e
    refine ⟨c, hc, fun v ev => ?_⟩
    obtain ⟨u, ru, q⟩ := hv v ev
    exact ⟨u, ru, kp (L.cells.all z c hc).1 q⟩
/-- the lambda's own words: one parameter, one captured name -/
structure LWords (Y : Cx) (f : Addr) (F : LF) (y p1 : Str) (k : Nat) (tb : AT) : Prop where
  sc : NdefX.NScope [p1, y] [p1] [y] F.scope
  bind : ∀ pm ctv u, bindArgs (F.fd pm ctv) ⟨[u], []⟩ = pure [(p1, u)]
  body : ∀ (A : Around) (outer : List Env) (s : Shared) (H : Hp) (E : XK), RoomG k (A.deeper (NdefX.envF F.nf f s.heap.objs.size)) → AE (NdefX.ncx CX0 Y.prog Y.w Y.K Y.mg Y.base [p1, y] F.nf f A outer s H E) F.body tb
end
end DL

namespace DL
open PySem PySem.Spec PyProof.Rows L2
variable [Tb]
/-! ### a search by halves with a test that was handed in -/
/-- names that hold data, or nothing known -/
inductive Sls (K : PySem.W.Frag) (B : Hp) : L2.St → AS → Prop
  | nil : Sls K B [] []
  | no {o : Option V} {σ : L2.St} {s : AS} : Sls K B σ s → Sls K B (o :: σ) (.no :: s)
  | d {v : V} {x : PyData} {σ : L2.St} {s : AS} : Da K B v x → Sls K B σ s → Sls K B (some v :: σ) (.d x :: s)
section
variable {K : PySem.W.Frag} {B H B' H' B2 H2 : Hp} {σ : L2.St} {s : AS}
theorem Sls.len : ∀ {σ : L2.St} {s : AS}, Sls K B σ s → σ.length = s.length
  | _, _, .nil => rfl
  | _, _, .no l => by rw [List.length_cons, List.length_cons, Sls.len l]
  | _, _, .d _ l => by rw [List.length_cons, List.length_cons, Sls.len l]
theorem Sls.noM : ∀ {σ : L2.St} {s : AS} {i : Nat} {p : Bool} {xs : List PyData}, Sls K B σ s → s[i]? ≠ some (Sl.m p xs)
  | _, _, _, _, _, .nil => by simp
  | _, _, 0, _, _, .no l => by simp
  | _, _, i + 1, _, _, .no l => by rw [List.getElem?_cons_succ]; exact Sls.noM l
  | _, _, 0, _, _, .d _ l => by simp
  | _, _, i + 1, _, _, .d _ l => by rw [List.getElem?_cons_succ]; exact Sls.noM l
theorem Sls.dat : ∀ {σ : L2.St} {s : AS} {i : Nat} {x : PyData}, Sls K B σ s → s[i]? = some (Sl.d x) → ∃ v, σ[i]? = some (some v) ∧ Da K B v x
  | _, _, _, _, .nil, h => by simp at h
  | _, _, 0, _, .no l, h => by simp at h
  | _, _, i + 1, _, .no l, h => by
    rw [List.getElem?_cons_succ] at h ⊢
    exact Sls.dat l h
  | _, _, 0, _, .d da l, h => by
    simp at h
    subst h
    exact ⟨_, rfl, da⟩
  | _, _, i + 1, _, .d _ l, h => by
    rw [List.getElem?_cons_succ] at h ⊢
    exact Sls.dat l h
theorem Sls.rel (l : Sls K B σ s) (e : Sub B H) : Rel K B H σ s := ⟨l.len, e, fun _ _ h => l.dat h, fun _ _ _ h => absurd h l.noM, fun _ _ _ _ _ _ _ h => absurd h l.noM⟩
theorem Sls.noc (l : Sls K B σ s) (a : Addr) : ¬ Cel σ s a := fun ⟨_, _, _, e, _⟩ => l.noM e
theorem Grow.trans (g : Grow B H B' H') (k : Grow B' H' B2 H2) : Grow B H B2 H2 := ⟨g.same.trans k.same, g.up.trans k.up, k.sub, fun a n => by
  rcases g.grow a n with c | c
  · rcases k.grow a c with d | d
    · left; exact d
    · right; exact g.up.live a d
  · right; exact c⟩
theorem Sls.up : ∀ {σ : L2.St} {s : AS}, Sub B B' → Sls K B σ s → Sls K B' σ s
  | _, _, _, .nil => .nil
  | _, _, e, .no l => .no (Sls.up e l)
  | _, _, e, .d da l => .d (da.up e) (Sls.up e l)
/-- a reading among such names -/
theorem Sls.e {t : AT} {φ : VK} {d : PyData} (l : Sls K B σ s) (e : Sub B H) (h : t s fun r _ => r = .d d) (nx : ∀ v B' H', Grow B H B' H' → Da K B' v d → φ v H') : Lift K t σ H φ :=
  ⟨B, s, _, l.rel e, h, fun r v s' B' H' q g is => by subst q; exact nx v B' H' (g.toGo.grow_of e l.noc) is⟩
theorem Sls.b {t : BT} {φ : Bool → Hp → Prop} {b : Bool} (l : Sls K B σ s) (e : Sub B H) (h : t s fun r _ => r = b) (nx : ∀ B' H', Grow B H B' H' → φ b H') : LiftB K t σ H φ :=
  ⟨B, s, _, l.rel e, h, fun r s' B' H' q g => by subst q; exact nx B' H' (g.toGo.grow_of e l.noc)⟩
theorem Sls.ds {t : DT} {φ : List V → Hp → Prop} {ds : List PyData} (l : Sls K B σ s) (e : Sub B H) (h : t s fun r _ => r = ds) (nx : ∀ vs B' H', Grow B H B' H' → DaL K B' vs ds → φ vs H') : LiftD K t σ H φ :=
  ⟨B, s, _, l.rel e, h, fun r vs s' B' H' q g da => by subst q; exact nx vs B' H' (g.toGo.grow_of e l.noc) da⟩
end
def tLead (K : PySem.W.Frag) (tc : TE) : TS :=
  tSeq (tPar 2 3 (LiftD K (dCons (xC (.int 0)) (dCons (x1 (xVar 0) oLen) dNil))))
    (tSeq (tWhile (LiftB K (bV (x2 (xVar 2) (xVar 3) oLt)))
      (tSeq (tAsg (Lift K (x2 (x2 (xVar 2) (xVar 3) oAdd) (xC (.int 2)) oDiv)) (gName 4))
        (tIfS (tB tc) (tAsg (Lift K (x2 (xVar 4) (xC (.int 1)) oAdd)) (gName 2)) (tAsg (Lift K (xVar 4)) (gName 3)))))
    (tRet (Lift K (xVar 2))))
abbrev tcLead (K : PySem.W.Frag) (f : Addr) (N : List Str) (wv : V) (tb : AT) : TE := tCallL K 1 f N wv tb (LiftD K (dCons (x2 (xVar 0) (xVar 4) oIx) dNil))
section
variable {K : PySem.W.Frag} {B H : Hp} {f : Addr} {v wv : V} {D c : PyData} {xs : List PyData} {n : Nat} {N : List Str} {tb : AT} {Q : VK} {n1 n2 n3 n4 n5 : Str}
end
end DL

namespace DL
open PySem PySem.Spec PyProof.Rows L2
variable [Tb]
/-! ### the def that makes a lambda -/
/-- what is known of the maker's code object -/
def LamK (K : PySem.W.Frag) (mg : Str → Option Value) (base : Heap) (x : Str) : Prop := ∀ (f : Addr) (oc : Value) (od : Option Addr) (fd : FuncData) (sl : Array (Option Value)), mg x = some (.ref f) → K.lookup f = some ⟨oc, od, .func fd, sl⟩ →
  ∃ c P, fd.code = .ref c ∧ LamX.TabB base mg c P ∧ P ∈ Tb.ts ∧ Tb.nm P = x ++ ".<locals>." ++ "<lambda>"
section
variable {P : Program} {w : World} {K : PySem.W.Frag} {h : Heap} {mg : Str → Option Value} {base : Heap} {x : Str} {st : Stmt} {ps N : List Str} {k : Nat}
end
abbrev nLead : List Str := ["rows", "holds", "low", "high", "middle"]
/-- the search's body, in the lambda's words -/
def LeadDer (P : Program) (w : World) (K : PySem.W.Frag) (mg : Str → Option Value) (base : Heap) (x : Str) (st : Stmt) : Prop :=
  ∀ (k : Nat) (g : Addr) (cdv : Value) (A : Around) (outer : List Env) (s : Shared) (H : Hp) (E : XK) (f : Addr) (F : LF) (Pt : Addr) (lp : Pos) (y p1 : Str) (wv : V) (tb : AT), RoomG (k + 1) (A.deeper (envOfC x (defScope st) s.heap.objs.size g cdv)) →
    LKnow (cxOf CX0 P w K mg base nLead x (defScope st) g cdv A outer s H E).nox f F Pt lp y wv → LWords (cxOf CX0 P w K mg base nLead x (defScope st) g cdv A outer s H E).nox f F y p1 k tb →
    PSs (cxOf CX0 P w K mg base nLead x (defScope st) g cdv A outer s H E).nox (defBody st) (tLead K (tcLead K f [p1, y] wv tb))
/-- the search as it stands among the module's names -/
def HasLead (P : Program) (w : World) (K : PySem.W.Frag) (mg : Str → Option Value) (base : Heap) (x : Str) : Prop :=
  ∃ (f : Addr) (fd : FuncData) (st : Stmt), Fun K x x st f fd ∧ FnScope nLead ["rows", "holds"] (defScope st) ∧ mg x = some (.ref f) ∧ PySem.W.keepIn K (.ref f) = true ∧ L2.Binds K fd ["rows", "holds"] [] ∧ LeadDer P w K mg base x st
theorem HasLead.of {P : Program} {w : World} {K : PySem.W.Frag} {h : Heap} {mg : Str → Option Value} {base : Heap} {x : Str} {st : Stmt} (D : DefK K x st) (X : K.In h) (G : h.Ns mainGlobals mg) (b : BindsAll x st ["rows", "holds"]) (S : FnScope nLead ["rows", "holds"] (defScope st)) (der : LeadDer P w K mg base x st) : HasLead P w K mg base x := by
  obtain ⟨f, od, an, sl, oc, kV, dc, pm, cd, ct, h1, h2, h3, h4⟩ := D
  have FF := fun_mk (st := st) h2 h3 h4
  exact ⟨f, _, st, FF, S, PySem.W.mg_of X G h1, h4, FF.binds b, der⟩
section
variable {X : Cx}
end
end DL

namespace DL
open PySem PySem.Spec PyProof.Rows L2
/-! ### a law's end with tables of code objects -/
/-- the script (or nothing) and empty tables at ts -/
def hpT (a : Addr) (vs : List Value) (ns : List Int) (own : Bool) (ts : List Addr) : Hp := fun b => if b ∈ ts then some (.tbl #[]) else if own = true ∧ b = a then some (.frz (scriptO vs) (.lst (ns.map V.int))) else none
section
variable {P : Program} {w : World} {K : PySem.W.Frag} {mg mb : Str → Option Value} {k : Nat} {fa a : Addr} {fd : FuncData} {x : Str} {sp : Sp} {s : Shared} {vs : List Value} {ns : List Int} {own : Bool} {cs : List (Addr × Addr)}
theorem hpT_tab {ts : List Addr} {b : Addr} (h : b ∈ ts) : hpT a vs ns own ts b = some (.tbl #[]) := if_pos h
theorem hpT_some {ts : List Addr} {b : Addr} {o : HO} (h : hpT a vs ns own ts b = some o) : (b ∈ ts ∧ o = .tbl #[]) ∨ (own = true ∧ b = a ∧ o = .frz (scriptO vs) (.lst (ns.map V.int))) := by
  unfold hpT at h
  split at h
  · next m => left; exact ⟨m, (Option.some.inj h).symm⟩
  · split at h
    · next m => right; exact ⟨m.1, m.2, (Option.some.inj h).symm⟩
    · cases h
abbrev emptyT : Obj := { cls := .none, data := .fields #[] }
theorem lawT_core (KX : K.In s.heap) (glob : s.heap.Ns mainGlobals mg) (hb : s.heap.Ns builtinsNs mb) (boot : ∀ y : Str, y ≠ "__name__" → mb y = bootBuiltins y) (lim : s.heap.NoLimit) (gens : s.gens = #[])
    (script : s.heap.get? a = some (scriptO vs)) (rv : Vals (ns.map V.int) vs) (few : ns.length ≤ sizeLine) (notT : own = true → K.lookup a = none) (hT : ∀ p ∈ cs, s.heap.get? p.2 = some emptyT) (nT : ∀ p ∈ cs, K.lookup p.2 = none) (C : ∀ p ∈ cs, PySem.W.CodeHd s.heap p.1 p.2)
    (bm : ∃ (bm : Addr) (ob : Obj), mg "__builtins__" = some (.ref bm) ∧ bm ≠ builtinsNs ∧ s.heap.get? bm = some ob ∧ ob.cls = .type "module" ∧ ob.dict = some builtinsNs ∧ ob.data = .plain)
    (F : ∀ base : Heap, K.In base → base.Ns mainGlobals mg → (∀ p ∈ cs, LamX.TabB base mg p.1 p.2) → FnG P w K mg base CX0 k fa fd [x] sp) (bind : ∀ (s : Shared) (u : Value), BindsTo s fd ⟨[u], []⟩ [(x, u)]) (room : Room k callerA)
    (hsp : sp [.ref a] (hpT a vs ns own (cs.map (·.2))) (fun v _ => v = .bl true) fun _ _ _ => False) :
    codeAny (model P w) callerA (.call (.ref fa) ⟨[.ref a], []⟩) (fun r s' => r = .ok (.ret (.bool true)) ∧ OldK s.heap s'.heap ∧ s'.os = s.os ∧ AllBare s'.gens) s := by
  generalize hts : cs.map (·.2) = ts at *
  generalize hH : hpT a vs ns own ts = H at *
  have inT : ∀ p ∈ cs, p.2 ∈ ts := fun p hp => by rw [← hts]; exact List.mem_map.mpr ⟨p, hp, rfl⟩
  have isT : ∀ b ∈ ts, s.heap.get? b = some emptyT := by
    intro b m
    rw [← hts] at m
    obtain ⟨p, hp, rfl⟩ := List.mem_map.mp m
    exact hT p hp
  have some_H : ∀ {b : Addr} {o : HO}, H b = some o → (b ∈ ts ∧ o = .tbl #[]) ∨ (own = true ∧ b = a ∧ o = .frz (scriptO vs) (.lst (ns.map V.int))) := fun e => hpT_some (by rw [hH]; exact e)
  have hide : ∀ {b : Addr} {o : Obj}, s.heap.get? b = some o → H b = none → (hidT s.heap H).get? b = some o := fun e n => hidT_get e n
  -- what is neither a list nor an empty table is not tracked
  have free : ∀ {b : Addr} {o : Obj}, s.heap.get? b = some o → (∀ us n, o.data ≠ .seq us n) → o.data ≠ .fields #[] → H b = none := by
    intro b o e n1 n2
    rcases q : H b with _ | u
    · rfl
    · exfalso
      rcases some_H q with ⟨m, _⟩ | ⟨_, rfl, _⟩
      · have z := isT b m
        rw [e] at z
        cases z
        exact n2 rfl
      · rw [script] at e
        cases e
        exact n1 _ _ rfl
  have space : ∀ {b : Addr} {m : Str → Option Value}, s.heap.Ns b m → (hidT s.heap H).Ns b m := by
    rintro b m ⟨o, es, ep, e, d, r⟩
    exact ⟨o, es, ep, hide e (free e (fun _ _ z => by rw [d] at z; cases z) (fun z => by rw [d] at z; cases z)), d, r⟩
  have inK : K.In (hidT s.heap H) := by
    intro b o e
    refine hide (KX b o e) ?_
    rcases q : H b with _ | u
    · rfl
    · exfalso
      rcases some_H q with ⟨m, _⟩ | ⟨t, rfl, _⟩
      · rw [← hts] at m
        obtain ⟨p, hp, rfl⟩ := List.mem_map.mp m
        rw [nT p hp] at e
        cases e
      · rw [notT t] at e
        cases e
  obtain ⟨ml, l1, l2⟩ := lim
  have TB : ∀ p ∈ cs, LamX.TabB (hidT s.heap H) mg p.1 p.2 := by
    intro p hp
    have tp := hT p hp
    refine ⟨?_, ?_, ?_⟩
    · obtain ⟨o, us, file, tf, flags, tg, inF, text, tt, e1, r1, r2, r3, r⟩ := C p hp
      refine ⟨o, us, file, tf, flags, tg, inF, text, tt, hide e1 (free e1 (fun _ _ z => by rw [r2] at z; cases z) (fun z => ?_)), r1, r2, r3, r⟩
      rw [r2] at z
      cases z
      simp at r3
    · obtain ⟨b, ob, b1, b2, b3, b4, b5, b6⟩ := bm
      have nG : b ≠ mainGlobals := by
        rintro rfl
        obtain ⟨o, es, ep, e, d, _⟩ := glob
        rw [b3] at e
        cases e
        rw [b6] at d
        cases d
      have nP : b ≠ p.2 := by
        rintro rfl
        rw [tp] at b3
        cases b3
        cases b6
      exact ⟨b, ob, b1, b2, nG, nP, hide b3 (free b3 (fun _ _ z => by rw [b6] at z; cases z) (fun z => by rw [b6] at z; cases z)), b4, b5, b6⟩
    · intro z
      obtain ⟨o, es, ep, e, d, _⟩ := glob
      rw [z, tp] at e
      cases e
      cases d
  have hok : HOk P w H s.heap := by
    intro b u e
    rcases some_H e with ⟨m, rfl⟩ | ⟨_, rfl, rfl⟩
    · exact isT b m
    · exact ⟨script, by rw [List.length_map]; exact few, vs, _, rv, script⟩
  have env : Env0 P w K mg (hidT s.heap H) callerA [] s H :=
    { frames := rfl, mod := ⟨inK, space glob, ⟨mb, space hb, boot⟩, ⟨ml, space l1, l2⟩⟩, bs := fun _ _ e => of_hidT e, bsz := Nat.le_of_eq (hidT_size _ _), funs := trivial, frf := (fun b z => nomatch z), hok := hok, bare := .of_eq gens }
  refine codeAny_mono ((F _ inK (space glob) TB).go (us := [.ref a]) (vs := [.ref a]) ⟨room, rfl⟩ env (bind s (.ref a)) (.cons rfl .nil) hsp) ?_
  intro r s' out
  match r, out with
  | .error e, out => exact out.elim
  | .ok .next, out => exact out.elim
  | .ok .brk, out => exact out.elim
  | .ok .cont, out => exact out.elim
  | .ok (.ret u), ⟨v, H2, os, bare, un, hok2, rel, q⟩ =>
    have q : v = .bl true := q
    subst q
    have rel : u = Value.bool true := rel
    subst rel
    have grown : ∀ b ∈ ts, ∃ more : Array Value, s'.heap.get? b = some { cls := .none, data := .fields more } := by
      intro b m
      obtain ⟨more, e⟩ := un.tbls b #[] (by rw [← hH]; exact hpT_tab m)
      exact ⟨_, hok2 b _ e⟩
    have same : ∀ b o, b ∉ ts → s.heap.get? b = some o → s'.heap.get? b = some o := by
      intro b o nb e
      rcases c : H b with _ | t
      · exact un.keep b o e c (fun z => nomatch z) (fun z => nomatch z)
      · rcases some_H c with ⟨m, _⟩ | ⟨_, rfl, rfl⟩
        · exact absurd m nb
        · have there := (hok2 b _ (un.frzs b _ _ c)).1
          rw [script] at e
          rw [there]
          exact e
    refine ⟨rfl, ⟨fun b o e => ?_, fun b o e => ?_⟩, os, bare⟩
    · by_cases m : b ∈ ts
      · obtain ⟨more, e2⟩ := grown b m
        have e3 := isT b m
        rw [e] at e3
        cases e3
        have m2 := m
        rw [← hts] at m2
        obtain ⟨p, hp, rfl⟩ := List.mem_map.mp m2
        right; left
        exact ⟨((C p hp).tab (hT p hp)).isCodeTable, rfl, #[], more, rfl, by rw [Array.empty_append]; exact e2⟩
      · left; exact same b o m e
    · by_cases m : b ∈ ts
      · obtain ⟨more, e2⟩ := grown b m
        exact ⟨_, e2⟩
      · exact ⟨o, same b o m e⟩
theorem lawT (KX : K.In s.heap) (glob : s.heap.Ns mainGlobals mg) (hb : s.heap.Ns builtinsNs mb) (boot : ∀ y : Str, y ≠ "__name__" → mb y = bootBuiltins y) (lim : s.heap.NoLimit) (gens : s.gens = #[])
    (script : s.heap.get? a = some (scriptO vs)) (allInts : IntsAre vs ns) (few : ns.length ≤ sizeLine) (hT : ∀ p ∈ cs, s.heap.get? p.2 = some emptyT) (nT : ∀ p ∈ cs, K.lookup p.2 = none) (C : ∀ p ∈ cs, PySem.W.CodeHd s.heap p.1 p.2)
    (bm : ∃ (bm : Addr) (ob : Obj), mg "__builtins__" = some (.ref bm) ∧ bm ≠ builtinsNs ∧ s.heap.get? bm = some ob ∧ ob.cls = .type "module" ∧ ob.dict = some builtinsNs ∧ ob.data = .plain)
    (F : ∀ base : Heap, K.In base → base.Ns mainGlobals mg → (∀ p ∈ cs, LamX.TabB base mg p.1 p.2) → FnG P w K mg base CX0 k fa fd [x] sp) (bind : ∀ (s : Shared) (u : Value), BindsTo s fd ⟨[u], []⟩ [(x, u)]) (room : Room k callerA)
    (hsp : ∀ H : Hp, (∀ p ∈ cs, H p.2 = some (.tbl #[])) → SqL K H a (ns.map V.int) → sp [.ref a] H (fun v _ => v = .bl true) fun _ _ _ => False) :
    codeAny (model P w) callerA (.call (.ref fa) ⟨[.ref a], []⟩) (fun r s' => r = .ok (.ret (.bool true)) ∧ OldK s.heap s'.heap ∧ s'.os = s.os ∧ AllBare s'.gens) s := by
  have rv := ints_vals allInts
  have many : vs.length = ns.length := by
    have := rv.length
    rw [List.length_map] at this
    exact this.symm
  have inT : ∀ p ∈ cs, p.2 ∈ cs.map (·.2) := fun p hp => List.mem_map.mpr ⟨p, hp, rfl⟩
  have na : a ∉ cs.map (·.2) := by
    intro m
    obtain ⟨p, hp, e⟩ := List.mem_map.mp m
    have z := hT p hp
    rw [e, script] at z
    have z := congrArg Obj.data (Option.some.inj z)
    cases z
  rcases look : K.lookup a with _ | o
  · refine lawT_core (own := true) KX glob hb boot lim gens script rv few (fun _ => look) hT nT C bm F bind room (hsp _ (fun p hp => hpT_tab (inT p hp)) (Or.inl (Or.inr ⟨scriptO vs, ?_⟩)))
    unfold hpT
    rw [if_neg na, if_pos ⟨rfl, rfl⟩]
  · have e := KX a o look
    rw [script] at e
    cases e
    exact lawT_core (own := false) KX glob hb boot lim gens script rv few (fun z => nomatch z) hT nT C bm F bind room (hsp _ (fun p hp => hpT_tab (inT p hp)) (Or.inr ⟨_, vs.toArray, _, look, rfl, rfl, rfl, by rw [List.size_toArray, many]; exact few, rv⟩))
end
/-- what K tells of the table of the def x -/
def LamE (K : PySem.W.Frag) (x : Str) : Prop := ∃ (f : Addr) (oc : Value) (od : Option Addr) (fd : FuncData) (sl : Array (Option Value)) (c : Addr) (e : Value) (dd : Option Addr) (vs : Array Value) (sl2 : Array (Option Value)) (P : Addr),
  PySem.W.nsIn K mainGlobals x = some (some (.ref f)) ∧ K.lookup f = some ⟨oc, od, .func fd, sl⟩ ∧ fd.code = .ref c ∧ K.lookup c = some ⟨e, dd, .fields vs, sl2⟩ ∧ vs[11]? = some (.ref P) ∧ K.lookup P = none
/-- the goal behind k_head; x makes a lambda, or nobody does -/
theorem walk_ofT {l : PySem.W.OpenLaw} {n k : Nat} {q : Program} {loose : List Str} {XP : (Str → Option Value) → Heap → Prop} {YP : World → Heap → Prop} {d : DefRec} {K : Params → PySem.W.Frag} {sp : Tb → PySem.W.Frag → Sp} {x : Str} (lx : Option Str)
    (most : l.most = some n) (small : n ≤ sizeLine) (nodef : d.params.defaults = []) (room : Room k callerA) (hY : ∀ (w : World) (h : Heap), YP w h → (K w.params).In h) (hrec : ∀ y, lx = some y → ((recsOf q).any fun e => e.name == y) = true) (hlam : ∀ (w : World) (h : Heap) (y : Str), (K w.params).In h → lx = some y → LamE (K w.params) y)
    (F : ∀ (T : Tb) (w : World) (mg : Str → Option Value) (fa : Addr) (h : Heap), (K w.params).In h → h.Ns mainGlobals mg → mg d.name = some (.ref fa) →
      ∃ fd : FuncData, (∀ (s : Shared) (u : Value), BindsTo s fd ⟨[u], []⟩ [(x, u)]) ∧ ∀ base : Heap, (K w.params).In base → base.Ns mainGlobals mg → (∀ y, lx = some y → LamK (K w.params) mg base y) → FnG l.prog w (K w.params) mg base CX0 k fa fd [x] (sp T (K w.params)))
    (hsp : ∀ (T : Tb) (K : PySem.W.Frag) (H : Hp) (a : Addr) (ns : List Int), ns.length ≤ n → (∀ P ∈ Tb.ts, H P = some (.tbl #[])) → SqL K H a (ns.map V.int) → sp T K [.ref a] H (fun v _ => v = .bl true) fun _ _ _ => False) :
    PySem.W.WalkO q loose XP YP l.row.toRowW d [] (fun f vs => PySem.call f vs) := by
  refine Att.attach_call most nodef ?_
  intro w s0 s1 mg mb fa o pm cd doc a vs ns G Y h1 h2 h3 hmg script allInts few gens
  have inK := hY w _ Y
  rcases lx with _ | y
  · let T : Tb := ⟨[], fun _ => ""⟩
    obtain ⟨fd, bind, FF⟩ := F T w mg fa _ inK G.T.g hmg
    exact lawT (cs := []) inK G.T.g G.T.b G.T.builtins G.T.nolimit gens script allInts (Nat.le_trans few small) (fun p z => nomatch z) (fun p z => nomatch z) (fun p z => nomatch z) G.T.bmain (fun base b1 b2 _ => FF base b1 b2 (fun y z => nomatch z)) bind room fun H _ S => hsp T _ H a ns few (fun P z => nomatch z) S
  · obtain ⟨dL, hm, e⟩ := List.any_eq_true.mp (hrec y rfl)
    obtain rfl : dL.name = y := beq_iff_eq.mp e
    obtain ⟨f, o', fd', c, P, t1, t2, t3, t4, t5, t6⟩ := G.T.tab dL hm
    obtain ⟨f2, oc, od, fd2, sl, c2, ec, dd, vc, sl2, P2, u1, u2, u3, u4, u5, u6⟩ := hlam w _ _ inK rfl
    have e1 := PySem.W.mg_of inK G.T.g u1
    rw [t1] at e1
    cases e1
    have e2 := inK _ _ u2
    rw [t2] at e2
    cases e2
    cases t3
    rw [t4] at u3
    cases u3
    have hd := PySem.W.CodeHd.of t5 t6
    obtain rfl : P = P2 := by
      obtain ⟨o, us, file, tf, flags, tg, inF, text, tt, w1, w2, w3, w4, _⟩ := hd
      have e3 := inK _ _ u4
      rw [w1] at e3
      cases e3
      cases w3
      rw [u5] at w4
      cases w4
      rfl
    let T : Tb := ⟨[P], fun _ => dL.name ++ ".<locals>." ++ "<lambda>"⟩
    obtain ⟨fd, bind, FF⟩ := F T w mg fa _ inK G.T.g hmg
    have one : ∀ {p : Addr × Addr}, p ∈ [(c, P)] → p = (c, P) := fun m => by simpa using m
    refine lawT (cs := [(c, P)]) inK G.T.g G.T.b G.T.builtins G.T.nolimit gens script allInts (Nat.le_trans few small) (fun p m => ?_) (fun p m => ?_) (fun p m => ?_) G.T.bmain (fun base b1 b2 tb => FF base b1 b2 ?_) bind room fun H hH S => hsp T _ H a ns few (fun Q m => ?_) S
    · rw [one m]; exact t6.2
    · rw [one m]; exact u6
    · rw [one m]; exact hd
    · intro y ey
      cases ey
      intro f3 oc3 od3 fd3 sl3 v1 v2
      rw [t1] at v1
      cases v1
      rw [u2] at v2
      cases v2
      exact ⟨c, P, t4, tb (c, P) (by simp), by simp [T, Tb.ts], rfl⟩
    · have m : Q ∈ [P] := m
      obtain rfl : Q = P := by simpa using m
      exact hH (c, Q) (by simp)
end DL

namespace DL
open PySem PySem.Spec PyProof.Rows L2
variable [Tb]
/-! ### a def that is handed on, a list some times over, is True -/
section
variable {X : Cx} {k i : Nat} {y : Str} {p pos : Pos} {e : Expr} {es : List Expr} {td : DT} {T : List (Str × FP)}
end
section
variable {P : Program} {w : World} {K : PySem.W.Frag} {mg : Str → Option Value} {base : Heap} {j k : Nat} {x : Str} {ps : List Str} {F : FP} {T : List (Str × FP)}
theorem HasP.up (h : HasP P w K mg base j x ps F) (l : j ≤ k) : HasP P w K mg base k x ps F := by
  obtain ⟨f, fd, G, r⟩ := h
  exact ⟨f, fd, G.mono l, r⟩
end
section
variable {X : Cx} {pins : List (Addr × Obj)}
end
end DL

namespace DL
open PySem PySem.Spec PyProof.Rows L2
variable [Tb]
/-! ### divmod, and o[i], y = e -/
section
variable {X : Cx} {a b : Expr} {t u : AT} {pos p : Pos}
end
section
variable {X : Cx} {e o i : Expr} {y : Str} {t u w : AT} {pos p1 p2 p3 : Pos} {j kk : Nat}
end
end DL

namespace DL
open PySem PySem.Spec PyProof.Rows L2
/-! ### an own exception without fields: raised, let out of a def, caught -/
theorem PS.nox {X : Cx} {st : Stmt} {t : TS} (h : PS X.nox st t) : PS X st t := ⟨fun pins s σ H D I hw =>
  wpAny_mono (h.run pins s σ H D (I.wish _) hw) (fun _ _ q => q.unwish) fun _ _ z => False.elim z⟩
/-- X() -/
theorem pmk_own0 {X : Cx} {C : Addr} {bmB : List Value} {B newId initId : String} {x : Str} {p pos : Pos} (F : ExcBaseFacts B newId initId bmB) (q : PySem.W.excIn X.K C bmB newId = true) (gC : X.mg x = some (.ref C)) (kC : PySem.W.keepIn X.K (.ref C) = true) (r : Raises X (.ref C)) (hg : Gl X x)
    (hdb : (x == ("__debug__" : Str)) = false := by decide) : PMk X (.Call (.Name x p) [] [] pos) (fun _ H Q => Q (.ref C) none H) := by
  intro pins s σ H Q I h
  refine wpAny_Call_Name_kw (ld_glob I hg gC ?_ hdb)
  refine PySem.W.callWith_K0 I.kIn kC ?_
  show wpAny _ _ (call (.ref C) []) _ _ _
  obtain ⟨bm, N, nm, qn, bs, hdct, sn, sub, ab, col, dd, k0, k1, k2, k3, k5, mN, hC, hN, hni, T⟩ := exc_obj I.kIn q
  refine wpAny_call_exc_subT F T hC hN hni (fun h' e hm => ?_) (by show 0 ≤ sizeLine; rw [sizeLine_eq]; omega)
  exact mk_of I hm r h (I.hok.gone hm.new)
/-- what the top leaves of an own exception x, and of its base y -/
structure ExK (K : PySem.W.Frag) (mg : Str → Option Value) (x y : Str) (C D : Addr) : Prop where
  g : mg x = some (.ref C)
  ex : PySem.W.excIn K C [.type "ValueError", .type "Exception", .type "BaseException", .type "object"] "ValueError.__new__" = true
  k : PySem.W.keepIn K (.ref C) = true
  sub : PySem.W.subIn K (.ref C) (.type "BaseException") = some true
  ty : PySem.W.typeIn K (.ref C) = some (.type "type")
  m : PySem.W.exmOne K (.ref C) (.ref C) = some true
  c : ExcC K C
  g2 : mg y = some (.ref D)
  is : PySem.W.kitOne K (.ref C) (.ref D) = some true
section
variable [Tb]
/-- a def of data that returns, or lets out the exception of the class C -/
def SpR (K : PySem.W.Frag) (F : FP) (R : List PyData → Prop) (C : Addr) : Sp := fun vs H Q E => ∃ (B : Hp) (ds : List PyData), Sub B H ∧ DaL K B vs ds ∧
  ((∃ P : Rv → Prop, F ds P ∧ ∀ r v B' H', P r → New K B H B' H' r v → Q v H') ∨ (R ds ∧ ∀ B' H', Grow B H B' H' → E (.ref C) none H'))
def HasR (P : Program) (w : World) (K : PySem.W.Frag) (mg : Str → Option Value) (base : Heap) (k : Nat) (x : Str) (ps : List Str) (F : FP) (R : List PyData → Prop) (C : Addr) : Prop :=
  ∃ f fd, FnG P w K mg base (L2.CX P w) k f fd ps (SpR K F R C) ∧ mg x = some (.ref f) ∧ PySem.W.keepIn K (.ref f) = true ∧ L2.Binds K fd ps [] ∧ ∃ qual st, Fun K x qual st f fd
theorem no_cel_start {N : List Str} {vs : List V} {ds : List PyData} : ∀ a, ¬ Cel (L2.start N vs) (startS N ds) a := by
  rintro a ⟨i, p, xs, e, _⟩
  rcases startS_get e with ⟨d, z, _⟩ | z <;> cases z
theorem grow_start {K : PySem.W.Frag} {B H B' H' : Hp} {N : List Str} {vs : List V} {ds : List PyData} {σ' : L2.St} {s' : AS} (sub : Sub B H) (g : Go K B H (L2.start N vs) (startS N ds) B' H' σ' s') : Grow B H B' H' := by
  have no_cel : ∀ a, ¬ Cel (L2.start N vs) (startS N ds) a := by
    rintro a ⟨i, p, xs, e, _⟩
    rcases startS_get e with ⟨d, z, _⟩ | z <;> cases z
  exact ⟨g.same, ⟨fun a o e nt => (g.frame a o e nt).elim (fun c => absurd c (no_cel a)) id, g.live, sub.t1, g.rel.sub.t1⟩, g.rel.sub, fun a n => by
    rcases g.grow a n with c | c | c
    · left; exact c
    · right; exact c
    · exact absurd c (no_cel a)⟩
section
variable {P : Program} {w : World} {K : PySem.W.Frag} {h : Heap} {mg : Str → Option Value} {base : Heap} {x : Str} {st : Stmt} {ps N : List Str} {k : Nat}
theorem HasR.of {F : FP} {R : List PyData → Prop} {C : Addr} {t : ATS} (D : DefK K x st) (X : K.In h) (G : h.Ns mainGlobals mg) (b : BindsAll x st ps) (S : FnScope N ps (defScope st)) (len : ∀ ds P, F ds P → ds.length = ps.length) (lenR : ∀ ds, R ds → ds.length = ps.length)
    (der : ∀ (f : Addr) (cdv : Value) (A : Around) (outer : List Env) (s : Shared) (H : Hp) (E : XK), RoomG k (A.deeper (envOfC x (defScope st) s.heap.objs.size f cdv)) → ASs (cxOf CX0 P w K mg base N x (defScope st) f cdv A outer s H E).nox (defBody st) t)
    (ok : ∀ ds P, F ds P → t { nx := fun _ => P (.d .none), rt := fun r _ => P r } (startS N ds))
    (derR : ∀ (f : Addr) (cdv : Value) (A : Around) (outer : List Env) (s : Shared) (H : Hp) (E : XK), RoomG k (A.deeper (envOfC x (defScope st) s.heap.objs.size f cdv)) → Takes (cxOf (L2.CX P w) P w K mg base N x (defScope st) f cdv A outer s H E) (fun cls d _ H => E cls d H) →
      ∃ tR, PSs (cxOf (L2.CX P w) P w K mg base N x (defScope st) f cdv A outer s H E) (defBody st) tR ∧
        ∀ (B : Hp) (ds : List PyData) (σ : L2.St) (DD : Ends), Rel K B H σ (startS N ds) → R ds → (∀ σ' B' H', Go K B H σ (startS N ds) B' H' σ' (startS N ds) → E (.ref C) none H') → tR DD σ H) : HasR P w K mg base (k + 1) x ps F R C := by
  obtain ⟨f, od, an, sl, oc, kV, dc, pm, cd, ct, h1, h2, h3, h4⟩ := D
  have FF := fun_mk (st := st) h2 h3 h4
  refine ⟨f, _, FnG.mk' FF S (fun vs H Q E ⟨B, ds, _, l, q⟩ => ?_) ?_, PySem.W.mg_of X G h1, h4, FF.binds b, x, st, FF⟩
  · rcases q with ⟨P', q, _⟩ | ⟨q, _⟩
    · exact l.length.trans (len ds P' q)
    · exact l.length.trans (lenR ds q)
  rintro cdv A outer s H vs Q E hcd room ⟨B, ds, sub, l, q⟩
  have rel : Rel K B H (L2.start N vs) (startS N ds) := rel_startS sub l
  rcases q with ⟨P', hF, q⟩ | ⟨hR, q⟩
  · have der0 : ASs (cxOf (L2.CX P w) P w K mg base N x (defScope st) f cdv A outer s H E).nox (defBody st) t := der f cdv A outer s H E room
    refine ⟨_, PSs.nox der0, B, startS N ds, _, rel, ok ds P' hF, ?_⟩
    refine ⟨fun s' σ' B' H' p g => q _ _ _ _ p ⟨grow_start sub g, .non⟩, fun r v s' σ' B' H' p g is => ?_, fun _ _ _ _ p _ => p.elim, fun _ _ _ _ p _ => p.elim⟩
    match r, is with
    | .d x, is => exact q _ _ _ _ p ⟨grow_start sub g, is⟩
    | .f xs, ⟨a, ws, e1, e2, e3, e4, e5, _⟩ => exact q _ _ _ _ p ⟨grow_start sub g, a, ws, e1, e2.resolve_right (no_cel_start a), e3, e4, e5⟩
  · obtain ⟨tR, dR, hr⟩ := derR f cdv A outer s H E room (takes_of rfl rfl rfl rfl)
    exact ⟨tR, dR, hr B ds _ _ rel hR fun σ' B' H' g => q B' H' (grow_start sub g)⟩
end
end
/-! ### the readings of both -/
section
variable {X : Cx} {CX : CXT} {k : Nat} {f : Addr} {fd : FuncData} {ps : List Str} {sp : Sp} {E : L2.St → XK} {x : Str} {p pos : Pos} {e : Expr} {es : List Expr} {t : TA}
end
section
variable [Tb]
section
variable {P : Program} {w : World} {K : PySem.W.Frag} {h : Heap} {mg : Str → Option Value} {base : Heap} {x : Str} {st : Stmt} {ps N : List Str} {k : Nat}
end
end
end DL

namespace DL
open PySem PySem.Spec PyProof.Rows L2
open PySem.W (Frag ksEnv fnX envX kxs_mw excObj excTup)
/-! ### own exceptions that keep what they are given -/
/-- the def in a class's body -/
def initOf (st : Stmt) : Stmt := match st with
  | .ClassDef _ _ _ (b :: _) _ _ _ _ _ _ _ => b
  | q => q
def gvA (p1 p2 : Pos) : Arguments := { posonlyargs := [], args := [{ arg := "self", annotation := none, pos := p1 }, { arg := "given", annotation := none, pos := p2 }], vararg := none, kwonlyargs := [], kw_defaults := [], kwarg := none, defaults := [] }
def gvB (m : Str) (k : Nat) (p0 p1 p2 p3 p4 p5 q1 q2 q3 q4 : Pos) : List Stmt :=
  [.Expr (.Call (.Attribute (.Call (.Name "super" p0) [] [] p1) "__init__" p2) [.Constant (.str m) k p3] [] p4) p5, .Assign [.Attribute (.Name "self" q1) "given" q2] (.Name "given" q3) q4]
def gvS : Scope := { kind := .function, names := [(PySem.Str.ofString "self", .local), (PySem.Str.ofString "given", .local), (PySem.Str.ofString "__class__", .free), (PySem.Str.ofString "super", .globalImplicit)], isGenerator := false, isCoroutine := false, more := [] }
abbrev veB : List Value := [.type "ValueError", .type "Exception", .type "BaseException", .type "object"]
/-- what the top leaves of such a class, at C, and of its __init__, at fI -/
structure Gvn (prog : Program) (K : Frag) (mg : Str → Option Value) (x : Str) (C fI : Addr) : Prop where
  gC : mg x = some (.ref C)
  cls : ∃ nm q N bs bm sn sub ab col dd k0 k1 k2 k3 k5, K.lookup C = some (excClassObj nm q C N bs bm true sn sub ab col dd k0 k1 k2 k3 k5 "ValueError.__new__") ∧ HandSPX.refsVE bm = true
  ei : PySem.W.excInitIn K C veB "ValueError.__new__" = true
  sa : PySem.W.findIn K (.ref C) "__setattr__" = some (some (.builtin "object.__setattr__"))
  ga : PySem.W.findIn K (.ref C) "__getattribute__" = some (some (.builtin "BaseException.__getattribute__"))
  gg : PySem.W.findIn K (.ref C) "__getattr__" = some none
  noN : PySem.W.findIn K (.ref C) "given" = some none
  iC : PySem.W.findIn K (.ref C) "__init__" = some (some (.ref fI))
  tC : PySem.W.typeIn K (.ref fI) = some (.type "function")
  kC : PySem.W.keepIn K (.ref C) = true
  exC : PySem.W.subIn K (.ref C) (.type "BaseException") = some true
  veC : PySem.W.subIn K (.ref C) (.type "ValueError") = some true
  tyC : PySem.W.typeIn K (.ref C) = some (.type "type")
  hdC : PySem.W.hasDictIn K C = true
  mC : PySem.W.mroIn K C (.ref C) = some true
  sup : PySem.W.ks_superIn K C C "__init__" = some (some (.builtin "ValueError.__init__"))
  any : PySem.W.nsIn K cStatics "thirdparty.any" = some none
  noS : mg "super" = none
  top : (prog.main.scope.names.lookup ("super" : Str)).isSome = false
  fn : ∃ (oc : Value) (od : Option Addr) (doc pm : Value) (an : Option Addr) (cda cc : Addr) (ct : Value) (osl : Array (Option Value)) (qn m : Str) (k : Nat) (p1 p2 r0 r1 r2 r3 r4 r5 q1 q2 q3 q4 : Pos) (ccl : Value) (cdd : Option Addr) (vs : Array Value) (ccs : Array (Option Value)) (file : Str) (tf : Tok) (cl : Value) (cld : Option Addr) (csl : Array (Option Value)), (r2.endLine == r4.line) = true ∧
    K.lookup fI = some ⟨oc, od, .func (fnX "__init__" qn (gvA p1 p2) (gvB m k r0 r1 r2 r3 r4 r5 q1 q2 q3 q4) gvS [("__class__", cc)] .none .none doc pm an (.ref cda) ct), osl⟩ ∧ PySem.W.codeIn K (.ref cda) qn = true ∧
    K.lookup cda = some ⟨ccl, cdd, .fields vs, ccs⟩ ∧ vs[2]? = some (.str file tf) ∧ ((prog.main.file : Str) == file) = true ∧ K.lookup cc = some ⟨cl, cld, .cell (some (.ref C)), csl⟩
theorem ev_sup {m : Str} {k : Nat} {p0 p1 p2 p3 p4 : Pos} {env : Env} (hl : (p2.endLine == p4.line) = true) : eval (.Call (.Attribute (.Call (.Name "super" p0) [] [] p1) "__init__" p2) [.Constant (.str m) k p3] [] p4) env = (do
    let ov ← attributeBase (.Call (.Name "super" p0) [] [] p1) "__init__" env (eval (.Call (.Name "super" p0) [] [] p1) env)
    standAt p2.atName
    let (f, first) ← holding [ov] (getMethod ov "__init__" (do return (← importBound (.Call (.Name "super" p0) [] [] p1) env).getD true))
    callWith p4 f first (backTo p4 (starEach [.Constant (.str m) k p3] env)) []) := by
  rw [arm_eval_Call]
  unfold methodCall
  have hf : methodCallForm ([Expr.Constant (.str m) k p3].length + ([] : List Keyword).length) (backTo p4 (starEach [.Constant (.str m) k p3] env)) (backToKw p4 (keywordEach [] env)) = true := rfl
  have hp : methodCallPos true (.Call (.Name "super" p0) [] [] p1) env p2 p4 = pure p4 := by unfold methodCallPos; simp [hl]
  rw [hf, hp]
  simp only [calleeOf, if_true, pure_bind]
  rfl
/-- what __init__ leaves -/
structure GvEnd (hp h' : Heap) (e C dx t1 : Addr) (v : Value) : Prop where
  keep : ∀ b o, hp.get? b = some o → h'.get? b = some o
  obj : h'.get? e = some { cls := .ref C, dict := some dx, data := .fields #[.ref t1, .none, .none, .none, .bool false, .none] }
  dbig : hp.objs.size ≤ dx
  dne : dx ≠ e
  ns : h'.Ns1 dx (fun y => if y = "given" then some v else none)
section
variable {prog : Program} {w : World} {A : Around} {R : Result → Shared → Prop} {K : Frag} {mg : Str → Option Value} {x : Str} {C fI : Addr}
/-- a made one -/
structure GvMade (h h' : Heap) (e C d : Addr) (v : Value) : Prop where
  keep : ∀ b o, h.get? b = some o → h'.get? b = some o
  new : h.objs.size ≤ e
  obj : ∃ oe vs, h'.get? e = some oe ∧ oe.cls = .ref C ∧ oe.dict = some d ∧ oe.data = .fields vs ∧ vs[1]? = some .none
  dbig : h.objs.size ≤ d
  dne : d ≠ e
  ns : h'.Ns1 d (fun y => if y = "given" then some v else none)
end
abbrev xdG (v : V) : HO := .xd [(("given" : Str), v)]
/-- isinstance(e, c), e an exception with a dict that the suite holds -/
def rIsG (K : Frag) (D a : Addr) (od : Option Addr) : List V → Hp → VK → Prop := fun xs H Q => ∃ (c : V) (cv : Value) (b : Bool) (dd : Addr) (fs : List (Str × V)), xs = [.ref a, c] ∧ (∀ u, RelV c u → u = cv) ∧ PySem.W.kitOne K (.ref D) cv = some b ∧ od = some dd ∧ H dd = some (.xd fs) ∧ Q (.bl b) H
/-! ### a def that returns, or lets such an exception out; one that catches it -/
section
variable [Tb]
def SpG (K : Frag) (F : FP) (R : List PyData → PyData → Prop) (C : Addr) : Sp := fun vs H Q E => ∃ (B : Hp) (ds : List PyData), Sub B H ∧ DaL K B vs ds ∧
  ((∃ P : Rv → Prop, F ds P ∧ ∀ r v B' H', P r → New K B H B' H' r v → Q v H') ∨ (∃ g, R ds g ∧ ∀ B' H' v d, Grow B H B' H' → Da K B' v g → H' d = none → E (.ref C) (some d) (upd H' d (xdG v))))
def HasG (P : Program) (w : World) (K : Frag) (mg : Str → Option Value) (base : Heap) (k : Nat) (x : Str) (ps : List Str) (F : FP) (R : List PyData → PyData → Prop) (C : Addr) : Prop :=
  ∃ f fd, FnG P w K mg base (L2.CX P w) k f fd ps (SpG K F R C) ∧ mg x = some (.ref f) ∧ PySem.W.keepIn K (.ref f) = true ∧ L2.Binds K fd ps [] ∧ ∃ qual st, Fun K x qual st f fd
section
variable {P : Program} {w : World} {K : Frag} {h : Heap} {mg : Str → Option Value} {base : Heap} {x : Str} {st : Stmt} {ps N : List Str} {k : Nat}
theorem HasG.of {F : FP} {R : List PyData → PyData → Prop} {C : Addr} {t : ATS} (D : DefK K x st) (X : K.In h) (G : h.Ns mainGlobals mg) (b : BindsAll x st ps) (S : FnScope N ps (defScope st)) (len : ∀ ds P, F ds P → ds.length = ps.length) (lenR : ∀ ds g, R ds g → ds.length = ps.length)
    (der : ∀ (f : Addr) (cdv : Value) (A : Around) (outer : List Env) (s : Shared) (H : Hp) (E : XK), RoomG k (A.deeper (envOfC x (defScope st) s.heap.objs.size f cdv)) → ASs (cxOf CX0 P w K mg base N x (defScope st) f cdv A outer s H E).nox (defBody st) t)
    (ok : ∀ ds P, F ds P → t { nx := fun _ => P (.d .none), rt := fun r _ => P r } (startS N ds))
    (derR : ∀ (f : Addr) (cdv : Value) (A : Around) (outer : List Env) (s : Shared) (H : Hp) (E : XK), RoomG k (A.deeper (envOfC x (defScope st) s.heap.objs.size f cdv)) → Takes (cxOf (L2.CX P w) P w K mg base N x (defScope st) f cdv A outer s H E) (fun cls d _ H => E cls d H) →
      ∃ tR, PSs (cxOf (L2.CX P w) P w K mg base N x (defScope st) f cdv A outer s H E) (defBody st) tR ∧
        ∀ (B : Hp) (ds : List PyData) (g : PyData) (σ : L2.St) (DD : Ends), Rel K B H σ (startS N ds) → R ds g → (∀ σ' s' B' H' v d, Go K B H σ (startS N ds) B' H' σ' s' → Da K B' v g → H' d = none → E (.ref C) (some d) (upd H' d (xdG v))) → tR DD σ H) : HasG P w K mg base (k + 1) x ps F R C := by
  obtain ⟨f, od, an, sl, oc, kV, dc, pm, cd, ct, h1, h2, h3, h4⟩ := D
  have FF := fun_mk (st := st) h2 h3 h4
  refine ⟨f, _, FnG.mk' FF S (fun vs H Q E ⟨B, ds, _, l, q⟩ => ?_) ?_, PySem.W.mg_of X G h1, h4, FF.binds b, x, st, FF⟩
  · rcases q with ⟨P', q, _⟩ | ⟨g, q, _⟩
    · exact l.length.trans (len ds P' q)
    · exact l.length.trans (lenR ds g q)
  rintro cdv A outer s H vs Q E hcd room ⟨B, ds, sub, l, q⟩
  have rel : Rel K B H (L2.start N vs) (startS N ds) := rel_startS sub l
  rcases q with ⟨P', hF, q⟩ | ⟨g, hR, q⟩
  · have der0 : ASs (cxOf (L2.CX P w) P w K mg base N x (defScope st) f cdv A outer s H E).nox (defBody st) t := der f cdv A outer s H E room
    refine ⟨_, PSs.nox der0, B, startS N ds, _, rel, ok ds P' hF, ?_⟩
    refine ⟨fun s' σ' B' H' p g => q _ _ _ _ p ⟨grow_start sub g, .non⟩, fun r v s' σ' B' H' p g is => ?_, fun _ _ _ _ p _ => p.elim, fun _ _ _ _ p _ => p.elim⟩
    match r, is with
    | .d x, is => exact q _ _ _ _ p ⟨grow_start sub g, is⟩
    | .f xs, ⟨a, ws, e1, e2, e3, e4, e5, _⟩ => exact q _ _ _ _ p ⟨grow_start sub g, a, ws, e1, e2.resolve_right (no_cel_start a), e3, e4, e5⟩
  · obtain ⟨tR, dR, hr⟩ := derR f cdv A outer s H E room (takes_of rfl rfl rfl rfl)
    exact ⟨tR, dR, hr B ds g _ _ rel hR fun σ' s' B' H' v d go da n => q B' H' v d (grow_start sub go) da n⟩
end
end
end DL

namespace DL
open PySem PySem.Spec PyProof.Rows L2
open PySem.W (Frag)
/-! ### such an exception caught: what it was given, and what it is -/
section
variable {X : Cx} {CX : CXT} {k : Nat} {f : Addr} {fd : FuncData} {ps ks : List Str} {sp : Sp} {E : L2.St → XK} {x : Str} {p pos : Pos} {kws : List Keyword} {t : TA}
end
/-- what an except suite asks of the class -/
structure GvE (K : Frag) (mg : Str → Option Value) (y : Str) (C D0 : Addr) : Prop where
  m : PySem.W.exmOne K (.ref C) (.ref C) = some true
  c : ExcC K C
  g2 : mg y = some (.ref D0)
  is1 : PySem.W.kitOne K (.ref C) (.ref D0) = some true
  is2 : PySem.W.kitOne K (.ref C) (.type "ValueError") = some true
/-- given = (e.given, isinstance(e, Y) and isinstance(e, ValueError)) -/
def tsG (K : Frag) (C D0 : Addr) (gi j : Nat) (a : Addr) (cls : Value) (d : Option Addr) : TS := fun D σ H => (cls = .ref C) ∧ tAsg (tTup (tCons (tXf a cls d C "given" (tVar j)) (tCons (tAndV (tCB (rIsG K C a d) (tCons (tVar j) (tCons (tC (.ref D0)) tNil))) (tCB (rIsG K C a d) (tCons (tVar j) (tCons (tC (.ty "ValueError")) tNil)))) tNil))) (gName gi) D σ H
section
variable [Tb]
section
variable {P : Program} {w : World} {K : Frag} {h : Heap} {mg : Str → Option Value} {base : Heap} {x : Str} {st : Stmt} {ps N : List Str} {k : Nat}
end
end
section
variable {P : Program} {K : Frag} {h : Heap} {mg : Str → Option Value} {x y : Str} {C D0 fI : Addr} {st : Stmt}
end
end DL

namespace DL
open PySem PySem.Spec PyProof.Rows L2
variable [Tb]
/-! ### repr of data with dicts -/
mutual
/-- dicts in it have ints and texts as keys -/
def okd : PyData → Bool
  | .list ds => okdL ds
  | .tuple ds => okdL ds
  | .dict kvs => okdK kvs
  | _ => true
def okdL : List PyData → Bool
  | [] => true
  | d :: ds => okd d && okdL ds
def okdK : List (PyData × PyData) → Bool
  | [] => true
  | (.int _, d) :: r => okd d && okdK r
  | (.str _, d) :: r => okd d && okdK r
  | _ :: _ => false
end
/-- what a value shows -/
def Shw (P : Program) (w : World) (h : Heap) (u : Value) (d : PyData) : Prop := ∃ as bs, Reads h u d as ∧ ReadAtMost h d.depth bs ∧ ReprK P w bs h d.depth u d.shown
def ShwL (P : Program) (w : World) (h : Heap) (us : List Value) (ds : List PyData) : Prop := ∃ as bs, ReadsAll h us ds as ∧ ReadAtMost h (PyData.depthAll ds) bs ∧ ReprAllK P w bs h (PyData.depthAll ds) us (PyData.shownAll ds)
section
variable {P : Program} {w : World} {h : Heap}
theorem ShwL.nil : ShwL P w h [] [] := ⟨[], [], .nil, (fun _ m => nomatch m), by simp only [PyData.shownAll]; exact .nil⟩
theorem ShwL.cons {u : Value} {us : List Value} {d : PyData} {ds : List PyData} (a : Shw P w h u d) (b : ShwL P w h us ds) : ShwL P w h (u :: us) (d :: ds) := by
  obtain ⟨as, bs, r1, m1, k1⟩ := a
  obtain ⟨as2, bs2, r2, m2, k2⟩ := b
  have l1 : d.depth ≤ PyData.depthAll (d :: ds) := by simp only [PyData.depthAll]; exact Nat.le_max_left _ _
  have l2 : PyData.depthAll ds ≤ PyData.depthAll (d :: ds) := by simp only [PyData.depthAll]; exact Nat.le_max_right _ _
  refine ⟨_, bs ++ bs2, .cons r1 r2, (m1.mono l1).append (m2.mono l2), ?_⟩
  simp only [PyData.shownAll]
  exact .cons ((k1.more fun b hb => List.mem_append_left _ hb).level_le l1) (k2.more_le (fun b hb => List.mem_append_right _ hb) l2)
/-- how list.__repr__ and the others go -/
abbrev Show1 (P : Program) (w : World) (h : Heap) (a : Addr) (d : PyData) : Prop := ∃ T idr, ShowsBy P w h a d T idr
theorem shw_list {a : Addr} {o : Obj} {xs : List Value} {m : Nat} {ds : List PyData} (e1 : h.get? a = some o) (e2 : o.cls = .type "list") (e3 : o.data = .seq xs.toArray m) (sub : ShwL P w h xs ds) (sz : (PyData.list ds).shown.length ≤ sizeLine) : Shw P w h (.ref a) (.list ds) ∧ Show1 P w h a (.list ds) := by
  obtain ⟨as, bs, r, mm, k⟩ := sub
  have rr : Reads h (.ref a) (.list ds) (a :: as) := .list e1 e2 e3 r
  have hna : a ∉ bs := not_mem_of_deeper rr (by simp only [PyData.depth]; omega) mm
  refine ⟨⟨_, a :: bs, rr, ReadAtMost.cons rr (by simp only [PyData.depth]; omega) mm, ?_⟩, "list", "list.__repr__", F.slot_list_repr.toG, F.slot_list_str, F.slot_list_format, fun s hk0 => ⟨o, hk0 _ _ e1, e2⟩, fun A E s Q hg hu hk0 hQ => ?_⟩
  · simp only [PyData.depth, PyData.shown]
    cases xs with
    | nil =>
      cases r
      simp only [PyData.shownAll, listText_nil]
      exact ReprK.listEmpty e1 e2 e3
    | cons x l => exact ReprK.list e1 e2 e3 hna (by simpa using k.length_eq) (fun i y e => k.item i y (by simpa using e))
  · simp only [PyData.depth] at hu
    simp only [PyData.shown] at hQ sz
    cases xs with
    | nil =>
      cases r
      simp only [PyData.shownAll, listText_nil] at hQ
      exact call_list_repr_empty ⟨o, hk0 _ _ e1, e2⟩ (hk0 _ _ e1) e3 (hQ s.heap _ _ fun _ _ e => e)
    | cons x l => exact call_list_reprK e1 e2 e3 hna (by simpa using k.length_eq) (fun i y e => k.item i y (by simpa using e)) hg (fun b _ => Clear.nil b) hu hk0 hQ sz
theorem shw_tuple {a : Addr} {o : Obj} {xs : Array Value} {m : Nat} {ds : List PyData} (e1 : h.get? a = some o) (e2 : o.cls = .type "tuple") (e3 : o.data = .seq xs m) (sub : ShwL P w h xs.toList ds) (sz : (PyData.tuple ds).shown.length ≤ sizeLine) : Shw P w h (.ref a) (.tuple ds) ∧ Show1 P w h a (.tuple ds) := by
  obtain ⟨as, bs, r, mm, k⟩ := sub
  have rr : Reads h (.ref a) (.tuple ds) as := .tuple e1 e2 e3 r
  have hna : a ∉ bs := not_mem_of_deeper rr (by simp only [PyData.depth]; omega) mm
  refine ⟨⟨_, a :: bs, rr, ReadAtMost.cons rr (by simp only [PyData.depth]; omega) mm, ?_⟩, "tuple", "tuple.__repr__", F.slot_tuple_repr, F.slot_tuple_str, F.slot_tuple_format, fun s hk0 => ⟨o, hk0 _ _ e1, e2⟩, fun A E s Q hg hu hk0 hQ => ?_⟩
  · simp only [PyData.depth, PyData.shown]
    exact ReprK.tuple e1 e2 e3 hna k
  · simp only [PyData.depth] at hu
    simp only [PyData.shown] at hQ sz
    exact call_tuple_reprK e1 e2 e3 hna k hg (fun b _ => Clear.nil b) hu hk0 hQ sz
theorem shw_dict {a : Addr} {o : Obj} {es : Array DictEntry} {m : Nat} {kvs : List (PyData × PyData)} (e1 : h.get? a = some o) (e2 : o.cls = .type "dict") (e3 : o.data = .dict es m) (nsys : (a == sysModules) = false) (keys : ShwL P w h (es.toList.map (·.key)) (kvs.map (·.1))) (vals : ShwL P w h (es.toList.map (·.val)) (kvs.map (·.2)))
    (sz : (PyData.dict kvs).shown.length ≤ sizeLine) : Shw P w h (.ref a) (.dict kvs) ∧ Show1 P w h a (.dict kvs) := by
  obtain ⟨as, bs, r1, m1, k1⟩ := keys
  obtain ⟨as2, bs2, r2, m2, k2⟩ := vals
  have rr : Reads h (.ref a) (.dict kvs) (a :: as ++ as2) := .dict e1 e2 e3 r1 r2
  have mm : ReadAtMost h (PyData.depthKv kvs) (bs ++ bs2) := (m1.mono (PyData.depthAll_keys_le kvs)).append (m2.mono (PyData.depthAll_vals_le kvs))
  have hna : a ∉ bs ++ bs2 := not_mem_of_deeper rr (by simp only [PyData.depth]; omega) mm
  have en := ReprEntriesK.of_two es.toList _ _ (k1.more_le (fun b hb => List.mem_append_left bs2 hb) (PyData.depthAll_keys_le kvs)) (k2.more_le (fun b hb => List.mem_append_right bs hb) (PyData.depthAll_vals_le kvs))
  refine ⟨⟨_, a :: (bs ++ bs2), rr, ReadAtMost.cons rr (by simp only [PyData.depth]; omega) mm, ?_⟩, "dict", "dict.__repr__", F.slot_dict_repr, F.slot_dict_str, F.slot_dict_format, fun s hk0 => ⟨o, hk0 _ _ e1, e2⟩, fun A E s Q hg hu hk0 hQ => ?_⟩
  · simp only [PyData.depth, PyData.shown, PyData.shownKv_eq]
    exact ReprK.dict e1 e2 e3 nsys hna en
  · simp only [PyData.depth] at hu
    simp only [PyData.shown] at sz
    simp only [PyData.shown, PyData.shownKv_eq] at hQ
    exact call_dict_reprK e1 e2 e3 nsys hna en hg (fun b _ => Clear.nil b) hu hk0 hQ (by rw [← PyData.shownKv_eq]; exact sz)
end
section
variable {X : Cx} {pins : List (Addr × Obj)} {σ : L2.St} {H : Hp} {s : Shared}
omit [Tb] in
theorem showable_mem : ∀ {ds : List PyData} {d : PyData}, PyData.showableAll ds = true → d ∈ ds → d.showable = true
  | x :: ds, d, h, m => by
    have h2 : x.showable = true ∧ PyData.showableAll ds = true := by simpa [PyData.showableAll] using h
    rcases List.mem_cons.mp m with rfl | m
    · exact h2.1
    · exact showable_mem h2.2 m
omit [Tb] in
theorem shown_mem : ∀ {ds : List PyData} {d : PyData}, d ∈ ds → d.shown ∈ PyData.shownAll ds
  | x :: ds, d, m => by
    simp only [PyData.shownAll]
    rcases List.mem_cons.mp m with rfl | m
    · exact List.mem_cons_self
    · exact List.mem_cons_of_mem _ (shown_mem m)
theorem keyShw {k : Key} {u : Value} (e : keyIs k u = true) (sh : (kD k).showable = true) (sz : (kD k).shown.length ≤ sizeLine) : Shw X.prog X.w s.heap u (kD k) := by
  rcases keyIs_shape e with ⟨i, t, rfl, rfl⟩ | ⟨x, t, rfl, rfl⟩
  · exact ⟨_, [], Reads.int i t, (fun _ m => nomatch m), by simp only [kD, PyData.shown]; exact .of_is (ReprIs.int t (by simpa [kD, PyData.showable] using sh)) _ _ _⟩
  · exact ⟨_, [], Reads.str x t, (fun _ m => nomatch m), by simp only [kD, PyData.shown]; exact .of_is (ReprIs.str x t (by simpa only [kD, PyData.shown] using sz)) _ _ _⟩
theorem keysShw : ∀ {es : List DictEntry} {kvs : List (Key × Value)}, Pairs (mixKind X.prog X.w) es kvs → (∀ q ∈ kvs, (kD q.1).showable = true ∧ (kD q.1).shown.length ≤ sizeLine) → ShwL X.prog X.w s.heap (es.map (·.key)) (kvs.map fun q => kD q.1)
  | _, _, .nil, _ => ShwL.nil
  | _, _, .cons a b t, hk => ShwL.cons (keyShw a (hk _ List.mem_cons_self).1 (hk _ List.mem_cons_self).2) (keysShw t fun q m => hk q (List.mem_cons_of_mem _ m))
mutual
theorem Da.shw (I : L2.Inv X pins σ H s) : ∀ (d : PyData) (v : V) (u : Value), Da X.K H v d → RelV v u → okd d = true → d.showable = true → d.shown.length ≤ sizeLine → Shw X.prog X.w s.heap u d
  | .none, _, _, h, r, _, _, _ => by
    cases h
    cases r
    exact ⟨_, [], Reads.none, (fun _ m => nomatch m), by simp only [PyData.shown]; exact .of_is ReprIs.none _ _ _⟩
  | .bool b, _, _, h, r, _, _, _ => by
    cases h
    cases r
    exact ⟨_, [], Reads.bool b, (fun _ m => nomatch m), by simp only [PyData.shown]; exact .of_is (ReprIs.bool b) _ _ _⟩
  | .int i, _, _, h, r, _, hs, _ => by
    cases h
    obtain ⟨t, rfl⟩ := r
    exact ⟨_, [], Reads.int i t, (fun _ m => nomatch m), by simp only [PyData.shown]; exact .of_is (ReprIs.int t (by simpa [PyData.showable] using hs)) _ _ _⟩
  | .str x, _, _, h, r, _, _, hz => by
    cases h
    obtain ⟨t, rfl⟩ := r
    exact ⟨_, [], Reads.str x t, (fun _ m => nomatch m), by simp only [PyData.shown]; exact .of_is (ReprIs.str x t (by simpa only [PyData.shown] using hz)) _ _ _⟩
  | .list ds, _, _, h, r, n, hs, hz => by
    cases h with
    | lst e ha =>
      cases r
      obtain ⟨its, rv, ⟨o, n2, ho, hc, _, hd⟩, _⟩ := I.list (SqL.of e)
      have hz' : (listText (PyData.shownAll ds)).length ≤ sizeLine := by simpa only [PyData.shown] using hz
      exact (shw_list ho hc hd (DaL.shw I ds _ its ha rv (by simpa [okd] using n) (by simpa [PyData.showable] using hs) fun t ht => Nat.le_trans (listText_mem_le ht) hz') hz).1
  | .tuple ds, _, _, h, r, n, hs, hz => by
    cases h with
    | tup e ha =>
      cases r
      obtain ⟨its, rv, ⟨o, ho, hc, n2, hd⟩, _⟩ := I.tuple e
      have hz' : (tupleText (PyData.shownAll ds)).length ≤ sizeLine := by simpa only [PyData.shown] using hz
      exact (shw_tuple ho hc hd (DaL.shw I ds _ its ha rv (by simpa [okd] using n) (by simpa [PyData.showable] using hs) fun t ht => Nat.le_trans (tupleText_mem_le ht) hz') hz).1
  | .dict ds, _, _, h, r, n, hs, hz => by
    cases h with
    | dct e ha =>
      cases r
      obtain ⟨_, nsys, vs, kv, o, es, ep, ho, ⟨hc, _⟩, hd, _, ps, _⟩ := dk_of I.hok e
      have hz' : (dictText (PyData.shownKv ds)).length ≤ sizeLine := by simpa only [PyData.shown] using hz
      have sk := PyData.showableKv_split ds (by simpa [PyData.showable] using hs)
      refine (shw_dict ho hc hd nsys ?_ ?_ hz).1
      · rw [← ha.keys kv]
        refine keysShw ps fun q m => ?_
        have mem : kD q.1 ∈ ds.map (·.1) := by
          rw [← ha.keys kv]
          exact List.mem_map.mpr ⟨q, m, rfl⟩
        refine ⟨showable_mem sk.1 mem, ?_⟩
        obtain ⟨p, hp, hl⟩ := PyData.shownKv_key_le ds _ (shown_mem mem)
        exact Nat.le_trans hl (Nat.le_trans (dictText_mem_le hp) hz')
      · rw [valsOf ps]
        exact DaK.shw I ds _ vs ha kv (by simpa [okd] using n) sk.2 fun t ht => let ⟨p, hp, hl⟩ := PyData.shownKv_val_le ds t ht; Nat.le_trans hl (Nat.le_trans (dictText_mem_le hp) hz')
    | scr e => simp [okd, okdK] at n
    | fnv e => simp [okd, okdK] at n
    | exn => simp [okd, okdK] at n
    | exc _ _ => simp [okd, okdK] at n
    | ins _ _ _ _ => simp [okd, okdK] at n
    | exw _ _ => simp [okd, okdK] at n
    | exv _ _ _ _ => simp [okd, okdK] at n
    | lam _ _ => simp [okd, okdK] at n
theorem DaL.shw (I : L2.Inv X pins σ H s) : ∀ (ds : List PyData) (vs : List V) (us : List Value), DaL X.K H vs ds → Vals vs us → okdL ds = true → PyData.showableAll ds = true → (∀ t ∈ PyData.shownAll ds, t.length ≤ sizeLine) → ShwL X.prog X.w s.heap us ds
  | [], _, _, h, r, _, _, _ => by
    cases h
    cases r
    exact ShwL.nil
  | d :: ds, _, _, h, r, n, hs, hz => by
    have n2 : okd d = true ∧ okdL ds = true := by simpa [okdL] using n
    have s2 : d.showable = true ∧ PyData.showableAll ds = true := by simpa [PyData.showableAll] using hs
    cases h with
    | cons h1 h2 =>
      cases r with
      | cons r1 r2 => exact ShwL.cons (Da.shw I d _ _ h1 r1 n2.1 s2.1 (hz _ (by simp only [PyData.shownAll]; exact List.mem_cons_self))) (DaL.shw I ds _ _ h2 r2 n2.2 s2.2 fun t ht => hz t (by simp only [PyData.shownAll]; exact List.mem_cons_of_mem _ ht))
theorem DaK.shw (I : L2.Inv X pins σ H s) : ∀ (ds : List (PyData × PyData)) (kvs : List (Key × V)) (vs : List (Key × Value)), DaK X.K H kvs ds → KV kvs vs → okdK ds = true → PyData.showableAll (ds.map (·.2)) = true → (∀ t ∈ PyData.shownAll (ds.map (·.2)), t.length ≤ sizeLine) → ShwL X.prog X.w s.heap (vs.map (·.2)) (ds.map (·.2))
  | [], _, _, h, r, _, _, _ => by
    cases h
    cases r
    exact ShwL.nil
  | (k, d) :: ds, _, _, h, r, n, hs, hz => by
    have n2 : okd d = true ∧ okdK ds = true := by
      cases k <;> simp [okdK] at n <;> exact n
    have s2 : d.showable = true ∧ PyData.showableAll (ds.map (·.2)) = true := by simpa [PyData.showableAll] using hs
    cases h with
    | cons h1 h2 =>
      cases r with
      | cons r1 r2 => exact ShwL.cons (Da.shw I d _ _ h1 r1.2 n2.1 s2.1 (hz _ (by simp only [List.map_cons, PyData.shownAll]; exact List.mem_cons_self))) (DaK.shw I ds _ _ h2 r2 n2.2 s2.2 fun t ht => hz t (by simp only [List.map_cons, PyData.shownAll]; exact List.mem_cons_of_mem _ ht))
end
/-- what list.__repr__ and the others make of data at an address -/
theorem Da.show1 (I : L2.Inv X pins σ H s) {d : PyData} {a : Addr} (da : Da X.K H (.ref a) d) (ok : okd d = true) (hs : d.showable = true) (hz : d.shown.length ≤ sizeLine) : Show1 X.prog X.w s.heap a d := by
  cases da with
  | @lst _ _ ds e ha =>
    obtain ⟨its, rv, ⟨o, n2, ho, hc, _, hd⟩, _⟩ := I.list (SqL.of e)
    have hz' : (listText (PyData.shownAll ds)).length ≤ sizeLine := by simpa only [PyData.shown] using hz
    exact (shw_list ho hc hd (DaL.shw I ds _ its ha rv (by simpa [okd] using ok) (by simpa [PyData.showable] using hs) fun t ht => Nat.le_trans (listText_mem_le ht) hz') hz).2
  | @tup _ _ ds e ha =>
    obtain ⟨its, rv, ⟨o, ho, hc, n2, hd⟩, _⟩ := I.tuple e
    have hz' : (tupleText (PyData.shownAll ds)).length ≤ sizeLine := by simpa only [PyData.shown] using hz
    exact (shw_tuple ho hc hd (DaL.shw I ds _ its ha rv (by simpa [okd] using ok) (by simpa [PyData.showable] using hs) fun t ht => Nat.le_trans (tupleText_mem_le ht) hz') hz).2
  | @dct _ _ ds e ha =>
    obtain ⟨_, nsys, vs, kv, o, es, ep, ho, ⟨hc, _⟩, hd, _, ps, _⟩ := dk_of I.hok e
    have hz' : (dictText (PyData.shownKv ds)).length ≤ sizeLine := by simpa only [PyData.shown] using hz
    have sk := PyData.showableKv_split ds (by simpa [PyData.showable] using hs)
    refine (shw_dict ho hc hd nsys ?_ ?_ hz).2
    · rw [← ha.keys kv]
      refine keysShw ps fun q m => ?_
      have mem : kD q.1 ∈ ds.map (·.1) := by
        rw [← ha.keys kv]
        exact List.mem_map.mpr ⟨q, m, rfl⟩
      refine ⟨showable_mem sk.1 mem, ?_⟩
      obtain ⟨p, hp, hl⟩ := PyData.shownKv_key_le ds _ (shown_mem mem)
      exact Nat.le_trans hl (Nat.le_trans (dictText_mem_le hp) hz')
    · rw [valsOf ps]
      exact DaK.shw I ds _ vs ha kv (by simpa [okd] using ok) sk.2 fun t ht => let ⟨p, hp, hl⟩ := PyData.shownKv_val_le ds t ht; Nat.le_trans hl (Nat.le_trans (dictText_mem_le hp) hz')
  | scr e => simp [okd, okdK] at ok
  | fnv e => simp [okd, okdK] at ok
  | exn => simp [okd, okdK] at ok
  | exc _ _ => simp [okd, okdK] at ok
  | ins _ _ _ _ => simp [okd, okdK] at ok
  | exw _ _ => simp [okd, okdK] at ok
  | exv _ _ _ _ => simp [okd, okdK] at ok
  | lam _ _ => simp [okd, okdK] at ok
end
def OkR (d : PyData) : Prop := d.showable = true ∧ okd d = true ∧ d.shown.length ≤ sizeLine ∧ d.depth ≤ 60
def oReprD (d : PyData) (k : Rv → Prop) : Prop := OkR d ∧ k (.d (.str d.shown))
section
variable {X : Cx} {e : Expr} {t : AT} {pos p : Pos}
theorem call_reprD (gd : X.A.guards = some []) (hu : X.A.units + 64 < cLine) : CallR X (.builtin "repr") (fun xs H Q => ∃ v d, xs = [v] ∧ Da X.K H v d ∧ OkR d ∧ Q (.str d.shown) H) := by
  intro pins s σ H xs us Q I r h
  obtain ⟨v, d, rfl, da, ⟨h1, h2, h3, h4⟩, q⟩ := h
  obtain ⟨y, rfl, ry⟩ := vals1 r
  have far : ∀ {a : Addr}, v = .ref a → wpAny (model X.prog X.w) X.A (call (.builtin "repr") [y]) (EP X pins σ Q) X.xe s := by
    rintro a rfl
    cases ry
    obtain ⟨T, idr, S⟩ := Da.show1 I da h2 h1 h3
    exact call_repr_slot (by omega) (S.typeIs s fun _ _ e => e) S.slotRepr (S.call X.A.in1 _ s _ gd (by show X.A.units + 1 + d.depth < cLine; omega) (fun _ _ e => e) fun h' u tk hk => ⟨_, _, rfl, .str _, H, I.kept hk, ⟨_, rfl⟩, q⟩)
  cases da with
  | non =>
    cases ry
    simp only [PyData.shown] at q
    exact PySem.P.repr_of_none ⟨.str _, H, I.tok _, ⟨_, rfl⟩, q⟩
  | bl b =>
    cases ry
    simp only [PyData.shown] at q
    exact PySem.P.repr_of_bool ⟨.str _, H, I.tok _, ⟨_, rfl⟩, q⟩
  | int i =>
    obtain ⟨t, e⟩ := ry
    subst e
    simp only [PyData.shown] at q
    exact PySem.P.repr_of_int (by simpa [PyData.showable] using h1) ⟨.str _, H, I.tok _, ⟨_, rfl⟩, q⟩
  | str z =>
    obtain ⟨t, e⟩ := ry
    subst e
    simp only [PyData.shown] at q h3
    exact PySem.P.repr_of_str ⟨.str _, H, I.tok _, ⟨_, rfl⟩, q⟩ h3
  | lst e l => exact far rfl
  | tup e l => exact far rfl
  | dct e l => exact far rfl
  | scr e => exact far rfl
  | fnv e => exact far rfl
  | exn => exact far rfl
  | exc _ _ => exact far rfl
  | ins _ _ _ _ => exact far rfl
  | exw _ _ => exact far rfl
  | exv _ _ _ _ => exact far rfl
  | lam _ _ => exact far rfl
theorem ok_reprD {K : PySem.W.Frag} : Ok1c K (fun xs H Q => ∃ v d, xs = [v] ∧ Da K H v d ∧ OkR d ∧ Q (.str d.shown) H) oReprD := by
  intro B H x dx P φ sub hx ⟨c, q⟩ k
  exact ⟨x, dx, rfl, hx.da sub, c, k _ _ _ _ q (New.same sub (.str _))⟩
theorem ae_reprD (gd : X.A.guards = some []) (hu : X.A.units + 64 < cLine) (hg : Gl X "repr") (hm : X.mg "repr" = none) (ha : AE X e t) (he : starEach [e] X.env = (false, eval e X.env) :: starEach [] X.env := by rfl) : AE X (.Call (.Name "repr" p) [e] [] pos) (x1 t oReprD) := ae_b1 ok_reprD (call_reprD gd hu) hg hm (by decide +kernel) ha (he := he)
end
end DL

namespace DL
open PySem PySem.Spec PyProof.Rows L2
variable [Tb]
/-! ### {}, {"x": 1} -/
section
variable {K : PySem.W.Frag} {B H : Hp}
theorem New.dict (e : Sub B H) {p : Addr} {kvs : List (Key × V)} {ds : List (PyData × PyData)} (n : H p = none) (l : DaK K B kvs ds) : New K B H (upd B p (.dK kvs)) (upd H p (.dK kvs)) (.d (.dict ds)) (.ref p) :=
  ⟨Grow.kept e n, .dct upd_same (l.up (Sub.new e.t0 (e.free n)))⟩
end
section
variable {X : Cx} {pos : Pos}
theorem ae_dct0 : AE X (.Dict [] [] pos) (xC (.dict [])) := by
  refine PEimp pe_dnewK ?_
  rintro σ H φ ⟨B, s, Q, R, h, k⟩ p hp
  have nw := New.dict (K := X.K) R.sub hp (kvs := []) (ds := []) .nil
  exact k _ _ _ _ _ h (nw.1.go R) nw.2
theorem ae_dct1 {x : Str} {z : Int} {j j2} {p1 p2 : Pos} : AE X (.Dict [some (.Constant (.str x) j p1)] [.Constant (.int z) j2 p2] pos) (xC (.dict [(.str x, .int z)])) := by
  refine PEimp (pe_disp (pps_cons (tk := tC (.str x)) (tv := tC (.int z)) pe_str pe_int pps_nil) rfl rfl (by simp) (by simp)) ?_
  rintro σ H φ ⟨B, s, Q, R, h, k⟩ p hp
  refine ⟨upd_same, [(.inr x, .int z)], rfl, by simp, ?_⟩
  rw [upd_upd]
  have nw := New.dict (K := X.K) R.sub hp (kvs := [(.inr x, .int z)]) (ds := [(.str x, .int z)]) (.cons (k := .inr x) (.int z) .nil)
  exact k _ _ _ _ _ h (nw.1.go R) nw.2
end
/-! ### t + u of any tuples -/
end DL

namespace DL
open PySem PySem.Spec PyProof.Rows L2
variable [Tb]
/-! ### defs that call themselves -/
def neverM : FM := fun _ _ _ => False
def neverP : FP := fun _ _ => False
section
variable {P : Program} {w : World} {K : PySem.W.Frag} {h : Heap} {mg : Str → Option Value} {base : Heap} {x : Str} {st : Stmt} {ps N : List Str} {k : Nat}
theorem HasM.never (D : DefK K x st) (X : K.In h) (G : h.Ns mainGlobals mg) (b : BindsAll x st ps) (S : FnScope N ps (defScope st)) : HasM P w K mg base (k + 1) x ps neverM := by
  obtain ⟨f, od, an, sl, oc, kV, dc, pm, cd, ct, h1, h2, h3, h4⟩ := D
  have FF := fun_mk (st := st) h2 h3 h4
  refine ⟨f, _, FnG.mk' FF S (fun vs H Q E ⟨_, _, _, _, _, _, _, _, _, _, _, _, _, q, _⟩ => q.elim) ?_, PySem.W.mg_of X G h1, h4, FF.binds b, x, st, FF⟩
  rintro cdv A outer s H vs Q E hcd room ⟨_, _, _, _, _, _, _, _, _, _, _, _, _, q, _⟩
  exact q.elim
theorem HasP.never (D : DefK K x st) (X : K.In h) (G : h.Ns mainGlobals mg) (b : BindsAll x st ps) (S : FnScope N ps (defScope st)) : HasP P w K mg base (k + 1) x ps neverP := by
  obtain ⟨f, od, an, sl, oc, kV, dc, pm, cd, ct, h1, h2, h3, h4⟩ := D
  have FF := fun_mk (st := st) h2 h3 h4
  refine ⟨f, _, FnG.mk' FF S (fun vs H Q E ⟨_, _, _, _, _, q, _⟩ => q.elim) ?_, PySem.W.mg_of X G h1, h4, FF.binds b, x, st, FF⟩
  rintro cdv A outer s H vs Q E hcd room ⟨_, _, _, _, _, q, _⟩
  exact q.elim
end
end DL

namespace DL
open PySem PySem.Spec PyProof.Rows L2
open PySem.W (Frag)
variable [Tb]
/-! ### exceptions of the module as data: what lets them out, what catches them -/
/-- an exception: its class, its fields -/
structure Ec where
  c : Str
  f : List (PyData × PyData) := []
/-- what is wished of an exception that is let out at B, H -/
def ExTo (K : Frag) (B H : Hp) (ec : Ec) (E : XK) : Prop := ∀ C, PySem.W.nsIn K mainGlobals ec.c = some (some (.ref C)) →
  match ec.f with
  | [] => E (.ref C) none H
  | q :: r => ∀ vs d, DaF K B vs (q :: r) → H d = none → E (.ref C) (some d) (upd H d (.xd vs))
structure XEnds extends AEnds where
  ex : Ec → AS → Prop := fun _ _ => False
abbrev XTS := XEnds → AS → Prop
abbrev XT := AS → (Rv → AS → Prop) → (Ec → AS → Prop) → Prop
structure EndsX (K : Frag) (W : WX) (B H : Hp) (σ : L2.St) (s : AS) (A : XEnds) (D : Ends) : Prop where
  ok : EndsOk K B H σ s A.toAEnds D
  ex : ∀ ec s' σ' B' H', A.ex ec s' → Go K B H σ s B' H' σ' s' → ExTo K B' H' ec fun c d H2 => W c d σ' H2
def LiftX (K : Frag) (W : WX) (t : XTS) : TS := fun D σ H => ∃ (B : Hp) (s : AS) (A : XEnds), Rel K B H σ s ∧ t A s ∧ EndsX K W B H σ s A D
def AXt (X : Cx) (W : WX) (st : Stmt) (t : XTS) : Prop := PS X st (LiftX X.K W t)
def AXs (X : Cx) (W : WX) (st : List Stmt) (t : XTS) : Prop := PSs X st (LiftX X.K W t)
/-! the readings -/
def xsB (t : ATS) : XTS := fun D s => t D.toAEnds s
def xsNext : XTS := fun D s => D.nx s
def xsSeq (t u : XTS) : XTS := fun D s => t { D with nx := u D } s
def xsIf (c : BT) (t u : XTS) : XTS := fun D s => c s fun b s1 => if b = true then t D s1 else u D s1
def xsFor (w : DT) (g : GT) (body : XTS) : XTS := fun D s => w s fun xs s1 => ∃ I : Nat → AS → Prop, I 0 s1 ∧ (∀ (i : Nat) d s2, xs[i]? = some d → I i s2 → g d s2 fun s3 => body { D with nx := I (i + 1), ct := I (i + 1), bk := D.nx } s3) ∧ ∀ s2, I xs.length s2 → D.nx s2
def xtB (t : AT) : XT := fun s Q _ => t s Q
def xtR (t : XT) : XT := fun s Q QE => t s (fun r s1 => match r with
  | .f xs => Q (.f xs) s1
  | r => Q (.d (rd s1 r)) (fz s1 r)) QE
def xtAnd (t : AT) (u : XT) : XT := fun s Q QE => t s fun r s1 => match rd s1 r with
  | .bool true => u s1 Q QE
  | .bool false => Q (.d (.bool false)) s1
  | _ => False
def xsExpr (t : XT) : XTS := fun D s => t s (fun _ s1 => D.nx s1) D.ex
def xsAsg (i : Nat) (t : XT) : XTS := fun D s => xtR t s (fun r s1 => i < s1.length ∧ D.nx (s1.set i (sl r))) D.ex
def xsRet (t : XT) : XTS := fun D s => xtR t s D.rt D.ex
/-- raise X(e) with the field n, raise X() -/
def xsRaise (c n : Str) (td : DT) : XTS := fun D s => td s fun ds s1 => match ds with
  | [g] => D.ex ⟨c, [(.str n, g)]⟩ s1
  | _ => False
def xsRaise0 (c : Str) : XTS := fun D s => D.ex ⟨c, []⟩ s
/-- a def of data that returns, or lets an exception out -/
abbrev FX := List PyData → (Rv → Prop) → (Ec → Prop) → Prop
def xtCall (F : FX) (td : DT) : XT := fun s Q QE => td s fun ds s1 => F ds (fun r => Q r s1) fun ec => QE ec s1
def xtCallL (F : FX) (is : List Nat) (td : DT) : XT := fun s Q QE => td s fun ds s1 => ds.length = is.length ∧ F (perm is ds) (fun r => Q r s1) fun ec => QE ec s1
def SpX (K : Frag) (F : FX) : Sp := fun vs H Q E => ∃ (B : Hp) (ds : List PyData) (P : Rv → Prop) (PE : Ec → Prop), Sub B H ∧ DaL K B vs ds ∧ F ds P PE ∧ (∀ r v B' H', P r → New K B H B' H' r v → Q v H') ∧ ∀ ec B' H', PE ec → Grow B H B' H' → ExTo K B' H' ec E
def HasX (P : Program) (w : World) (K : Frag) (mg : Str → Option Value) (base : Heap) (k : Nat) (x : Str) (ps : List Str) (F : FX) : Prop :=
  ∃ f fd, FnG P w K mg base (L2.CX P w) k f fd ps (SpX K F) ∧ mg x = some (.ref f) ∧ PySem.W.keepIn K (.ref f) = true ∧ L2.Binds K fd ps [] ∧ ∃ qual st, Fun K x qual st f fd
/-! ### rules -/
section
variable {K : Frag} {W : WX} {B H B1 H1 : Hp} {σ σ1 : L2.St} {s s1 : AS} {A : XEnds} {D : Ends}
theorem EndsX.shift (g : Go K B H σ s B1 H1 σ1 s1) (e : EndsX K W B H σ s A D) : EndsX K W B1 H1 σ1 s1 A D := ⟨e.ok.shift g, fun ec s' σ' B' H' a k => e.ex _ _ _ _ _ a (g.trans k)⟩
end
section
variable {X : Cx} {W : WX} {e a b c o : Expr} {st : Stmt} {rest sts : List Stmt} {ta : AT} {t u : XT} {tb : BT} {ts us : XTS} {as : ATS} {pos pos' p : Pos} {i j k : Nat} {x y : Str}
theorem pgNox {tg : Expr} {t : TG} (h : PG X.nox tg t) : PG X tg t := ⟨fun pins s σ H v u Q I r hw => wpAny_mono (h.run pins s σ H v u Q (I.wish _) r hw) (fun _ _ ⟨σ', H', I', q⟩ => ⟨σ', H', I'.unwish, q⟩) fun _ _ z => z.elim⟩
theorem paNox {es : List Expr} {t : TA} (h : PA X.nox es t) : PA X es t := ⟨fun pos pins s σ H Q I hw => wpAny_mono (h.run pos pins s σ H Q (I.wish _) hw) (fun _ _ ⟨vs, H', I', r, q⟩ => ⟨vs, H', I'.unwish, r, q⟩) fun _ _ z => z.elim⟩
theorem pkNox {kws : List Keyword} {t : TA} (h : PK X.nox kws t) : PK X kws t := ⟨fun pos pins s σ H Q I hw => wpAny_mono (h.run pos pins s σ H Q (I.wish _) hw) (fun _ _ ⟨vs, H', I', r, q⟩ => ⟨vs, H', I'.unwish, r, q⟩) fun _ _ z => z.elim⟩
theorem ax_b (h : ASt X.nox st as) : AXt X W st (xsB as) := PSimp (PS.nox h) fun D σ H ⟨B, s, A, R, h, e⟩ => ⟨B, s, A.toAEnds, R, h, e.ok⟩
theorem axs_b (h : ASs X.nox sts as) : AXs X W sts (xsB as) := PSsimp (PSs.nox h) fun D σ H ⟨B, s, A, R, h, e⟩ => ⟨B, s, A.toAEnds, R, h, e.ok⟩
theorem axs_cons (h1 : AXt X W st ts) (h2 : AXs X W rest us) : AXs X W (st :: rest) (xsSeq ts us) := by
  refine PSsimp (pss_cons h1 h2) ?_
  rintro D σ H ⟨B, s, A, R, h, e⟩
  refine ⟨B, s, { A with nx := us A }, R, h, ⟨?_, e.ok.rt, e.ok.bk, e.ok.ct⟩, e.ex⟩
  intro s' σ' B' H' q g
  exact ⟨B', s', A, g.rel, q, e.shift g⟩
theorem axs_one (h : AXt X W st ts) : AXs X W [st] ts := pss_one h
theorem ax_if {bs cs : List Stmt} (hc : AB X.nox c tb) (hb : AXs X W bs ts) (hd : AXs X W cs us) : AXt X W (.If c bs cs pos) (xsIf tb ts us) := by
  refine PSimp (ps_if (PT.nox hc) hb hd) ?_
  rintro D σ H ⟨B, s, A, R, h, e⟩
  refine ⟨B, s, _, R, h, ?_⟩
  intro b s1 B1 H1 q g
  cases b with
  | true => exact iteT ⟨B1, s1, A, g.rel, q, e.shift g.toGo⟩
  | false => exact iteF ⟨B1, s1, A, g.rel, q, e.shift g.toGo⟩
end
end DL

namespace DL
open PySem PySem.Spec PyProof.Rows L2
open PySem.W (Frag ksEnv fnX envX kxs_mw excObj excTup)
/-! ### exceptions of the module that keep what they are made with: in given, in index -/
def gxA (fl : Str) (p1 p2 : Pos) : Arguments := { posonlyargs := [], args := [{ arg := "self", annotation := none, pos := p1 }, { arg := fl, annotation := none, pos := p2 }], vararg := none, kwonlyargs := [], kw_defaults := [], kwarg := none, defaults := [] }
def gxB (fl m : Str) (k : Nat) (p0 p1 p2 p3 p4 p5 q1 q2 q3 q4 : Pos) : List Stmt :=
  [.Expr (.Call (.Attribute (.Call (.Name "super" p0) [] [] p1) "__init__" p2) [.Constant (.str m) k p3] [] p4) p5, .Assign [.Attribute (.Name "self" q1) fl q2] (.Name fl q3) q4]
def gxS (fl : Str) : Scope := { kind := .function, names := [(PySem.Str.ofString "self", .local), (fl, .local), (PySem.Str.ofString "__class__", .free), (PySem.Str.ofString "super", .globalImplicit)], isGenerator := false, isCoroutine := false, more := [] }
/-- what the top leaves of such a class, at C, and of its __init__, at fI -/
structure Gxn (fl : Str) (prog : Program) (K : Frag) (mg : Str → Option Value) (x : Str) (C fI : Addr) : Prop where
  ok : fl = "given" ∨ fl = "index"
  gC : mg x = some (.ref C)
  cls : ∃ nm q N bs bm sn sub ab col dd k0 k1 k2 k3 k5, K.lookup C = some (excClassObj nm q C N bs bm true sn sub ab col dd k0 k1 k2 k3 k5 "ValueError.__new__") ∧ HandSPX.refsVE bm = true
  ei : PySem.W.excInitIn K C veB "ValueError.__new__" = true
  sa : PySem.W.findIn K (.ref C) "__setattr__" = some (some (.builtin "object.__setattr__"))
  ga : PySem.W.findIn K (.ref C) "__getattribute__" = some (some (.builtin "BaseException.__getattribute__"))
  gg : PySem.W.findIn K (.ref C) "__getattr__" = some none
  noN : PySem.W.findIn K (.ref C) fl = some none
  iC : PySem.W.findIn K (.ref C) "__init__" = some (some (.ref fI))
  tC : PySem.W.typeIn K (.ref fI) = some (.type "function")
  kC : PySem.W.keepIn K (.ref C) = true
  exC : PySem.W.subIn K (.ref C) (.type "BaseException") = some true
  veC : PySem.W.subIn K (.ref C) (.type "ValueError") = some true
  tyC : PySem.W.typeIn K (.ref C) = some (.type "type")
  hdC : PySem.W.hasDictIn K C = true
  mC : PySem.W.mroIn K C (.ref C) = some true
  sup : PySem.W.ks_superIn K C C "__init__" = some (some (.builtin "ValueError.__init__"))
  any : PySem.W.nsIn K cStatics "thirdparty.any" = some none
  noS : mg "super" = none
  top : (prog.main.scope.names.lookup ("super" : Str)).isSome = false
  fn : ∃ (oc : Value) (od : Option Addr) (doc pm : Value) (an : Option Addr) (cda cc : Addr) (ct : Value) (osl : Array (Option Value)) (qn m : Str) (k : Nat) (p1 p2 r0 r1 r2 r3 r4 r5 q1 q2 q3 q4 : Pos) (ccl : Value) (cdd : Option Addr) (vs : Array Value) (ccs : Array (Option Value)) (file : Str) (tf : Tok) (cl : Value) (cld : Option Addr) (csl : Array (Option Value)), (r2.endLine == r4.line) = true ∧
    K.lookup fI = some ⟨oc, od, .func (fnX "__init__" qn (gxA fl p1 p2) (gxB fl m k r0 r1 r2 r3 r4 r5 q1 q2 q3 q4) (gxS fl) [("__class__", cc)] .none .none doc pm an (.ref cda) ct), osl⟩ ∧ PySem.W.codeIn K (.ref cda) qn = true ∧
    K.lookup cda = some ⟨ccl, cdd, .fields vs, ccs⟩ ∧ vs[2]? = some (.str file tf) ∧ ((prog.main.file : Str) == file) = true ∧ K.lookup cc = some ⟨cl, cld, .cell (some (.ref C)), csl⟩
/-- what __init__ leaves -/
structure GxEnd (fl : Str) (hp h' : Heap) (e C dx t1 : Addr) (v : Value) : Prop where
  keep : ∀ b o, hp.get? b = some o → h'.get? b = some o
  obj : h'.get? e = some { cls := .ref C, dict := some dx, data := .fields #[.ref t1, .none, .none, .none, .bool false, .none] }
  dbig : hp.objs.size ≤ dx
  dne : dx ≠ e
  ns : h'.Ns1 dx (fun y => if y = fl then some v else none)
section
variable {prog : Program} {w : World} {A : Around} {R : Result → Shared → Prop} {K : Frag} {mg : Str → Option Value} {x fl : Str} {C fI : Addr}
theorem gx_init {as : Args} (T : Gxn fl prog K mg x C fI) {hp h : Heap} {g : Array GenState} {d : Drawn} {tk : Nat} {os : OsState} {e t0 : Addr} {v : Value} {mb : Str → Option Value} (X : K.In hp) (k : ∀ b o, hp.get? b = some o → h.get? b = some o) (hne : hp.get? e = none) (hle : hp.objs.size ≤ h.objs.size)
    (hg : hp.Ns mainGlobals mg) (hb : hp.Ns builtinsNs mb) (hbs : mb "super" = some (.type "super")) (hlim : h.NoLimit) (he : h.get? e = some (HandSPX.excO C t0)) (hroom : A.depth < recursionLimit)
    (hq : ∀ h' tk' dx t1, GxEnd fl hp h' e C dx t1 v → R (.ok (.ret .none)) ⟨h', g, d, tk', os⟩) (has : as = ⟨[.ref e, v], []⟩ ∨ as = ⟨[.ref e], [(fl, v)]⟩ := by exact Or.inl rfl) : codeAny (model prog w) A (.call (.ref fI) as) R ⟨h, g, d, tk, os⟩ := by
  rcases T.ok with rfl | rfl
  · obtain ⟨oc, od, doc, pm, an, cda, cc, ct, osl, qn, m, kk, p1, p2, r0, r1, r2, r3, r4, r5, q1, q2, q3, q4, ccl, cdd, vs, ccs, file, tf, cl, cld, csl, hline, ho, hcd, hda, hvs, hfile, hcell⟩ := T.fn
    obtain ⟨nm, q, N, bs, bm, sn, sub, ab, col, dd, k0, k1, k2, k3, k5, hC, hbm⟩ := T.cls
    have hcl : PySem.W.clsIn K C = some { name := nm, bases := bs, mro := .ref C :: bm, ns := N, qualname := q, hasDict := true, slotNames := sn, subclasses := sub, abstract := ab, collection := col, hasDel := false } := by unfold PySem.W.clsIn; rw [hC] <;> rfl
    have Xh : K.In h := X.keeps k
    refine ks_codeAny_call_defAt (fd := fnX "__init__" qn (gxA "given" p1 p2) (gxB "given" m kk r0 r1 r2 r3 r4 r5 q1 q2 q3 q4) (gxS "given") [("__class__", cc)] .none .none doc pm an (.ref cda) ct) (body := gxB "given" m kk r0 r1 r2 r3 r4 r5 q1 q2 q3 q4) (binds := [("self", .ref e), ("given", v)]) hroom (Xh _ _ ho) rfl hlim (PySem.W.codeRec_of Xh hcd) rfl (by rcases has with rfl | rfl <;> exact BindsTo.of_eq (by first | rfl | with_unfolding_all rfl)) (by show ∀ y ∈ (gxS "given").names, y.2 ≠ .cell; decide) (fun y hy => by simp only [List.mem_cons, List.not_mem_nil, or_false] at hy; rcases hy with rfl | rfl <;> rfl) (fun h₁ hns hk => ?_) rfl rfl rfl
    replace hns : h₁.Ns h.objs.size (fun y => ([("self", .ref e), ("given", v)] : List (Str × Value)).reverse.lookup y) := hns
    have kh : ∀ b o, h.get? b = some o → h₁.get? b = some o := hk
    have k₁ : ∀ b o, hp.get? b = some o → h₁.get? b = some o := fun b o z => kh b o (k b o z)
    have X₁ : K.In h₁ := X.keeps k₁
    have he₁ := kh _ _ he
    have neL : e ≠ h.objs.size := Nat.ne_of_lt (Heap.lt_size he)
    have F₁ : Fr hp h.objs.size h₁ (fun y => ([("self", .ref e), ("given", v)] : List (Str × Value)).reverse.lookup y) := ⟨hns, k₁, hle⟩
    have N₁ : News hp h.objs.size h₁ [(e, excObj C t0 none .none)] := fun p hp' => by
      rw [List.mem_singleton] at hp'
      subst hp'
      exact ⟨he₁, neL, hne⟩
    show PySem.wpAt (model prog w) (A.deeper (ksEnv qn (gxS "given") h.objs.size fI (.ref cda) cc)) (.func (gxB "given" m kk r0 r1 r2 r3 r4 r5 q1 q2 q3 q4) (ksEnv qn (gxS "given") h.objs.size fI (.ref cda) cc)) (execs (gxB "given" m kk r0 r1 r2 r3 r4 r5 q1 q2 q3 q4) (ksEnv qn (gxS "given") h.objs.size fI (.ref cda) cc)) _ _ _
    refine ks_wpAt_execs_cons (ks_wpAt_Expr_any (ks_wpAt_MethodCall ?_ (ev_sup hline)))
    refine ks_wpAt_super_base (env := ksEnv qn (gxS "given") h.objs.size fI (.ref cda) cc) rfl rfl (by decide) rfl (X₁ _ _ ho) rfl rfl rfl (X₁ _ _ hda) rfl hvs hfile T.top ?_
    refine PySem.W.ks_loadName_global rfl rfl (Calls.loadGlobal_builtin (env := ksEnv qn (gxS "given") h.objs.size fI (.ref cda) cc) (hg.keeps k₁) T.noS (hb.keeps k₁) hbs ⟨rfl, ?_⟩)
    refine wpAny_loadName_free rfl rfl rfl ⟨_, X₁ _ _ hcell, rfl⟩ ?_
    refine wpAny_loadName_local rfl rfl F₁.ns (v := .ref e) rfl ?_
    refine ks_wpAny_isType_cls (X₁ _ _ hC) rfl ⟨rfl, ?_⟩
    refine ks_wpAny_call_super (C := C) (X₁ _ _ hC) rfl he₁ rfl (fun c z => by cases z) (PySem.W.looks_mroIn X₁ T.mC) (fun h₂ eso k₂ => ?_)
    have so_n : h₁.objs.size ≠ e := Nat.ne_of_gt (Heap.lt_size he₁)
    have X₂ : K.In h₂ := X₁.keeps k₂
    have he₂ := k₂ _ _ he₁
    have I₂ : PySem.W.InstAt h₂ e (HandSPX.excO C t0) C none := ⟨he₂, rfl, rfl, trivial⟩
    have hI : PySem.W.Looks (model prog w) h₂ (isInstance (.ref e) (.type "ValueError")) true := I₂.type.andThen (PySem.W.looks_subIn X₂ T.veC)
    have hsu := T.sup
    unfold PySem.W.ks_superIn at hsu
    rw [hcl] at hsu
    refine PySem.W.kxs_getMethod PySem.W.kxs_ValueError (D := C) (x := e) (C := C) eso (PySem.W.looks_opaque X₂ T.any) (l₀ := .ref C :: bm) (fun A' Q' E' s' k' q' => wpAny_bind ((PySem.W.looks_clsIn X₂ hcl) A' _ E' s' k' (wpAny_pure q'))) rfl X₂ hsu hI (PySem.W.ks_ne X₂ I₂ hcl) (by decide) ?_
    have F₂ : Fr hp h.objs.size h₂ (fun y => ([("self", .ref e), ("given", v)] : List (Str × Value)).reverse.lookup y) := ⟨F₁.ns.keeps k₂, fun b o z => k₂ b o (k₁ b o z), hle⟩
    have k₃ : ∀ b o, h₂.get? b = some o → (h₂.push (kxs_mw "ValueError.__init__" e)).get? b = some o := fun b o z => Heap.get?_push_of_some _ z
    have F₃ : Fr hp h.objs.size (h₂.push (kxs_mw "ValueError.__init__" e)) (fun y => ([("self", .ref e), ("given", v)] : List (Str × Value)).reverse.lookup y) := ⟨F₂.ns.keeps k₃, fun b o z => k₃ b o (F₂.keep b o z), hle⟩
    have hu : (h₂.push (kxs_mw "ValueError.__init__" e)).get? h₂.objs.size = some (kxs_mw "ValueError.__init__" e) := Heap.get?_push_at rfl rfl
    have ue : e ≠ h₂.objs.size := Nat.ne_of_lt (Heap.lt_size he₂)
    have lL : h.objs.size < h₂.objs.size := F₂.ns.lt
    have N₃ : News hp h.objs.size (h₂.push (kxs_mw "ValueError.__init__" e)) [(h₂.objs.size, kxs_mw "ValueError.__init__" e), (e, excObj C t0 none .none)] := fun p hp' => by
      simp only [List.mem_cons, List.not_mem_nil, or_false] at hp'
      rcases hp' with rfl | rfl
      · exact ⟨hu, Nat.ne_of_gt lL, Heap.get?_none_of_le (Nat.le_trans hle (Nat.le_of_lt lL))⟩
      · exact ⟨k₃ _ _ he₂, neL, hne⟩
    refine PySem.W.kxs_callWith1 N₃ List.mem_cons_self ?_ rfl rfl
    refine Calls.spliced_cons (Calls.Constant_str (k := kk) (pos := r3) (Calls.spliced_nil ⟨hu, ?_⟩))
    refine PySem.W.kxs_call (s := ⟨h₂.push (kxs_mw "ValueError.__init__" e), g, d, _, os⟩) F₃ X N₃ PySem.F.excBase_ValueError T.ei List.mem_cons_self (.tail (Ne.symm ue) (.head (fun p z => nomatch z))) (by show 1 ≤ sizeLine; rw [sizeLine_eq]; decide) (fun t' h₄ F₄ N₄ lt₄ => ?_)
    have X₄ : K.In h₄ := X.keeps F₄.keep
    have he₄ : h₄.get? e = some (excObj C t' none .none) := (N₄ (e, excObj C t' none .none) (by simp)).1
    have ld : ∀ {y : Str} {pos : Pos} {u : Value} {tk' : Nat} {E : Value → Shared → Prop} {Q : Value → Shared → Prop}, ([("self", .ref e), ("given", v)] : List (Str × Value)).reverse.lookup y = some u → (ksEnv qn (gxS "given") h.objs.size fI (.ref cda) cc).kindOf y = some .local → (y == ("__debug__" : Str)) = false → Q u ⟨h₄, g, d, tk', os⟩ →
        wpAny (model prog w) (A.deeper (ksEnv qn (gxS "given") h.objs.size fI (.ref cda) cc)) (eval (.Name y pos) (ksEnv qn (gxS "given") h.objs.size fI (.ref cda) cc)) Q E ⟨h₄, g, d, tk', os⟩ := fun hv hl hd q => wpAny_Name (wpAny_loadName_local rfl hl F₄.ns hv q) hd
    refine ks_wpAt_execs_cons (ks_wpAt_Assign_Attr ?_)
    refine wpAt_of_wpAny (ld (y := "given") (u := v) rfl rfl (by decide) ?_)
    refine ld (y := "self") (u := .ref e) rfl rfl (by decide) ?_
    refine PySem.W.set_plain X₄ (ox := excObj C t' none .none) (od := none) ⟨he₄, rfl, rfl, trivial⟩ T.sa ?_
    refine HandSPX.exc_osa X₄ he₄ hcl (show HandSPX.refsVE (.ref C :: bm) = true from hbm) rfl T.noN (fun h₅ tk₅ dx k₅ dn dne hx₅ hn₅ => ?_)
    refine wpAt_of_wpAny (wpAny_execs_nil ?_)
    refine hq h₅ tk₅ dx t' ⟨fun b o z => k₅ b o (fun y => by rw [y, hne] at z; cases z) (F₄.keep b o z), hx₅, ?_, dne, hn₅⟩
    exact Nat.le_trans hle (Nat.le_trans (Nat.le_of_lt F₄.ns.lt) dn)
  · obtain ⟨oc, od, doc, pm, an, cda, cc, ct, osl, qn, m, kk, p1, p2, r0, r1, r2, r3, r4, r5, q1, q2, q3, q4, ccl, cdd, vs, ccs, file, tf, cl, cld, csl, hline, ho, hcd, hda, hvs, hfile, hcell⟩ := T.fn
    obtain ⟨nm, q, N, bs, bm, sn, sub, ab, col, dd, k0, k1, k2, k3, k5, hC, hbm⟩ := T.cls
    have hcl : PySem.W.clsIn K C = some { name := nm, bases := bs, mro := .ref C :: bm, ns := N, qualname := q, hasDict := true, slotNames := sn, subclasses := sub, abstract := ab, collection := col, hasDel := false } := by unfold PySem.W.clsIn; rw [hC] <;> rfl
    have Xh : K.In h := X.keeps k
    refine ks_codeAny_call_defAt (fd := fnX "__init__" qn (gxA "index" p1 p2) (gxB "index" m kk r0 r1 r2 r3 r4 r5 q1 q2 q3 q4) (gxS "index") [("__class__", cc)] .none .none doc pm an (.ref cda) ct) (body := gxB "index" m kk r0 r1 r2 r3 r4 r5 q1 q2 q3 q4) (binds := [("self", .ref e), ("index", v)]) hroom (Xh _ _ ho) rfl hlim (PySem.W.codeRec_of Xh hcd) rfl (by rcases has with rfl | rfl <;> exact BindsTo.of_eq (by first | rfl | with_unfolding_all rfl)) (by show ∀ y ∈ (gxS "index").names, y.2 ≠ .cell; decide) (fun y hy => by simp only [List.mem_cons, List.not_mem_nil, or_false] at hy; rcases hy with rfl | rfl <;> rfl) (fun h₁ hns hk => ?_) rfl rfl rfl
    replace hns : h₁.Ns h.objs.size (fun y => ([("self", .ref e), ("index", v)] : List (Str × Value)).reverse.lookup y) := hns
    have kh : ∀ b o, h.get? b = some o → h₁.get? b = some o := hk
    have k₁ : ∀ b o, hp.get? b = some o → h₁.get? b = some o := fun b o z => kh b o (k b o z)
    have X₁ : K.In h₁ := X.keeps k₁
    have he₁ := kh _ _ he
    have neL : e ≠ h.objs.size := Nat.ne_of_lt (Heap.lt_size he)
    have F₁ : Fr hp h.objs.size h₁ (fun y => ([("self", .ref e), ("index", v)] : List (Str × Value)).reverse.lookup y) := ⟨hns, k₁, hle⟩
    have N₁ : News hp h.objs.size h₁ [(e, excObj C t0 none .none)] := fun p hp' => by
      rw [List.mem_singleton] at hp'
      subst hp'
      exact ⟨he₁, neL, hne⟩
    show PySem.wpAt (model prog w) (A.deeper (ksEnv qn (gxS "index") h.objs.size fI (.ref cda) cc)) (.func (gxB "index" m kk r0 r1 r2 r3 r4 r5 q1 q2 q3 q4) (ksEnv qn (gxS "index") h.objs.size fI (.ref cda) cc)) (execs (gxB "index" m kk r0 r1 r2 r3 r4 r5 q1 q2 q3 q4) (ksEnv qn (gxS "index") h.objs.size fI (.ref cda) cc)) _ _ _
    refine ks_wpAt_execs_cons (ks_wpAt_Expr_any (ks_wpAt_MethodCall ?_ (ev_sup hline)))
    refine ks_wpAt_super_base (env := ksEnv qn (gxS "index") h.objs.size fI (.ref cda) cc) rfl rfl (by decide) rfl (X₁ _ _ ho) rfl rfl rfl (X₁ _ _ hda) rfl hvs hfile T.top ?_
    refine PySem.W.ks_loadName_global rfl rfl (Calls.loadGlobal_builtin (env := ksEnv qn (gxS "index") h.objs.size fI (.ref cda) cc) (hg.keeps k₁) T.noS (hb.keeps k₁) hbs ⟨rfl, ?_⟩)
    refine wpAny_loadName_free rfl rfl rfl ⟨_, X₁ _ _ hcell, rfl⟩ ?_
    refine wpAny_loadName_local rfl rfl F₁.ns (v := .ref e) rfl ?_
    refine ks_wpAny_isType_cls (X₁ _ _ hC) rfl ⟨rfl, ?_⟩
    refine ks_wpAny_call_super (C := C) (X₁ _ _ hC) rfl he₁ rfl (fun c z => by cases z) (PySem.W.looks_mroIn X₁ T.mC) (fun h₂ eso k₂ => ?_)
    have so_n : h₁.objs.size ≠ e := Nat.ne_of_gt (Heap.lt_size he₁)
    have X₂ : K.In h₂ := X₁.keeps k₂
    have he₂ := k₂ _ _ he₁
    have I₂ : PySem.W.InstAt h₂ e (HandSPX.excO C t0) C none := ⟨he₂, rfl, rfl, trivial⟩
    have hI : PySem.W.Looks (model prog w) h₂ (isInstance (.ref e) (.type "ValueError")) true := I₂.type.andThen (PySem.W.looks_subIn X₂ T.veC)
    have hsu := T.sup
    unfold PySem.W.ks_superIn at hsu
    rw [hcl] at hsu
    refine PySem.W.kxs_getMethod PySem.W.kxs_ValueError (D := C) (x := e) (C := C) eso (PySem.W.looks_opaque X₂ T.any) (l₀ := .ref C :: bm) (fun A' Q' E' s' k' q' => wpAny_bind ((PySem.W.looks_clsIn X₂ hcl) A' _ E' s' k' (wpAny_pure q'))) rfl X₂ hsu hI (PySem.W.ks_ne X₂ I₂ hcl) (by decide) ?_
    have F₂ : Fr hp h.objs.size h₂ (fun y => ([("self", .ref e), ("index", v)] : List (Str × Value)).reverse.lookup y) := ⟨F₁.ns.keeps k₂, fun b o z => k₂ b o (k₁ b o z), hle⟩
    have k₃ : ∀ b o, h₂.get? b = some o → (h₂.push (kxs_mw "ValueError.__init__" e)).get? b = some o := fun b o z => Heap.get?_push_of_some _ z
    have F₃ : Fr hp h.objs.size (h₂.push (kxs_mw "ValueError.__init__" e)) (fun y => ([("self", .ref e), ("index", v)] : List (Str × Value)).reverse.lookup y) := ⟨F₂.ns.keeps k₃, fun b o z => k₃ b o (F₂.keep b o z), hle⟩
    have hu : (h₂.push (kxs_mw "ValueError.__init__" e)).get? h₂.objs.size = some (kxs_mw "ValueError.__init__" e) := Heap.get?_push_at rfl rfl
    have ue : e ≠ h₂.objs.size := Nat.ne_of_lt (Heap.lt_size he₂)
    have lL : h.objs.size < h₂.objs.size := F₂.ns.lt
    have N₃ : News hp h.objs.size (h₂.push (kxs_mw "ValueError.__init__" e)) [(h₂.objs.size, kxs_mw "ValueError.__init__" e), (e, excObj C t0 none .none)] := fun p hp' => by
      simp only [List.mem_cons, List.not_mem_nil, or_false] at hp'
      rcases hp' with rfl | rfl
      · exact ⟨hu, Nat.ne_of_gt lL, Heap.get?_none_of_le (Nat.le_trans hle (Nat.le_of_lt lL))⟩
      · exact ⟨k₃ _ _ he₂, neL, hne⟩
    refine PySem.W.kxs_callWith1 N₃ List.mem_cons_self ?_ rfl rfl
    refine Calls.spliced_cons (Calls.Constant_str (k := kk) (pos := r3) (Calls.spliced_nil ⟨hu, ?_⟩))
    refine PySem.W.kxs_call (s := ⟨h₂.push (kxs_mw "ValueError.__init__" e), g, d, _, os⟩) F₃ X N₃ PySem.F.excBase_ValueError T.ei List.mem_cons_self (.tail (Ne.symm ue) (.head (fun p z => nomatch z))) (by show 1 ≤ sizeLine; rw [sizeLine_eq]; decide) (fun t' h₄ F₄ N₄ lt₄ => ?_)
    have X₄ : K.In h₄ := X.keeps F₄.keep
    have he₄ : h₄.get? e = some (excObj C t' none .none) := (N₄ (e, excObj C t' none .none) (by simp)).1
    have ld : ∀ {y : Str} {pos : Pos} {u : Value} {tk' : Nat} {E : Value → Shared → Prop} {Q : Value → Shared → Prop}, ([("self", .ref e), ("index", v)] : List (Str × Value)).reverse.lookup y = some u → (ksEnv qn (gxS "index") h.objs.size fI (.ref cda) cc).kindOf y = some .local → (y == ("__debug__" : Str)) = false → Q u ⟨h₄, g, d, tk', os⟩ →
        wpAny (model prog w) (A.deeper (ksEnv qn (gxS "index") h.objs.size fI (.ref cda) cc)) (eval (.Name y pos) (ksEnv qn (gxS "index") h.objs.size fI (.ref cda) cc)) Q E ⟨h₄, g, d, tk', os⟩ := fun hv hl hd q => wpAny_Name (wpAny_loadName_local rfl hl F₄.ns hv q) hd
    refine ks_wpAt_execs_cons (ks_wpAt_Assign_Attr ?_)
    refine wpAt_of_wpAny (ld (y := "index") (u := v) rfl rfl (by decide) ?_)
    refine ld (y := "self") (u := .ref e) rfl rfl (by decide) ?_
    refine PySem.W.set_plain X₄ (ox := excObj C t' none .none) (od := none) ⟨he₄, rfl, rfl, trivial⟩ T.sa ?_
    refine HandSPX.exc_osa X₄ he₄ hcl (show HandSPX.refsVE (.ref C :: bm) = true from hbm) rfl T.noN (fun h₅ tk₅ dx k₅ dn dne hx₅ hn₅ => ?_)
    refine wpAt_of_wpAny (wpAny_execs_nil ?_)
    refine hq h₅ tk₅ dx t' ⟨fun b o z => k₅ b o (fun y => by rw [y, hne] at z; cases z) (F₄.keep b o z), hx₅, ?_, dne, hn₅⟩
    exact Nat.le_trans hle (Nat.le_trans (Nat.le_of_lt F₄.ns.lt) dn)
/-- a made one -/
structure GxMade (fl : Str) (h h' : Heap) (e C d : Addr) (v : Value) : Prop where
  keep : ∀ b o, h.get? b = some o → h'.get? b = some o
  new : h.objs.size ≤ e
  obj : ∃ oe vs, h'.get? e = some oe ∧ oe.cls = .ref C ∧ oe.dict = some d ∧ oe.data = .fields vs ∧ vs[1]? = some .none
  dbig : h.objs.size ≤ d
  dne : d ≠ e
  ns : h'.Ns1 d (fun y => if y = fl then some v else none)
theorem gx_made (T : Gxn fl prog K mg x C fI) {h : Heap} {g : Array GenState} {d : Drawn} {tk : Nat} {os : OsState} {v : Value} {mb : Str → Option Value} (X : K.In h) (hg : h.Ns mainGlobals mg) (hb : h.Ns builtinsNs mb) (hbs : mb "super" = some (.type "super")) (hlim : h.NoLimit) (hroom : A.depth + 1 < recursionLimit)
    (hq : ∀ h' tk' e dx, GxMade fl h h' e C dx v → R (.ok (.ret (.ref e))) ⟨h', g, d, tk', os⟩) : codeAny (model prog w) A (.call (.ref C) ⟨[v], []⟩) R ⟨h, g, d, tk, os⟩ := by
  obtain ⟨nm, q, N, bs, bm, sn, sub, ab, col, dd, k0, k1, k2, k3, k5, hC, hbm⟩ := T.cls
  have k : ∀ b o, h.get? b = some o → ((h.push (PySem.W.kdv_tup [v])).push (HandSPX.excO C h.objs.size)).get? b = some o := fun b o z => Heap.get?_push_of_some _ (Heap.get?_push_of_some _ z)
  have hget : ((h.push (PySem.W.kdv_tup [v])).push (HandSPX.excO C h.objs.size)).get? (h.objs.size + 1) = some (HandSPX.excO C h.objs.size) := Heap.get?_push_at (by rw [Heap.size_push]) rfl
  refine HandSPX.call_own PySem.F.excBase_ValueError (fun y => HandSPX.refsVE_contains y bm hbm) (X _ _ hC) (PySem.W.looks_findIn X T.iC) (fun self => PySem.W.bind_fn X self T.tC) (by show 1 ≤ sizeLine; rw [sizeLine_eq]; decide) ?_
  refine gx_init T X k (Heap.get?_none_of_le (Nat.le_succ _)) (by rw [Heap.size_push, Heap.size_push]; omega) hg hb hbs (hlim.keeps k) hget hroom fun h' tk' dx t1 M => ?_
  exact ⟨rfl, hq h' tk' (h.objs.size + 1) dx ⟨M.keep, Nat.le_succ _, ⟨_, _, M.obj, rfl, rfl, rfl, rfl⟩, M.dbig, M.dne, M.ns⟩⟩
end
theorem relO_gx {v : V} {v' : Value} (r : RelV v v') (fl f : Str) : RelO (List.lookup f [(fl, v)]) (if f = fl then some v' else none) := by
  by_cases hw : f = fl
  · subst hw
    rw [if_pos rfl, show List.lookup f [(f, v)] = some v by simp [List.lookup]]
    exact r
  · have qw : (f == fl) = false := by simpa using hw
    rw [if_neg hw, show List.lookup f [(fl, v)] = none by simp [List.lookup, qw]]
    trivial
abbrev xdX (fl : Str) (v : V) : HO := .xd [(fl, v)]
/-- X(e) -/
def tMkX (fl : Str) (C : Addr) (ta : TA) : L2.St → Hp → XK → Prop := fun σ H Q => ta σ H fun vs H1 => ∃ v, vs = [v] ∧ ∀ d, H1 d = none → Q (.ref C) (some d) (upd H1 d (xdX fl v))
theorem pmk_gx {X : Cx} {x fl : Str} {C fI : Addr} {a : Expr} {ta : TA} {p pos : Pos} {k : Nat} (T : Gxn fl X.prog X.K X.mg x C fI) (hr : Room (k + 1) X.A) (ha : PA X [a] ta) (hg : Gl X x) (hdb : (x == ("__debug__" : Str)) = false := by decide)
    (he : starEach (a :: []) X.env = (false, eval a X.env) :: starEach [] X.env := by rfl) (hpl : (backTo pos (starEach [] X.env)).any (·.1) = false := by rfl) :
    PMk X (.Call (.Name x p) [a] [] pos) (tMkX fl C ta) := by
  intro pins s σ H Q I h
  refine wpAny_Call_Name_kw (ld_glob I hg T.gC ?_ hdb)
  refine PySem.W.callWith_K (h₀ := X.base) I.ok.mod.kin T.kC (thn (ha.run pos pins s σ H _ I h) fun us s1 hh => ?_) he hpl
  obtain ⟨vs, H1, I1, r1, v, ev, q1⟩ := hh
  subst ev
  refine ⟨I1.kIn, ?_⟩
  cases r1 with
  | cons rv rn =>
    rename_i v' us'
    cases rn
    show wpAny _ _ (call (.ref C) [v']) _ _ _
    have hlim := I1.nolimit
    obtain ⟨mb, hb, hbs⟩ := I1.mod.blt
    have hgl := I1.mod.glob.keeps I1.bk
    have hbl := hb.keeps I1.bk
    have kin := I1.kIn
    obtain ⟨hp, g, dr, tk, os⟩ := s1
    refine wpAny_call (gx_made T kin hgl hbl ((hbs _ (by decide)).trans (by boot_by_name)) hlim (by have := hr.dp; omega) fun h' tk' e d M => ?_)
    show MkP X pins σ Q (.ref e) ⟨h', g, dr, tk', os⟩
    obtain ⟨oe, fv, hoe, hc, hd, hdat, h1⟩ := M.obj
    have hns := M.ns
    obtain ⟨G', g1, g2⟩ := restrict h' fun b => decide (b ≠ e)
    have gk : ∀ b, b ≠ e → G'.get? b = h'.get? b := fun b n => g1 b (decide_eq_true n)
    have ge : G'.get? e = none := g2 e (by simp)
    have old : ∀ b o, hp.get? b = some o → G'.get? b = some o := fun b o q => (gk b (Nat.ne_of_lt (Nat.lt_of_lt_of_le (Heap.lt_size q) M.new))).trans (M.keep b o q)
    have ob : ObjOk X.prog X.w (upd H1 d (xdX fl v)) G' d (xdX fl v) := ⟨_, hns.at (fun o q => (gk d M.dne).trans q), fun f => relO_gx rv fl f⟩
    have J : Inv X pins σ (upd H1 d (xdX fl v)) ⟨G', g, dr, tk', os⟩ := I1.laid (t' := tk') old M.dbig ob
    refine ⟨e, oe, fv, ⟨G', g, dr, tk', os⟩, _, .ref C, some d, rfl, J, fun b o q => ?_, ge, hoe, ⟨hc, hd⟩, hdat, h1, ?_, rfl, I1.bare, raises_own T.exC T.tyC, q1 d (I1.hok.fresh M.dbig)⟩
    · by_cases hq : b = e
      · have q' : G'.get? b = some o := q
        rw [hq, ge] at q'
        cases q'
      · exact (gk b hq).symm.trans q
    · rw [upd_ne (Ne.symm M.dne)]
      exact I1.hok.fresh M.new
end DL

namespace DL
open PySem PySem.Spec PyProof.Rows L2
open PySem.W (Frag)
/-! ### several clauses, each with a name or without -/
/-- how the ends look where the clause's name is gone again -/
def goneE (D : Ends) : Option Nat → Ends
  | none => D
  | some i => { nx := fun σ H => D.nx (σ.set i none) H, rt := D.rt, bk := fun σ H => D.bk (σ.set i none) H, ct := fun σ H => D.ct (σ.set i none) H }
def heldE (σ : L2.St) (a : Addr) : Option Nat → L2.St
  | none => σ
  | some i => σ.set i (some (.ref a))
abbrev Cls := Value × Option Nat × (Addr → Value → Option Addr → TS)
def wishes (K : Frag) (Wout : WX) (D : Ends) : List Cls → WX
  | [] => Wout
  | (c, oi, ts) :: r => fun cls d σ H => ∃ b, PySem.W.exmOne K cls c = some b ∧ (b = true → ∀ a, H a = none → ts a cls d (goneE D oi) (heldE σ a oi) H) ∧ (b = false → wishes K Wout D r cls d σ H)
/-- the name of a clause, and its slot -/
def Slot (X : Cx) : Option Str → Option Nat → Prop
  | none, none => True
  | some n, some i => X.N[i]? = some n ∧ X.env.kindOf n = some .local
  | _, _ => False
inductive Clauses (X : Cx) : List ExceptHandler → List Cls → Prop
  | nil : Clauses X [] []
  | cons {x : Str} {c : Value} {on : Option Str} {oi : Option Nat} {ts : Addr → Value → Option Addr → TS} {b0 : Stmt} {suite : List Stmt} {np pos' : Pos} {hs : List ExceptHandler} {l : List Cls} (named : Names X x c) (slot : Slot X on oi)
      (su : ∀ (a : Addr) (oe : Obj) (cls : Value) (d : Option Addr) (pn : List (Addr × Obj)), Zc cls d oe → (∃ vs, oe.data = .fields vs) → PSs (X.suite a ((a, oe) :: pn)) (b0 :: suite) (ts a cls d)) (rest : Clauses X hs l) :
      Clauses X (.ExceptHandler (some (.Name x np)) on (b0 :: suite) pos' :: hs) ((c, oi, ts) :: l)
section
variable {X : Cx} {body : List Stmt} {h0 : ExceptHandler} {hs : List ExceptHandler} {l : List Cls} {pos : Pos} {tb : WX → TS} {Wout : WX}
theorem ps_try_clauses (stk : X.stack = X.env :: X.outer) (frm : X.env.frame = some X.env.locals) (nd : X.N.Nodup) (tk : Takes X Wout)
    (hb : ∀ (W : WX) (pn : List (Addr × Obj)) (xe : Value → Shared → Prop), Takes (X.tr pn xe) W → PassesOwn (model X.prog X.w) X.A X.env xe → PSs (X.tr pn xe) body (tb W))
    (cl : Clauses X (h0 :: hs) l) : PS X (.Try body (h0 :: hs) [] [] pos) (fun D σ H => tb (wishes X.K Wout D l) D σ H) := by
  refine ⟨fun pins s σ H D I h => wpAny_Try_except ?_⟩
  have ok := I.ok
  have fr := ok.frames
  rw [stk] at fr
  let xe : Value → Shared → Prop := fun e z1 => wpAny (model X.prog X.w) X.A (noteFrame e X.env) (fun _ z2 => wpAny (model X.prog X.w) X.A (setFlight e none) (fun _ z3 => wpAny (model X.prog X.w) X.A (handleBy e X.env (h0 :: hs)) (SP X pins D) X.xe z3) X.xe z2) X.xe z1
  have run := (hb (wishes X.K Wout D l) (X.pn ++ pins) xe ?takes PassesOwn.looking).run [] s σ H D (I.toTry _) h
  case takes =>
    rintro u z ⟨a, G, sI, ps, σ1, H1, cls, d, rfl, J0, below, slots, sky, free, os, gens, wish⟩
    have J : Inv X pins σ1 H1 sI := J0.ofTry ok
    rw [show (X.tr (X.pn ++ pins) xe).stack = X.env :: X.outer from stk] at sky
    refine Sky.land Zc.steady fr frm sky fun g3 f3 up3 => ?_
    have J3 : Inv X pins σ1 H1 { z with heap := g3 } := J.landed below f3.1 (slots.trans up3) os gens
    obtain ⟨oe3, vs3, at3, z3, dat3⟩ := f3.there
    have off : a ∉ frs (X.env :: X.outer) := by
      intro m
      obtain ⟨_, o, eo, nf⟩ := f3.2.2.1.mem m
      rw [at3] at eo
      cases eo
      exact nf _ dat3
    have offL : a ≠ X.env.locals := by
      intro q
      exact off (List.mem_filterMap.mpr ⟨X.env, List.mem_cons_self, by rw [frm, q]⟩)
    have offF : a ∉ X.fs := by
      intro m
      obtain ⟨e, me, q⟩ := List.mem_filterMap.mp m
      exact off (List.mem_filterMap.mpr ⟨e, List.mem_cons_of_mem _ me, q⟩)
    have S3 := J3.suite at3 dat3 free offL offF
    have walk : ∀ {hs' : List ExceptHandler} {l' : List Cls}, Clauses X hs' l' → wishes X.K Wout D l' cls d σ1 H1 → wpAny (model X.prog X.w) X.A (handleBy (.ref a) X.env hs') (SP X pins D) X.xe { z with heap := g3 } := by
      intro hs' l' cl'
      induction cl' with
      | nil =>
        intro w0
        refine wpAny_handleBy_nil ?_
        obtain ⟨_, _, _, oe, vs, T, oT, ts0, e1, _, e2, e3, _⟩ := id f3
        unfold PySem.passOn
        refine wpAny_bind (wpAny_field e1 e2 e3 ?_)
        rw [if_neg (show ¬ ((Value.ref T == Value.none) = true) from by simp)]
        have out : wpAny (model X.prog X.w) X.A (setFlight (.ref a) X.env.frame) (fun _ z4 => wpAny (model X.prog X.w) X.A (throw (.ref a) : Sem Flow) (SP X pins D) X.xe z4) X.xe { z with heap := g3 } := by
          rw [frm]
          refine HandSPX.setFlight_upZ f3 fun g4 hold up4 => wpAny_throw (tk _ _ ⟨a, G, sI, pins, σ1, H1, cls, d, rfl, J, below, (slots.trans up3).trans up4, .inr (.inr ?_), free, os, gens, w0⟩)
          rw [stk]
          exact hold
        first
          | exact wpAny_bind (wpAny_pure (wpAny_bind out))
          | exact wpAny_bind out
      | @cons x c on oi ts b0 suite np pos' hs2 l2 named slot su rest again =>
        rintro ⟨b, is, yes, no⟩
        refine wpAny_handleBy_cons (codeAny_handlers_test ?_) (by intro q; cases q)
        have ty : PySem.W.Looks (model X.prog X.w) g3 (typeOf (.ref a)) cls := fun A Q E s0 k q => wpAny_typeOf_ref (k _ _ at3) (by rw [z3.1]; exact q)
        have fits := PySem.W.exm_one (M := model X.prog X.w) J3.kIn ty is
        have look : ∀ {Q E : Value → Shared → Prop}, Q c { z with heap := g3 } → wpAny (model X.prog X.w) (X.A.mark (some (.ref a))) (eval (.Name x np) X.env) Q E { z with heap := g3 } := by
          intro Q E q
          rcases named with ⟨n1, n2, n3 | ⟨n3, n4, n5⟩⟩
          · exact ld_glob (X := X.suite a ((a, oe3) :: (X.pn ++ pins))) S3 n1 n3 q n2
          · exact ld_blt (X := X.suite a ((a, oe3) :: (X.pn ++ pins))) S3 n1 n3 n4 q n5 n2
        refine look (fits.here ?_)
        cases b with
        | false => exact again (no rfl)
        | true =>
          match on, oi, slot, yes with
          | none, none, _, yes =>
            refine codeAny_handlers_suite (HandSPX.lands_againZ f3 fun g4 f4 up4 => ?_)
            have J4 : Inv X pins σ1 H1 { z with heap := g4 } := J.landed below f4.1 ((slots.trans up3).trans up4) os gens
            obtain ⟨oe4, vs4, at4, z4, dat4⟩ := f4.there
            refine wpAny_mono ((su a oe4 cls d (X.pn ++ pins) z4 ⟨_, dat4⟩).run [] _ _ H1 _ (J4.suite at4 dat4 free offL offF) (yes rfl a free)) ?_ fun _ _ q => q.elim
            intro fl z6 r
            match fl, r with
            | .next, ⟨σ6, H6, S6, q6⟩ => exact ⟨_, _, S6.unsuite ok, q6⟩
            | .brk, ⟨σ6, H6, S6, q6⟩ => exact ⟨_, _, S6.unsuite ok, q6⟩
            | .cont, ⟨σ6, H6, S6, q6⟩ => exact ⟨_, _, S6.unsuite ok, q6⟩
            | .ret u, ⟨v6, σ6, H6, S6, r6, q6⟩ => exact ⟨_, _, _, S6.unsuite ok, r6, q6⟩
          | some n, some i, ⟨ni, nl⟩, yes =>
            refine codeAny_handlers_suite_as (HandSPX.lands_againZ f3 fun g4 f4 up4 => ?_)
            have J4 : Inv X pins σ1 H1 { z with heap := g4 } := J.landed below f4.1 ((slots.trans up3).trans up4) os gens
            obtain ⟨oe4, vs4, at4, z4, dat4⟩ := f4.there
            refine store_ok (X := X.suite a ((a, oe4) :: (X.pn ++ pins))) (v := .ref a) (J4.suite at4 dat4 free offL offF) nd ni (.inl nl) rfl (fun z5 S5 => ?_) (.inr nl)
            refine wpAny_mono ((su a oe4 cls d (X.pn ++ pins) z4 ⟨_, dat4⟩).run [] z5 _ H1 _ S5 (yes rfl a free)) ?_ fun _ _ q => q.elim
            intro fl z6 r
            have wiped : ∀ {σ6 : L2.St} {H6 : Hp} {Q : Shared → Prop}, Inv (X.suite a ((a, oe4) :: (X.pn ++ pins))) [] σ6 H6 z6 → (∀ z7, Inv X pins (σ6.set i none) H6 z7 → Q z7) → wpAny (model X.prog X.w) X.A (do bindName X.env n .none; unbindBehindTheSuite X.env n pos') (fun _ z7 => Q z7) X.xe z6 :=
              fun S6 q => gone_ok (S6.unsuite ok) nd ni nl q
            match fl, r with
            | .next, ⟨σ6, H6, S6, q6⟩ => exact wiped S6 fun z7 J7 => ⟨_, _, J7, q6⟩
            | .brk, ⟨σ6, H6, S6, q6⟩ => exact wiped S6 fun z7 J7 => ⟨_, _, J7, q6⟩
            | .cont, ⟨σ6, H6, S6, q6⟩ => exact wiped S6 fun z7 J7 => ⟨_, _, J7, q6⟩
            | .ret u, ⟨v6, σ6, H6, S6, r6, q6⟩ => exact wiped S6 fun z7 J7 => ⟨_, _, _, J7, r6, q6⟩
    exact walk cl wish
  refine wpAny_mono run ?_ fun _ _ q => q
  intro fl z r
  match fl, r with
  | .next, ⟨σ2, H2, J2, q⟩ => exact wpAny_execs_nil ⟨σ2, H2, J2.ofTry ok, q⟩
  | .brk, ⟨σ2, H2, J2, q⟩ => exact ⟨σ2, H2, J2.ofTry ok, q⟩
  | .cont, ⟨σ2, H2, J2, q⟩ => exact ⟨σ2, H2, J2.ofTry ok, q⟩
  | .ret u, ⟨v, σ2, H2, J2, r2, q⟩ => exact ⟨v, σ2, H2, J2.ofTry ok, r2, q⟩
end
end DL

namespace DL
open PySem PySem.Spec PyProof.Rows L2
open PySem.W (Frag)
/-- isinstance(e, (C, ..)), e the exception that the suite holds -/
def rIsT (K : Frag) (D a : Addr) (od : Option Addr) : List V → Hp → VK → Prop := fun xs H Q => ∃ (p : Addr) (cs : List V) (cvs : List Value) (b : Bool), xs = [.ref a, .ref p] ∧ H p = some (.tup cs) ∧ (∀ us, Vals cs us → us = cvs) ∧ PySem.W.kitAny K (.ref D) cvs = some b ∧ (∀ d, od = some d → ∃ fs, H d = some (.xd fs)) ∧ Q (.bl b) H
def rIs1 (K : Frag) (D a : Addr) (od : Option Addr) : List V → Hp → VK → Prop := fun xs H Q => ∃ (c : V) (cv : Value) (b : Bool), xs = [.ref a, c] ∧ (∀ u, RelV c u → u = cv) ∧ PySem.W.kitOne K (.ref D) cv = some b ∧ (∀ d, od = some d → ∃ fs, H d = some (.xd fs)) ∧ Q (.bl b) H
section
variable {X : Cx} {a D : Addr} {od : Option Addr} {oe : Obj} {pn : List (Addr × Obj)}
theorem inst_of {pins : List (Addr × Obj)} {s : Shared} {σ : L2.St} {H : Hp} (hz : Zc (.ref D) od oe) (hf : ∃ vs, oe.data = .fields vs) (I : Inv (X.suite a ((a, oe) :: pn)) pins σ H s) (hd : ∀ d, od = some d → ∃ fs, H d = some (.xd fs)) : ∃ o2, PySem.W.InstAt s.heap a oe D o2 := by
  obtain ⟨hget, _⟩ := I.pin (a, oe) (List.mem_append.mpr (.inl List.mem_cons_self))
  obtain ⟨vs, hv⟩ := hf
  rcases od with _ | d
  · refine ⟨none, hget, hz.1, by unfold PySem.W.notCls; rw [hv] <;> rfl, ?_⟩
    rw [hz.2]
    trivial
  · obtain ⟨fs, hx⟩ := hd d rfl
    have ho : ObjOk X.prog X.w H s.heap d (.xd fs) := I.hok d _ hx
    obtain ⟨mA, hns, _⟩ := ho
    obtain ⟨o2, h2, _⟩ := lookIn_ns hns
    exact ⟨some o2, hget, hz.1, by unfold PySem.W.notCls; rw [hv] <;> rfl, by rw [hz.2]; exact h2⟩
theorem cls_some (C : ExcC X.K D) : (PySem.W.clsIn X.K D).isSome = true := by
  obtain ⟨cd, hc, _⟩ := PySem.W.any_some C.hd
  rw [hc]
  rfl
theorem call_is1 (C : ExcC X.K D) (hz : Zc (.ref D) od oe) (hf : ∃ vs, oe.data = .fields vs) : CallR (X.suite a ((a, oe) :: pn)) (.builtin "isinstance") (rIs1 X.K D a od) := by
  intro pins s σ H xs us Q I r h
  obtain ⟨c, cv, b, rfl, hcv, e, hx, q⟩ := h
  cases r with
  | cons rx rr =>
    cases rr with
    | cons rt rr =>
      cases rr
      cases rx
      have ec := hcv _ rt
      subst ec
      obtain ⟨o2, J⟩ := inst_of hz hf I hx
      exact PySem.W.kia_one (PySem.W.kitx_exc (cls_some C) C.hg C.hk C.hs C.ha C.hn C.ht C.hm) I.kIn J e (fun z => nomatch z) fun tk => ⟨.bl b, H, I.kept (t' := tk) fun _ _ z => z, rfl, q⟩
end
/-- expressions that are known values, one after another -/
def Consts (X : Cx) (es : List Expr) (cs : List V) : Prop := PA X es fun _ H Q => Q cs H
section
variable {X : Cx} {e : Expr} {es : List Expr} {c : V} {cs : List V}
theorem consts_nil : Consts X [] [] := pa_nil
theorem consts_cons (h : PE X e (tC c)) (r : Consts X es cs) (st : starEach (e :: es) X.env = (false, eval e X.env) :: starEach es X.env := by rfl) : Consts X (e :: es) (c :: cs) := by
  have z := pa_cons h r st
  exact ⟨fun pos pins s σ H Q I q => z.run pos pins s σ H Q I q⟩
end
variable [Tb]
/-! ### the caught exception in its suite -/
def exnD (c : Str) (a : Addr) : PyData := .dict [(.none, .tuple [.str c, .int (a : Int)])]
def excD (c : Str) (a d : Addr) (ds : List (PyData × PyData)) : PyData := .dict ((.none, .tuple [.str c, .int (a : Int), .int (d : Int)]) :: ds)
/-- slot i holds the exception -/
def Held (c : Str) (a : Addr) (od : Option Addr) (s : AS) (i : Nat) (ds : List (PyData × PyData)) : Prop := match od with
  | none => s[i]? = some (.d (exnD c a)) ∧ ds = []
  | some d => s[i]? = some (.d (excD c a d ds))
def fldD (n : Str) : List (PyData × PyData) → Option PyData
  | [] => none
  | (.str k, g) :: r => if k = n then some g else fldD n r
  | _ :: _ => none
/-- isinstance(e, ..) -/
def xIsE (c : Str) (a : Addr) (od : Option Addr) (i : Nat) (b : Bool) : AT := fun s Q => (∃ ds, Held c a od s i ds) ∧ Q (.d (.bool b)) s
section
variable {K : Frag} {B H : Hp} {σ : L2.St} {s : AS} {c : Str} {a : Addr} {od : Option Addr} {i : Nat} {ds : List (PyData × PyData)}
theorem daF_look {n : Str} : ∀ {ds : List (PyData × PyData)} {fs : List (Str × V)} {g : PyData}, DaF K B fs ds → fldD n ds = some g → ∃ v, fs.lookup n = some v ∧ Da K B v g
  | [], _, _, _, e => by cases e
  | (_, _) :: ds, _, g, .cons (k := k) (v := v) (d := d) a l, e => by
    have e : (if k = n then some d else fldD n ds) = some g := e
    by_cases h : k = n
    · rw [if_pos h] at e
      cases e
      exact ⟨v, by rw [List.lookup_cons, h]; simp, a⟩
    · rw [if_neg h] at e
      obtain ⟨w, w1, w2⟩ := daF_look l e
      have : (n == k) = false := by simpa using fun q => h q.symm
      exact ⟨w, by rw [List.lookup_cons, this]; exact w1, w2⟩
theorem held_at (R : Rel K B H σ s) (h : Held c a od s i ds) : σ[i]? = some (some (V.ref a)) ∧ ∀ d, od = some d → ∃ fs, B d = some (.xd fs) ∧ DaF K B fs ds := by
  rcases od with _ | d
  · obtain ⟨h, _⟩ := h
    obtain ⟨v, e1, e2⟩ := R.dat i _ h
    unfold exnD at e2
    generalize hq : ([(.none, .tuple [.str c, .int (a : Int)])] : List (PyData × PyData)) = q at e2
    cases e2 with
    | exn =>
      simp only [List.cons.injEq, Prod.mk.injEq, PyData.tuple.injEq, PyData.str.injEq, PyData.int.injEq, and_true, true_and] at hq
      have : a = _ := Int.ofNat.inj hq.2
      subst this
      exact ⟨e1, fun d z => nomatch z⟩
    | dct _ k => exact absurd hq.symm (k.noNone _ _)
    | scr _ => simp at hq
    | fnv _ => simp at hq
    | exc _ _ => simp at hq
    | ins _ _ _ _ => simp at hq
    | exw _ _ => simp at hq
    | exv _ _ _ _ => simp at hq
    | lam _ _ => simp at hq
  · have h : s[i]? = some (.d (excD c a d ds)) := h
    obtain ⟨v, e1, e2⟩ := R.dat i _ h
    unfold excD at e2
    generalize hq : ((PyData.none, PyData.tuple [.str c, .int (a : Int), .int (d : Int)]) :: ds) = q at e2
    cases e2 with
    | exc h1 h2 =>
      simp only [List.cons.injEq, Prod.mk.injEq, PyData.tuple.injEq, PyData.str.injEq, PyData.int.injEq, and_true, true_and] at hq
      obtain ⟨⟨_, q1, q2⟩, rfl⟩ := hq
      have z1 : a = _ := Int.ofNat.inj q1
      have z2 : d = _ := Int.ofNat.inj q2
      subst z1
      subst z2
      exact ⟨e1, fun d z => by cases z; exact ⟨_, h1, h2⟩⟩
    | dct _ k => exact absurd hq.symm (k.noNone _ _)
    | scr _ => simp at hq
    | fnv _ => simp at hq
    | exn => simp at hq
    | ins _ _ _ _ => simp at hq
    | exw _ _ => simp at hq
    | exv _ _ _ _ => simp at hq
    | lam _ _ => simp at hq
end
section
variable {X : Cx} {a D : Addr} {od : Option Addr} {oe : Obj} {pn : List (Addr × Obj)} {c x n : Str} {i : Nat} {e t : Expr} {es : List Expr} {p p2 pos : Pos} {b : Bool}
theorem held_xd {K : Frag} {B H : Hp} {σ : L2.St} {s : AS} {ds : List (PyData × PyData)} (R : Rel K B H σ s) (h : Held c a od s i ds) : ∀ d, od = some d → ∃ fs, H d = some (.xd fs) := fun d z => by
  obtain ⟨fs, f1, _⟩ := (held_at R h).2 d z
  exact ⟨fs, R.sub.k f1⟩
theorem ae_isE {y : V} {yv : Value} (C : ExcC X.K D) (hz : Zc (.ref D) od oe) (hf : ∃ vs, oe.data = .fields vs) (zi : X.mg "isinstance" = none) (hy : PE (X.suite a ((a, oe) :: pn)) t (tC y)) (hyv : ∀ u, RelV y u → u = yv) (is : PySem.W.kitOne X.K (.ref D) yv = some b)
    (hg : Gl X "isinstance" := by rfl) (hN : X.N[i]? = some x := by rfl) (hv : Vis X.env.scope x := by first | exact Or.inl rfl | exact Or.inr (Or.inl rfl) | exact Or.inr (Or.inr rfl))
    (hd : (x == ("__debug__" : Str)) = false := by decide) (hcd : (x == ("__classdict__" : Str)) = false := by decide)
    (s1 : starEach [.Name x p2, t] (X.suite a ((a, oe) :: pn)).env = (false, eval (.Name x p2) (X.suite a ((a, oe) :: pn)).env) :: starEach [t] (X.suite a ((a, oe) :: pn)).env := by rfl) (s2 : starEach [t] (X.suite a ((a, oe) :: pn)).env = (false, eval t (X.suite a ((a, oe) :: pn)).env) :: starEach [] (X.suite a ((a, oe) :: pn)).env := by rfl)
    (pl : (backTo pos (starEach [t] (X.suite a ((a, oe) :: pn)).env)).any (·.1) = false := by rfl) :
    AE (X.suite a ((a, oe) :: pn)) (.Call (.Name "isinstance" p) [.Name x p2, t] [] pos) (xIsE c a od i b) := by
  refine PEimp (pe_callB (call_is1 C hz hf) hg zi (by rfl) (pa_cons (pe_var (X := X.suite a ((a, oe) :: pn)) (pos := p2) hN hv hd hcd) (pa_cons hy pa_nil s2) s1) (by decide) (by decide) s1 pl) ?_
  rintro σ H φ ⟨B, s, Q, R, ⟨⟨ds, h⟩, q⟩, k⟩
  exact ⟨_, (held_at R h).1, y, yv, b, rfl, hyv, is, held_xd R h, k _ _ _ _ _ q (GoE.refl R) (.bl b)⟩
end
end DL

namespace DL
open PySem PySem.Spec PyProof.Rows L2
open PySem.W (Frag)
/-- what the top leaves of a class of exceptions without fields -/
structure Ex0 (K : Frag) (mg : Str → Option Value) (x : Str) (C : Addr) : Prop where
  ns : PySem.W.nsIn K mainGlobals x = some (some (.ref C))
  g : mg x = some (.ref C)
  ex : PySem.W.excIn K C veB "ValueError.__new__" = true
  k : PySem.W.keepIn K (.ref C) = true
  sub : PySem.W.subIn K (.ref C) (.type "BaseException") = some true
  ty : PySem.W.typeIn K (.ref C) = some (.type "type")
/-- .. with a field -/
structure Ex1 (fl : Str) (prog : Program) (K : Frag) (mg : Str → Option Value) (x : Str) (C fI : Addr) : Prop where
  ns : PySem.W.nsIn K mainGlobals x = some (some (.ref C))
  m : Gxn fl prog K mg x C fI
/-- what an except suite asks of a class: of itself, and that it is caught by y just if b -/
def Caught (K : Frag) (x y : Str) (b : Bool) : Prop := ∀ C D, PySem.W.nsIn K mainGlobals x = some (some (.ref C)) → PySem.W.nsIn K mainGlobals y = some (some (.ref D)) → PySem.W.exmOne K (.ref C) (.ref D) = some b
theorem PSs.some {X : Cx} {st : List Stmt} {α : Type} {p : α → Prop} {t : α → TS} (h : ∀ x, p x → PSs X st (t x)) : PSs X st (fun D σ H => ∃ x, p x ∧ t x D σ H) := ⟨fun pins s σ H D I ⟨x, hp, q⟩ => (h x hp).run pins s σ H D I q⟩
variable [Tb]
/-! ### raise -/
section
variable {X : Cx} {W : WX} {c fl : Str} {C fI : Addr} {a : Expr} {td : DT} {p pos pos2 : Pos} {k : Nat}
theorem ax_raise (hc : X.calm = true) (T : Ex1 fl X.prog X.K X.mg c C fI) (hr : Room (k + 1) X.A) (tk : Takes X W) (ha : AD X.nox [a] td) (hg : Gl X c := by rfl) (hdb : (c == ("__debug__" : Str)) = false := by decide)
    (he : starEach (a :: []) X.env = (false, eval a X.env) :: starEach [] X.env := by rfl) (hpl : (backTo pos (starEach [] X.env)).any (·.1) = false := by rfl) :
    AXt X W (.Raise (some (.Call (.Name c p) [a] [] pos)) none pos2) (xsRaise c fl td) := by
  refine PSimp (ps_raise hc tk (pmk_gx T.m hr (paNox ha) hg hdb he hpl)) ?_
  rintro D σ H ⟨B, s, A, R, h, e⟩
  refine ⟨B, s, _, R, h, ?_⟩
  intro ds vs s1 B1 H1 q g l
  match ds, l, q with
  | [g1], .cons da .nil, q => exact ⟨_, rfl, fun d n => e.ex _ s1 σ B1 H1 q g.toGo C T.ns _ d (.cons da .nil) n⟩
theorem ax_raise0 (hc : X.calm = true) (T : Ex0 X.K X.mg c C) (tk : Takes X W) (hg : Gl X c := by rfl) (hdb : (c == ("__debug__" : Str)) = false := by decide) :
    AXt X W (.Raise (some (.Call (.Name c p) [] [] pos)) none pos2) (xsRaise0 c) := by
  refine PSimp (ps_raise hc tk (pmk_own0 PySem.F.excBase_ValueError T.ex T.g T.k (raises_own T.sub T.ty) hg hdb)) ?_
  rintro D σ H ⟨B, s, A, R, h, e⟩
  exact e.ex _ s σ B H h (Go.refl R) C T.ns
/-! ### for, where the body may raise -/
theorem ax_for {tg iter : Expr} {w : DT} {g : GT} {ts : XTS} {body : List Stmt} (hp : PassesOwn (model X.prog X.w) X.A X.env X.xe) (hc : X.calm = true) (hi : AI X tg iter w) (hg : AG X.nox tg g) (hb : AXs X W body ts) (hs : ∀ x, foldedSetIterable iter X.env x = pure x := by intro _; rfl) : AXt X W (.For tg iter body [] pos) (xsFor w g ts) := by
  refine PSimp (ps_for hp hc hi (pgNox hg) hb hs) ?_
  rintro D σ H ⟨B, s, A, R, h, e⟩
  refine ⟨B, s, _, R, h, ?_⟩
  rintro xs s1 B1 H1 J ⟨I, h0, step, done⟩ g1 wk
  refine ⟨fun i m σ2 H2 => m = xs.length - i ∧ i ≤ xs.length ∧ ∃ s2 B2, I i s2 ∧ Go X.K B H σ s B2 H2 σ2 s2 ∧ Sub B1 B2, ⟨xs.length, by rw [Nat.sub_zero], Nat.zero_le _, s1, B1, h0, g1.toGo, g1.rel.sub.left⟩, ?_⟩
  rintro i m σ2 H2 ⟨rfl, le, s2, B2, i2, g2, sub2⟩
  have subH := sub2.trans g2.rel.sub
  by_cases lt : i < xs.length
  · right
    refine ⟨wk.go i H2 subH lt, fun σ' H' => ∃ s3 B3, I (i + 1) s3 ∧ Go X.K B H σ s B3 H' σ' s3 ∧ Sub B1 B3, ?_, ?_⟩
    · rintro σ' H' ⟨s3, B3, i3, g3, sub3⟩
      exact ⟨xs.length - (i + 1), by omega, rfl, lt, s3, B3, i3, g3, sub3⟩
    · intro x H3 y
      have ed : xs[i]? = some xs[i] := List.getElem?_eq_getElem lt
      obtain ⟨B3, gr, da⟩ := wk.yld i H2 x H3 _ subH ed y B2 sub2 g2.rel.sub
      have g3 := g2.trans (gr.go g2.rel).toGo
      refine ⟨B3, s2, xs[i], _, g3.rel, da, step i xs[i] s2 ed i2, ?_⟩
      intro s4 σ4 q4 g4
      have g34 := g3.trans g4
      have e4 := e.shift g34
      refine ⟨B3, s4, _, g4.rel, q4, ⟨?_, e4.ok.rt, ?_, ?_⟩, e4.ex⟩
      · intro s5 σ5 B5 H5 i5 g5
        exact ⟨s5, B5, i5, g34.trans g5, (sub2.trans gr.same).trans g5.same⟩
      · intro s5 σ5 B5 H5 a g5
        exact e.ok.nx _ _ _ _ a (g34.trans g5)
      · intro s5 σ5 B5 H5 i5 g5
        exact ⟨s5, B5, i5, g34.trans g5, (sub2.trans gr.same).trans g5.same⟩
  · left
    obtain rfl : i = xs.length := by omega
    exact ⟨wk.stop H2 subH, e.ok.nx _ _ _ _ (done s2 i2) g2⟩
end
/-! ### try -/
/-- what stands under what -/
def excIs (c x : Str) : Bool := c == x || x == "RoadError" || x == "ValueError"
/-- a clause: its class, its name's slot, its suite -/
abbrev Clause := Str × Option Nat × (Str → Addr → Option Addr → ATS)
def goneA (A : AEnds) : Option Nat → AEnds
  | none => A
  | some i => { nx := fun s => A.nx (s.set i .no), rt := A.rt, bk := fun s => A.bk (s.set i .no), ct := fun s => A.ct (s.set i .no) }
/-- the caught exception's slot is set -/
def heldS (s : AS) (oi : Option Nat) (x : PyData) : AS := match oi with
  | none => s
  | some i => s.set i (.d x)
def bound (s : AS) : Option Nat → Prop
  | none => True
  | some i => i < s.length
def caughtBy (cl : Clause) (A : AEnds) (ec : Ec) (s : AS) : Prop := bound s cl.2.1 ∧ match ec.f with
  | [] => ∀ a, cl.2.2 ec.c a none (goneA A cl.2.1) (heldS s cl.2.1 (exnD ec.c a))
  | q :: r => ∀ a d, cl.2.2 ec.c a (some d) (goneA A cl.2.1) (heldS s cl.2.1 (excD ec.c a d (q :: r)))
def catchR (A : AEnds) (out : Ec → AS → Prop) : List Clause → Ec → AS → Prop
  | [], ec, s => out ec s
  | cl :: r, ec, s => if excIs ec.c cl.1 = true then caughtBy cl A ec s else catchR A out r ec s
def xsTry (body : XTS) (cls : List Clause) : XTS := fun D s => body { D with ex := catchR D.toAEnds D.ex cls } s
/-- the clauses' suites -/
inductive Suites (X : Cx) (cs : List Str) : List ExceptHandler → List Clause → Prop
  | nil : Suites X cs [] []
  | cons {x : Str} {on : Option Str} {oi : Option Nat} {su : Str → Addr → Option Addr → ATS} {b0 : Stmt} {suite : List Stmt} {np pos' : Pos} {hs : List ExceptHandler} {l : List Clause} {Cx : Addr} (gl : Gl X x) (db : (x == ("__debug__" : Str)) = false) (mg : X.mg x = some (.ref Cx)) (ns : PySem.W.nsIn X.K mainGlobals x = some (some (.ref Cx))) (slot : Slot X on oi)
      (fit : ∀ c ∈ cs, Caught X.K c x (excIs c x))
      (hsu : ∀ (c : Str) (C : Addr) (a : Addr) (oe : Obj) (d : Option Addr) (pn : List (Addr × Obj)), c ∈ cs → excIs c x = true → PySem.W.nsIn X.K mainGlobals c = some (some (.ref C)) → Zc (.ref C) d oe → (∃ vs, oe.data = .fields vs) → ASs (X.suite a ((a, oe) :: pn)) (b0 :: suite) (su c a d)) (rest : Suites X cs hs l) :
      Suites X cs (.ExceptHandler (some (.Name x np)) on (b0 :: suite) pos' :: hs) ((x, oi, su) :: l)
theorem Go.gone {K : Frag} {B H B1 H1 : Hp} {σ σ1 : L2.St} {s s1 : AS} {i : Nat} (g : Go K B H σ s B1 H1 σ1 s1) : Go K B H σ s B1 H1 (σ1.set i none) (s1.set i .no) := by
  have R := g.rel
  have off : ∀ {j : Nat} {y : Sl}, (s1.set i Sl.no)[j]? = some y → y ≠ Sl.no → j ≠ i ∧ s1[j]? = some y ∧ (σ1.set i none)[j]? = σ1[j]? := fun h n => by
    rcases get_set h with ⟨_, z, _⟩ | ⟨n2, z⟩
    · exact absurd z n
    · exact ⟨n2, z, List.getElem?_set_ne (Ne.symm n2)⟩
  refine ⟨⟨by rw [List.length_set, List.length_set]; exact R.len, R.sub, fun j x h => ?_, fun j p xs h => ?_, fun j k p q xs ys b h1 h2 w1 w2 => ?_⟩, g.same, g.live, g.grow, g.frame, fun b ⟨j, p, xs, h, w⟩ => ?_, fun j ys h => ?_⟩
  · obtain ⟨_, e1, e2⟩ := off h nofun
    rw [e2]
    exact R.dat j x e1
  · obtain ⟨_, e1, e2⟩ := off h nofun
    rw [e2]
    exact R.own j p xs e1
  · obtain ⟨_, e1, e2⟩ := off h1 nofun
    obtain ⟨_, e3, e4⟩ := off h2 nofun
    rw [e2] at w1
    rw [e4] at w2
    exact R.sep j k p q xs ys b e1 e3 w1 w2
  · obtain ⟨_, e1, e2⟩ := off h nofun
    rw [e2] at w
    exact g.cells b ⟨j, p, xs, e1, w⟩
  · obtain ⟨_, e1, e2⟩ := off h nofun
    rw [e2]
    exact g.pin j ys e1
section
variable {X : Cx} {W : WX} {cs : List Str} {hs : List ExceptHandler} {l : List Clause}
/-- the clauses in the words of values -/
def clsOf (X : Cx) (cs : List Str) (l : List Clause) : List (Value × Clause) → List Cls := fun ps => ps.map fun p => (p.1, p.2.2.1, fun a cls d => fun D σ H => ∃ q : Str × Addr, (q.1 ∈ cs ∧ excIs q.1 p.2.1 = true ∧ PySem.W.nsIn X.K mainGlobals q.1 = some (some (.ref q.2)) ∧ cls = .ref q.2) ∧ LiftS X.K (p.2.2.2 q.1 a d) D σ H)
def ClFit (X : Cx) (cs : List Str) (p : Value × Clause) : Prop := ∃ D, p.1 = .ref D ∧ PySem.W.nsIn X.K mainGlobals p.2.1 = some (some (.ref D)) ∧ ∀ c ∈ cs, Caught X.K c p.2.1 (excIs c p.2.1)
theorem Suites.clauses (S : Suites X cs hs l) : ∃ ps : List (Value × Clause), ps.map (·.2) = l ∧ Clauses X hs (clsOf X cs l ps) ∧ ∀ p ∈ ps, ClFit X cs p := by
  induction S with
  | nil => exact ⟨[], rfl, .nil, fun p h => by cases h⟩
  | @cons x on oi su b0 suite np pos' hs l Cx gl db mg ns slot fit hsu rest ih =>
    obtain ⟨ps, e1, e2, e3⟩ := ih
    refine ⟨(.ref Cx, x, oi, su) :: ps, by rw [List.map_cons, e1], ?_, ?_⟩
    · refine Clauses.cons ⟨gl, db, Or.inl mg⟩ slot (fun a oe cls d pn hz hf => PSs.some (α := Str × Addr) fun q hq => ?_) e2
      obtain ⟨q1, q2, q3, q4⟩ := hq
      subst q4
      exact hsu q.1 q.2 a oe d pn q1 q2 q3 hz hf
    · intro p m
      rcases List.mem_cons.mp m with rfl | m
      · exact ⟨Cx, rfl, ns, fit⟩
      · exact e3 p m
theorem endsGone {K : Frag} {B H : Hp} {σ : L2.St} {s : AS} {A : AEnds} {D : Ends} (oi : Option Nat) (e : EndsOk K B H σ s A D) : EndsOk K B H σ s (goneA A oi) (goneE D oi) := by
  rcases oi with _ | i
  · exact e
  · exact ⟨fun s' σ' B' H' q g => e.nx _ _ _ _ q g.gone, e.rt, fun s' σ' B' H' q g => e.bk _ _ _ _ q g.gone, fun s' σ' B' H' q g => e.ct _ _ _ _ q g.gone⟩
theorem wishOf {B H : Hp} {σ : L2.St} {s : AS} {A : AEnds} {D : Ends} {Wo : WX} {out : Ec → AS → Prop} (e : EndsOk X.K B H σ s A D) (eo : ∀ ec s' σ' B' H', out ec s' → Go X.K B H σ s B' H' σ' s' → ExTo X.K B' H' ec fun c d H2 => Wo c d σ' H2) {ec : Ec} (hc : ec.c ∈ cs) {s' : AS} {σ' : L2.St} {B' H' : Hp} (g : Go X.K B H σ s B' H' σ' s') :
    ∀ {ps : List (Value × Clause)}, (∀ p ∈ ps, ClFit X cs p) → catchR A out (ps.map (·.2)) ec s' → ExTo X.K B' H' ec fun c d H2 => wishes X.K Wo D (clsOf X cs l ps) c d σ' H2
  | [], _, h => eo ec s' σ' B' H' h g
  | p :: ps, fit, h => by
    obtain ⟨Dx, d1, d2, d3⟩ := fit p List.mem_cons_self
    have h : (if excIs ec.c p.2.1 = true then caughtBy p.2 A ec s' else catchR A out (ps.map (·.2)) ec s') := h
    by_cases is : excIs ec.c p.2.1 = true
    · rw [if_pos is] at h
      obtain ⟨bd, h⟩ := h
      intro C hC
      have fm := d3 ec.c hc C Dx hC d2
      rw [is, ← d1] at fm
      have held : ∀ {B2 H2 : Hp} {x : PyData} {a : Addr}, Go X.K B H σ s B2 H2 σ' s' → Da X.K B2 (.ref a) x → Go X.K B H σ s B2 H2 (heldE σ' a p.2.2.1) (heldS s' p.2.2.1 x) := by
        intro B2 H2 x a g2 da
        rcases eo : p.2.2.1 with _ | i
        · exact g2
        · rw [eo] at bd
          exact g2.asg (r := .d x) bd da
      match ec, h, hc, hC, fm with
      | ⟨c, []⟩, h, hc, hC, fm =>
        refine ⟨true, fm, fun _ a na => ?_, fun z => nomatch z⟩
        have g2 := held g (Da.exn (K := X.K) (a := a) (c := c))
        exact ⟨(c, C), ⟨hc, is, hC, rfl⟩, B', _, _, g2.rel, h a, endsGone _ (e.shift g2)⟩
      | ⟨c, q :: r⟩, h, hc, hC, fm =>
        intro vs d dl nd
        refine ⟨true, fm, fun _ a na => ?_, fun z => nomatch z⟩
        have gk := Grow.kept (o := HO.xd vs) g.rel.sub nd
        have g2 := held (g.trans (gk.go g.rel).toGo) (Da.exc (K := X.K) (a := a) (c := c) upd_same (dl.up gk.same))
        exact ⟨(c, C), ⟨hc, is, hC, rfl⟩, _, _, _, g2.rel, h a d, endsGone _ (e.shift g2)⟩
    · rw [if_neg is] at h
      have ih := wishOf e eo hc g (fun p m => fit p (List.mem_cons_of_mem _ m)) h
      intro C hC
      have fm := d3 ec.c hc C Dx hC d2
      have is' : excIs ec.c p.2.1 = false := by simpa using is
      rw [is', ← d1] at fm
      have ih := ih C hC
      match ec, ih with
      | ⟨c, []⟩, ih => exact ⟨false, fm, fun z => absurd z Bool.false_ne_true, fun _ => ih⟩
      | ⟨c, q :: r⟩, ih => exact fun vs d dl nd => ⟨false, fm, fun z => absurd z Bool.false_ne_true, fun _ => ih vs d dl nd⟩
/-- body lets out these classes alone -/
def xsOnly (cs : List Str) (body : XTS) : XTS := fun D s => body { D with ex := fun ec s => ec.c ∈ cs ∧ D.ex ec s } s
theorem ax_try {body : List Stmt} {h0 : ExceptHandler} {pos : Pos} {tb : XTS} (stk : X.stack = X.env :: X.outer) (frm : X.env.frame = some X.env.locals) (nd : X.N.Nodup) (tk : Takes X W)
    (hb : ∀ (W : WX) (pn : List (Addr × Obj)) (xe : Value → Shared → Prop), Takes (X.tr pn xe) W → PassesOwn (model X.prog X.w) X.A X.env xe → AXs (X.tr pn xe) W body tb) (S : Suites X cs (h0 :: hs) l) : AXt X W (.Try body (h0 :: hs) [] [] pos) (xsTry (xsOnly cs tb) l) := by
  obtain ⟨ps, e1, e2, e3⟩ := S.clauses
  refine PSimp (ps_try_clauses (tb := fun W => LiftX X.K W tb) stk frm nd tk hb e2) ?_
  rintro D σ H ⟨B, s, A, R, h, e⟩
  refine ⟨B, s, _, R, h, ⟨e.ok.nx, e.ok.rt, e.ok.bk, e.ok.ct⟩, ?_⟩
  rintro ec s' σ' B' H' ⟨hc, q⟩ g
  have q : catchR A.toAEnds A.ex l ec s' := q
  rw [← e1] at q
  exact wishOf e.ok (fun ec s' σ' B' H' q g => e.ex _ _ _ _ _ q g) hc g e3 q
end
/-! ### defs -/
section
variable {P : Program} {w : World} {K : Frag} {h : Heap} {mg : Str → Option Value} {base : Heap} {x : Str} {st : Stmt} {ps N : List Str} {k : Nat} {t : XTS}
/-- what a def's body gives where exceptions may leave it -/
abbrev DerX (P : Program) (w : World) (K : Frag) (mg : Str → Option Value) (base : Heap) (k : Nat) (x : Str) (st : Stmt) (N : List Str) (t : XTS) : Prop := ∀ (f : Addr) (cdv : Value) (A : Around) (outer : List Env) (s : Shared) (H : Hp) (E : XK), RoomG k (A.deeper (envOfC x (defScope st) s.heap.objs.size f cdv)) →
  Takes (cxOf (L2.CX P w) P w K mg base N x (defScope st) f cdv A outer s H E) (fun cls d _ H => E cls d H) → PassesOwn (model P w) (cxOf (L2.CX P w) P w K mg base N x (defScope st) f cdv A outer s H E).A (cxOf (L2.CX P w) P w K mg base N x (defScope st) f cdv A outer s H E).env (cxOf (L2.CX P w) P w K mg base N x (defScope st) f cdv A outer s H E).xe →
  AXs (cxOf (L2.CX P w) P w K mg base N x (defScope st) f cdv A outer s H E) (fun cls d _ H => E cls d H) (defBody st) t
theorem HasX.of {F : FX} (D : DefK K x st) (X : K.In h) (G : h.Ns mainGlobals mg) (b : BindsAll x st ps) (S : FnScope N ps (defScope st)) (len : ∀ ds P PE, F ds P PE → ds.length = ps.length) (der : DerX P w K mg base k x st N t)
    (ok : ∀ ds P PE, F ds P PE → t { nx := fun _ => P (.d .none), rt := fun r _ => P r, ex := fun ec _ => PE ec } (startS N ds)) : HasX P w K mg base (k + 1) x ps F := by
  obtain ⟨f, od, an, sl, oc, kV, dc, pm, cd, ct, h1, h2, h3, h4⟩ := D
  have FF := fun_mk (st := st) h2 h3 h4
  refine ⟨f, _, FnG.mk' FF S (fun vs H Q E ⟨B, ds, P, PE, _, l, h, _⟩ => l.length.trans (len ds P PE h)) ?_, PySem.W.mg_of X G h1, h4, FF.binds b, x, st, FF⟩
  rintro cdv A outer s H vs Q E hcd room ⟨B, ds, P', PE, sub, l, hF, q, qx⟩
  refine ⟨_, der f cdv A outer s H E room (takes_of rfl rfl rfl rfl) (passes_of rfl), B, startS N ds, _, rel_startS sub l, ok ds P' PE hF, ?_, ?_⟩
  · refine ⟨fun s' σ' B' H' p g => q _ _ _ _ p ⟨grow_start sub g, .non⟩, fun r v s' σ' B' H' p g is => ?_, fun _ _ _ _ p _ => p.elim, fun _ _ _ _ p _ => p.elim⟩
    match r, is with
    | .d x, is => exact q _ _ _ _ p ⟨grow_start sub g, is⟩
    | .f xs, ⟨a, ws, e1, e2, e3, e4, e5, _⟩ => exact q _ _ _ _ p ⟨grow_start sub g, a, ws, e1, e2.resolve_right (no_cel_start a), e3, e4, e5⟩
  · exact fun ec s' σ' B' H' p g => qx ec B' H' p (grow_start sub g)
/-- a def whose body catches what it lets out -/
theorem HasP.ofC {F : FP} (D : DefK K x st) (X : K.In h) (G : h.Ns mainGlobals mg) (b : BindsAll x st ps) (S : FnScope N ps (defScope st)) (len : ∀ ds P, F ds P → ds.length = ps.length)
    (der : ∀ (f : Addr) (cdv : Value) (A : Around) (outer : List Env) (s : Shared) (H : Hp) (E : XK), RoomG k (A.deeper (envOfC x (defScope st) s.heap.objs.size f cdv)) → AXs (cxOf CX0 P w K mg base N x (defScope st) f cdv A outer s H E) (fun _ _ _ _ => False) (defBody st) t)
    (ok : ∀ ds P, F ds P → t { nx := fun _ => P (.d .none), rt := fun r _ => P r, ex := fun _ _ => False } (startS N ds)) : HasP P w K mg base (k + 1) x ps F := by
  obtain ⟨f, od, an, sl, oc, kV, dc, pm, cd, ct, h1, h2, h3, h4⟩ := D
  have FF := fun_mk (st := st) h2 h3 h4
  refine ⟨f, _, FnG.mk' FF S (fun vs H Q E ⟨B, ds, P, _, l, h, _⟩ => l.length.trans (len ds P h)) ?_, PySem.W.mg_of X G h1, h4, FF.binds b, x, st, FF⟩
  rintro cdv A outer s H vs Q E hcd room ⟨B, ds, P', sub, l, hF, q⟩
  refine ⟨_, der f cdv A outer s H E room, B, startS N ds, _, rel_startS sub l, ok ds P' hF, ?_, fun _ _ _ _ _ p => p.elim⟩
  refine ⟨fun s' σ' B' H' p g => q _ _ _ _ p ⟨grow_start sub g, .non⟩, fun r v s' σ' B' H' p g is => ?_, fun _ _ _ _ p _ => p.elim, fun _ _ _ _ p _ => p.elim⟩
  match r, is with
  | .d x, is => exact q _ _ _ _ p ⟨grow_start sub g, is⟩
  | .f xs, ⟨a, ws, e1, e2, e3, e4, e5, _⟩ => exact q _ _ _ _ p ⟨grow_start sub g, a, ws, e1, e2.resolve_right (no_cel_start a), e3, e4, e5⟩
end
end DL

namespace DL
open PySem PySem.Spec PyProof.Rows L2
open PySem.W (Frag)
/-! ### what the top leaves of the exceptions' classes -/
/-- a class of the module, by its name -/
structure ClsK (K : Frag) (mg : Str → Option Value) (x : Str) (C : Addr) : Prop where
  ns : PySem.W.nsIn K mainGlobals x = some (some (.ref C))
  g : mg x = some (.ref C)
section
variable {P : Program} {K : Frag} {h : Heap} {mg : Str → Option Value} {x y fl : Str} {C D0 fI : Addr} {st : Stmt}
theorem clsK_mk (X : K.In h) (G : h.Ns mainGlobals mg) (a : PySem.W.nsIn K mainGlobals x = some (some (.ref C))) : ClsK K mg x C := ⟨a, PySem.W.mg_of X G a⟩
theorem ex0_mk (X : K.In h) (G : h.Ns mainGlobals mg) (a : PySem.W.nsIn K mainGlobals x = some (some (.ref C))) (c : PySem.W.excIn K C veB "ValueError.__new__" = true) (d : PySem.W.keepIn K (.ref C) = true) (e : PySem.W.subIn K (.ref C) (.type "BaseException") = some true) (f : PySem.W.typeIn K (.ref C) = some (.type "type")) : Ex0 K mg x C := ⟨a, PySem.W.mg_of X G a, c, d, e, f⟩
theorem gxn_mk {nm q : Str} {N : Addr} {bs bm : List Value} {sn : List Str} {sub : List Value} {ab : Bool} {col : Option Bool} {dd : Option Addr} {k0 k1 k2 k3 k5 : Option Value} {oc doc pm ct : Value} {od an : Option Addr} {cda cc : Addr} {osl : Array (Option Value)} {qn : Str}
    {ccl : Value} {cdd : Option Addr} {vs : Array Value} {ccs : Array (Option Value)} {file : Str} {tf : Tok} {cl : Value} {cld : Option Addr} {csl : Array (Option Value)}
    (hA : ∃ p1 p2, defArgs st = gxA fl p1 p2) (hB : ∃ m k r0 r1 r2 r3 r4 r5 q1 q2 q3 q4, defBody st = gxB fl m k r0 r1 r2 r3 r4 r5 q1 q2 q3 q4 ∧ (r2.endLine == r4.line) = true) (hS : defScope st = gxS fl) (X : K.In h) (G : h.Ns mainGlobals mg)
    (aC : PySem.W.nsIn K mainGlobals x = some (some (.ref C))) (xL : K.lookup C = some (excClassObj nm q C N bs bm true sn sub ab col dd k0 k1 k2 k3 k5 "ValueError.__new__")) (hbm : HandSPX.refsVE bm = true) (ei : PySem.W.excInitIn K C veB "ValueError.__new__" = true)
    (sa : PySem.W.findIn K (.ref C) "__setattr__" = some (some (.builtin "object.__setattr__"))) (ga : PySem.W.findIn K (.ref C) "__getattribute__" = some (some (.builtin "BaseException.__getattribute__"))) (gg : PySem.W.findIn K (.ref C) "__getattr__" = some none) (noN : PySem.W.findIn K (.ref C) fl = some none)
    (iC : PySem.W.findIn K (.ref C) "__init__" = some (some (.ref fI))) (tC : PySem.W.typeIn K (.ref fI) = some (.type "function")) (kC : PySem.W.keepIn K (.ref C) = true) (exC : PySem.W.subIn K (.ref C) (.type "BaseException") = some true) (veC : PySem.W.subIn K (.ref C) (.type "ValueError") = some true)
    (tyC : PySem.W.typeIn K (.ref C) = some (.type "type")) (hdC : PySem.W.hasDictIn K C = true) (mC : PySem.W.mroIn K C (.ref C) = some true) (sup : PySem.W.ks_superIn K C C "__init__" = some (some (.builtin "ValueError.__init__"))) (any : PySem.W.nsIn K cStatics "thirdparty.any" = some none)
    (noS : PySem.W.nsIn K mainGlobals "super" = some none) (top : (P.main.scope.names.lookup ("super" : Str)).isSome = false)
    (l1 : K.lookup fI = some ⟨oc, od, .func (PySem.W.fnX "__init__" qn (defArgs st) (defBody st) (defScope st) [("__class__", cc)] .none .none doc pm an (.ref cda) ct), osl⟩) (c1 : PySem.W.codeIn K (.ref cda) qn = true) (hda : K.lookup cda = some ⟨ccl, cdd, .fields vs, ccs⟩) (hvs : vs[2]? = some (.str file tf)) (hfile : ((P.main.file : Str) == file) = true)
    (hcell : K.lookup cc = some ⟨cl, cld, .cell (some (.ref C)), csl⟩) (ok : fl = "given" ∨ fl = "index") : Ex1 fl P K mg x C fI := by
  obtain ⟨p1, p2, hA⟩ := hA
  obtain ⟨m, k, r0, r1, r2, r3, r4, r5, q1, q2, q3, q4, hB, hl⟩ := hB
  rw [hA, hB, hS] at l1
  exact ⟨aC, ok, PySem.W.mg_of X G aC, ⟨nm, q, N, bs, bm, sn, sub, ab, col, dd, k0, k1, k2, k3, k5, xL, hbm⟩, ei, sa, ga, gg, noN, iC, tC, kC, exC, veC, tyC, hdC, mC, sup, any, PySem.W.mg_none_of X G noS, top,
    ⟨oc, od, doc, pm, an, cda, cc, ct, osl, qn, m, k, p1, p2, r0, r1, r2, r3, r4, r5, q1, q2, q3, q4, ccl, cdd, vs, ccs, file, tf, cl, cld, csl, hl, l1, c1, hda, hvs, hfile, hcell⟩⟩
end
theorem ns_inj {K : Frag} {x : Str} {C D : Addr} (a : PySem.W.nsIn K mainGlobals x = some (some (.ref C))) (b : PySem.W.nsIn K mainGlobals x = some (some (.ref D))) : C = D := by
  rw [a] at b
  cases b
  rfl
variable [Tb]
/-! ### x in [texts]; walks where the body may raise -/
section
variable {X : Cx} {e tg : Expr} {t : AT} {pos p : Pos}
theorem ai_rng1X {a : Expr} (hg : Gl X "range") (hm : X.mg "range" = none) (h : AE X.nox a t) (hs : starEach [a] X.env = [(false, eval a X.env)] := by rfl) : AI X tg (.Call (.Name "range" p) [a] [] pos) (wRng1 t) := ai_rng1 hg hm (PE.nox h) hs
end
end DL

namespace DL
open PySem PySem.Spec PyProof.Rows L2
open PySem.W (Frag)
/-! ### xs != [], whatever stands in xs -/
def rNeL (K : Frag) : R2 := fun x y H Q => ∃ a b xs ys, x = .ref a ∧ y = .ref b ∧ SqL K H a xs ∧ SqL K H b ys ∧ xs.length ≠ ys.length ∧ Q (.bl true) H
theorem op_neL {X : Cx} (hu : X.A.units + 64 < cLine) : OpR X (compareOp .NotEq) (rNeL X.K) := by
  intro pins s σ H x y v u Q I rx ry h
  obtain ⟨a, b, xs, ys, rfl, rfl, h1, h2, n, q⟩ := h
  cases rx
  cases ry
  obtain ⟨i1, r1, p1, _⟩ := I.list h1
  obtain ⟨i2, r2, p2, _⟩ := I.list h2
  refine SeqAt.RcNeAt.lists_lengths p1.isList p2.isList ?_ (by omega) _ _ _ _ ⟨.bl true, H, I, rfl, q⟩
  have e1 := r1.length
  have e2 := r2.length
  simp
  omega
variable [Tb]
def oNeZ (d e : PyData) (k : Rv → Prop) : Prop := ∃ xs, d = .list xs ∧ e = .list [] ∧ k (.d (.bool (!xs.isEmpty)))
theorem ok_neZ {K : Frag} : Ok2 K (fun x y H Q => rNeA K x y H Q ∨ rNeL K x y H Q) oNeZ := by
  intro B H x y dx dy P φ sub hx hy ⟨xs, e1, e2, q⟩ k
  subst e1
  subst e2
  cases xs with
  | nil => exact Or.inl ⟨_, _, hx.da sub, hy.da sub, by decide, by decide, k _ _ _ _ q (New.same sub (.bl _))⟩
  | cons z r =>
    obtain ⟨a, vs, rfl, ha, la⟩ := hx.list sub
    obtain ⟨b, ws, rfl, hb, lb⟩ := hy.list sub
    refine Or.inr ⟨a, b, vs, ws, rfl, rfl, SqL.of ha, SqL.of hb, ?_, k _ _ _ _ q (New.same sub (.bl _))⟩
    rw [la.length, lb.length, List.length_cons, List.length_nil]
    omega
theorem c_neZ {X : Cx} (hu : X.A.units + 64 < cLine) : CmpA X .NotEq oNeZ := ⟨⟨_, OpR.or (op_neA hu) (op_neL hu), ok_neZ⟩, fun b => nomark b⟩
end DL

namespace DL
open PySem PySem.Spec PyProof.Rows L2
open PySem.W (Frag ksEnv fnX envX kxs_mw excObj excTup)
open PySem.HandSPX (excO)
/-! ### exceptions of the module made by keyword -/
section
variable {M : Model} {prog : Program} {w : World} {A : Around} {E : Value → Shared → Prop} {R : Result → Shared → Prop} {h : Heap} {g : Array GenState} {d : Drawn} {t : Nat} {os : OsState}
variable {nm q : Str} {C N : Addr} {bs bm bmB : List Value} {hdct : Bool} {sn : List Str} {sub : List Value} {ab : Bool} {col : Option Bool} {dd : Option Addr} {k0 k1 k2 k3 k5 : Option Value} {B newId initId : String} {kw : List (Str × Value)}
theorem checkNew_kw (F : ExcBaseFacts B newId initId bmB) (hT : ∀ X : String, bm.contains (.type X) = bmB.contains (.type X)) {Q : Unit → Shared → Prop}
    (hC : h.get? C = some (excClassObj nm q C N bs bm hdct sn sub ab col dd k0 k1 k2 k3 k5 newId)) (hq : Q () ⟨h, g, d, t, os⟩) : wpAny M A (checkBuiltinCall newId ⟨[.ref C], kw⟩) Q E ⟨h, g, d, t, os⟩ := by
  have hcont : (Value.ref C :: bm).contains (.type B) = true := by rw [List.contains_cons, hT, F.hasB, Bool.or_true]
  have hstar := F.noStar
  simp only [checkBuiltinCall, F.newKind, F.newSplit, F.newRow]
  repeat (first | refine wpAny_loadPart_at hC ?_ | (refine wpAny_isSubtype_exc hC ?_; rw [hcont]) | refine wpAny_staticBase_exc hC ?_ | refine wpAny_madeBy_exc hC ?_ | simp only [bne_self_eq_false, Bool.false_eq_true, if_false] | wp_step)
  exact hq
theorem new_kw (F : ExcBaseFacts B newId initId bmB) (hT : ∀ X : String, bm.contains (.type X) = bmB.contains (.type X))
    (hC : h.get? C = some (excClassObj nm q C N bs bm hdct sn sub ab col dd k0 k1 k2 k3 k5 newId))
    (hq : R (.ok (.ret (.ref (h.objs.size + 1)))) ⟨(h.push (PySem.W.kdv_tup [])).push (excO C h.objs.size), g, d, t, os⟩) :
    codeAny (model prog w) A (.builtin newId ⟨[.ref C], kw⟩) R ⟨h, g, d, t, os⟩ := by
  have hends := F.ends
  have hcB : (Value.ref C :: bm).contains (.type B) = true := by rw [List.contains_cons, hT, F.hasB, Bool.or_true]
  have hcA : (Value.ref C :: bm).contains (.type "AttributeError") = false := by rw [List.contains_cons, hT, F.noAttr]; rfl
  have hcN : (Value.ref C :: bm).contains (.type "NameError") = false := by rw [List.contains_cons, hT, F.noName]; rfl
  have hrest : ([] : List Value).length ≤ sizeLine := Nat.zero_le _
  refine codeAny_builtinAt F.entry ?_
  unfold Builtin.«BaseException.__new__»
  refine PySem.wpAt_bind ?_
  show PySem.wpAt _ _ _ (stack >>= _) _ _ _
  refine PySem.wpAt_bind (PySem.wpAt_stack fun p below => PySem.wpAt_of_wpAny ?_)
  wp_walk
  refine PySem.wpAt_of_wpAny ?_
  rw [F.owner]
  repeat (first | with_reducible refine wpAny_madeHere_exc F.canon hC ?_ | with_reducible refine wpAny_loadPart_at hC ?_ | (with_reducible refine wpAny_isSubtype_exc hC ?_; first | rw [hcB] | rw [hcA] | rw [hcN]) | wp_step)
  show R _ _
  rw [Heap.size_push]
  exact hq
theorem type_kw (F : ExcBaseFacts B newId initId bmB) (hT : ∀ X : String, bm.contains (.type X) = bmB.contains (.type X)) {fI : Addr} {Q : Fin → Shared → Prop}
    (hC : h.get? C = some (excClassObj nm q C N bs bm hdct sn sub ab col dd k0 k1 k2 k3 k5 newId))
    (hi : PySem.W.Looks (model prog w) h (typeLookup (.ref C) "__init__") (some (.ref fI))) (hb : ∀ self, PySem.W.Looks (model prog w) h (bindSpecial (.ref fI) self) (.ref fI, [self]))
    (hq : codeAny (model prog w) A (.call (.ref fI) ⟨[.ref (h.objs.size + 1)], kw⟩)
      (fun r s' => match r with | .ok (.ret v) => v = .none ∧ Q (.done (.ret (.ref (h.objs.size + 1)))) s' | .ok _ => False | .error e => E e s')
      ⟨(h.push (PySem.W.kdv_tup [])).push (excO C h.objs.size), g, d, t, os⟩) :
    wpAny (model prog w) A (Builtin.«type.__call__» ⟨[.ref C], kw⟩) Q E ⟨h, g, d, t, os⟩ := by
  repeat (first | with_reducible refine wpAny_loadPart_at hC ?_ | with_reducible refine wpAny_madeBy_exc hC ?_ | wp_step)
  refine codeAny_call_builtin_code (Code.quiet_builtin _ F.quiet) (checkNew_kw F hT hC ?_)
  refine new_kw F hT hC ?_
  show wpAny _ _ _ _ _ _
  have k : ∀ b o, h.get? b = some o → ((h.push (PySem.W.kdv_tup [])).push (excO C h.objs.size)).get? b = some o := fun b o e => Heap.get?_push_of_some _ (Heap.get?_push_of_some _ e)
  have hC₁ := k _ _ hC
  have hget : ((h.push (PySem.W.kdv_tup [])).push (excO C h.objs.size)).get? (h.objs.size + 1) = some (excO C h.objs.size) := by heap_get
  have hcC : (Value.ref C :: bm).contains (.ref C) = true := by simp
  have i1 := hi.keeps k
  have b1 := (hb (.ref (h.objs.size + 1))).keeps k
  unfold isInstance
  repeat (first | with_reducible refine wpAny_loadPart_at hget ?_ | (with_reducible refine wpAny_isSubtype_exc hC₁ ?_; rw [hcC]) | wp_step)
  show wpAny _ _ (typeLookup (.ref C) _) _ _ _
  refine i1.at ?_
  refine wpAny_holding (wpAny_bind (b1.at ?_))
  refine wpAny_bind (wpAny_call (codeAny_mono hq fun r s' z => ?_))
  rcases r with e | (v | _ | _ | _) <;> first | exact z | exact z.elim | skip
  obtain ⟨rfl, z⟩ := z
  first
    | exact wpAny_pure (wpAny_pure z)
    | (wp_walk; exact z)
theorem checkCall_kw {Q : Unit → Shared → Prop} (hC : h.get? C = some (excClassObj nm q C N bs bm hdct sn sub ab col dd k0 k1 k2 k3 k5 newId))
    (hq : Q () ⟨h, g, d, t, os⟩) : wpAny M A (checkBuiltinCall "type.__call__" ⟨[.ref C], kw⟩) Q E ⟨h, g, d, t, os⟩ := by
  have f3 := tc_sub
  have hT : (⟨h, g, d, t, os⟩ : Shared).TypeIs (.ref C) "type" := ⟨_, hC, rfl⟩
  simp only [checkBuiltinCall, tc_kind, tc_split]
  repeat (any_goals (first | assumption | with_reducible refine wpAny_loadPart_at hC ?_ | with_reducible refine wpAny_onRaise ?_ | with_reducible refine wpAny_map ?_ | wp_step))
theorem call_kw (F : ExcBaseFacts B newId initId bmB) (hT : ∀ X : String, bm.contains (.type X) = bmB.contains (.type X)) {fI : Addr}
    (hC : h.get? C = some (excClassObj nm q C N bs bm hdct sn sub ab col dd k0 k1 k2 k3 k5 newId))
    (hi : PySem.W.Looks (model prog w) h (typeLookup (.ref C) "__init__") (some (.ref fI))) (hb : ∀ self, PySem.W.Looks (model prog w) h (bindSpecial (.ref fI) self) (.ref fI, [self]))
    (hq : codeAny (model prog w) (A.under (.builtin "type.__call__" ⟨[.ref C], kw⟩)) (.call (.ref fI) ⟨[.ref (h.objs.size + 1)], kw⟩) (PySem.W.InitBack (h.objs.size + 1) R)
      ⟨(h.push (PySem.W.kdv_tup [])).push (excO C h.objs.size), g, d, t, os⟩) :
    codeAny (model prog w) A (.call (.ref C) ⟨[], kw⟩) R ⟨h, g, d, t, os⟩ := by
  have f1 := tc_lookup
  have f2 := tc_bind (.ref C)
  have hTy : (⟨h, g, d, t, os⟩ : Shared).TypeIs (.ref C) "type" := ⟨_, hC, rfl⟩
  refine codeAny_of_tree ?_
  show wpAny _ _ (callAny (.ref C) _) _ _ _
  repeat (any_goals (first | assumption | with_reducible refine wpAny_loadPart_at hC ?_ | wp_step))
  refine ⟨rfl, ?_⟩
  refine codeAny_call_builtin_at (Code.quiet_builtin _ (by decide +kernel)) entry_typeCall (checkCall_kw hC (type_kw F hT hC hi hb ?_))
  refine codeAny_mono hq fun r s' z => ?_
  rcases r with e | (v | _ | _ | _) <;> exact z
end
section
variable {prog : Program} {w : World} {A : Around} {R : Result → Shared → Prop} {K : Frag} {mg : Str → Option Value} {x fl : Str} {C fI : Addr}
theorem gx_madeK (T : Gxn fl prog K mg x C fI) {h : Heap} {g : Array GenState} {d : Drawn} {tk : Nat} {os : OsState} {v : Value} {mb : Str → Option Value} (X : K.In h) (hg : h.Ns mainGlobals mg) (hb : h.Ns builtinsNs mb) (hbs : mb "super" = some (.type "super")) (hlim : h.NoLimit) (hroom : A.depth + 1 < recursionLimit)
    (hq : ∀ h' tk' e dx, GxMade fl h h' e C dx v → R (.ok (.ret (.ref e))) ⟨h', g, d, tk', os⟩) : codeAny (model prog w) A (.call (.ref C) ⟨[], [(fl, v)]⟩) R ⟨h, g, d, tk, os⟩ := by
  obtain ⟨nm, q, N, bs, bm, sn, sub, ab, col, dd, k0, k1, k2, k3, k5, hC, hbm⟩ := T.cls
  have k : ∀ b o, h.get? b = some o → ((h.push (PySem.W.kdv_tup [])).push (HandSPX.excO C h.objs.size)).get? b = some o := fun b o z => Heap.get?_push_of_some _ (Heap.get?_push_of_some _ z)
  have hget : ((h.push (PySem.W.kdv_tup [])).push (HandSPX.excO C h.objs.size)).get? (h.objs.size + 1) = some (HandSPX.excO C h.objs.size) := Heap.get?_push_at (by rw [Heap.size_push]) rfl
  refine call_kw PySem.F.excBase_ValueError (fun y => HandSPX.refsVE_contains y bm hbm) (X _ _ hC) (PySem.W.looks_findIn X T.iC) (fun self => PySem.W.bind_fn X self T.tC) ?_
  refine gx_init T X k (Heap.get?_none_of_le (Nat.le_succ _)) (by rw [Heap.size_push, Heap.size_push]; omega) hg hb hbs (hlim.keeps k) hget hroom (fun h' tk' dx t1 M => ?_) (Or.inr rfl)
  exact ⟨rfl, hq h' tk' (h.objs.size + 1) dx ⟨M.keep, Nat.le_succ _, ⟨_, _, M.obj, rfl, rfl, rfl, rfl⟩, M.dbig, M.dne, M.ns⟩⟩
end
/-! ### exceptions made as values -/
theorem exv_ok {P : Program} {w : World} {H : Hp} {h : Heap} {a C : Addr} {od : Option Addr} {oe : Obj} {vs : Array Value} (e : h.get? a = some oe) (z : oe.cls = .ref C) (y : oe.dict = od) (d : oe.data = .fields vs) : ObjOk P w H h a (ExV C od a) :=
  ⟨⟨oe, vs, e, z, y, d⟩, ⟨oe, e⟩, fun h1 h2 ⟨oe1, vs1, e1, r⟩ k => ⟨oe1, vs1, k _ e1, r⟩⟩
/-- what a made one leaves -/
theorem exv_laid {X : Cx} {pins : List (Addr × Obj)} {σ : L2.St} {H1 : Hp} {hp h' : Heap} {g : Array GenState} {dr : Drawn} {tk tk' : Nat} {os : OsState} {fl : Str} {e C d : Addr} {v : V} {v' : Value} (I1 : Inv X pins σ H1 ⟨hp, g, dr, tk, os⟩) (rv : RelV v v') (M : GxMade fl hp h' e C d v') :
    H1 e = none ∧ H1 d = none ∧ d ≠ e ∧ Inv X pins σ (upd (upd H1 d (xdX fl v)) e (ExV C (some d) e)) ⟨h', g, dr, tk', os⟩ := by
  obtain ⟨oe, fv, hoe, hc, hd, hdat, h1⟩ := M.obj
  have hns := M.ns
  obtain ⟨G', g1, g2⟩ := restrict h' fun b => decide (b ≠ e)
  have gk : ∀ b, b ≠ e → G'.get? b = h'.get? b := fun b n => g1 b (decide_eq_true n)
  have ge : G'.get? e = none := g2 e (by simp)
  have old : ∀ b o, hp.get? b = some o → G'.get? b = some o := fun b o q => (gk b (Nat.ne_of_lt (Nat.lt_of_lt_of_le (Heap.lt_size q) M.new))).trans (M.keep b o q)
  have ob : ObjOk X.prog X.w (upd H1 d (xdX fl v)) G' d (xdX fl v) := ⟨_, hns.at (fun o q => (gk d M.dne).trans q), fun f => relO_gx rv fl f⟩
  have J : Inv X pins σ (upd H1 d (xdX fl v)) ⟨G', g, dr, tk', os⟩ := I1.laid (t' := tk') old M.dbig ob
  have ne : H1 e = none := I1.hok.fresh M.new
  have J2 := J.laidN (t' := tk') (a := e) (o := ExV C (some d) e) (h' := h') (fun b u q => by
    by_cases hb : b = e
    · have q' : G'.get? b = some u := q
      rw [hb, ge] at q'
      cases q'
    · exact (gk b hb).symm.trans q) ge (by rw [upd_ne (Ne.symm M.dne)]; exact ne) (exv_ok hoe hc hd hdat)
  exact ⟨ne, I1.hok.fresh M.dbig, M.dne, J2⟩
def tMkV (fl : Str) (C : Addr) (ta : TA) : TE := fun σ H Q => ta σ H fun vs H1 => ∃ v, vs = [v] ∧ ∀ a d, H1 a = none → H1 d = none → d ≠ a → Q (.ref a) (upd (upd H1 d (xdX fl v)) a (ExV C (some d) a))
section
variable {X : Cx} {x fl : Str} {C fI : Addr} {a : Expr} {ta : TA} {p pos : Pos} {k : Nat}
theorem pe_gxv (T : Gxn fl X.prog X.K X.mg x C fI) (hr : Room (k + 1) X.A) (ha : PA X [a] ta) (hg : Gl X x) (hdb : (x == ("__debug__" : Str)) = false := by decide)
    (he : starEach (a :: []) X.env = (false, eval a X.env) :: starEach [] X.env := by rfl) (hpl : (backTo pos (starEach [] X.env)).any (·.1) = false := by rfl) :
    PE X (.Call (.Name x p) [a] [] pos) (tMkV fl C ta) := by
  refine ⟨fun pins s σ H Q I h => ?_⟩
  refine wpAny_Call_Name_kw (ld_glob I hg T.gC ?_ hdb)
  refine PySem.W.callWith_K (h₀ := X.base) I.ok.mod.kin T.kC (thn (ha.run pos pins s σ H _ I h) fun us s1 hh => ?_) he hpl
  obtain ⟨vs, H1, I1, r1, v, ev, q1⟩ := hh
  subst ev
  refine ⟨I1.kIn, ?_⟩
  cases r1 with
  | cons rv rn =>
    rename_i v' us'
    cases rn
    show wpAny _ _ (call (.ref C) [v']) _ _ _
    have hlim := I1.nolimit
    obtain ⟨mb, hb, hbs⟩ := I1.mod.blt
    have hgl := I1.mod.glob.keeps I1.bk
    have hbl := hb.keeps I1.bk
    have kin := I1.kIn
    obtain ⟨hp, g, dr, tk, os⟩ := s1
    refine wpAny_call (gx_made T kin hgl hbl ((hbs _ (by decide)).trans (by boot_by_name)) hlim (by have := hr.dp; omega) fun h' tk' e d M => ?_)
    obtain ⟨n1, n2, n3, J⟩ := exv_laid (tk' := tk') I1 rv M
    exact ⟨.ref e, _, J, rfl, q1 e d n1 n2 n3⟩
theorem pe_gxvK {kws : List Keyword} (T : Gxn fl X.prog X.K X.mg x C fI) (hr : Room (k + 1) X.A) (ha : PK X kws ta) (hg : Gl X x) (all : (backToKw pos (keywordEach kws X.env)).all (·.1.isSome) = true := by rfl) (named : (backToKw pos (keywordEach kws X.env)).filterMap (·.1) = [fl] := by rfl) (hdb : (x == ("__debug__" : Str)) = false := by decide)
    (many : (backToKw pos (keywordEach kws X.env)).any (·.1.isNone) = false := by rfl) :
    PE X (.Call (.Name x p) [] kws pos) (tMkV fl C ta) := by
  refine ⟨fun pins s σ H Q I h => ?_⟩
  refine wpAny_Call_Name_kw (ld_glob I hg T.gC ?_ hdb)
  refine PySem.W.callWith_KW0 (h₀ := X.base) I.ok.mod.kin T.kC all (thn (ha.run pos pins s σ H _ I h) fun us s1 hh => ?_) (by exact many)
  obtain ⟨vs, H1, I1, r1, v, ev, q1⟩ := hh
  subst ev
  refine ⟨I1.kIn, ?_⟩
  rw [named]
  cases r1 with
  | cons rv rn =>
    rename_i v' us'
    cases rn
    show wpAny _ _ (call (.ref C) [] [(fl, v')]) _ _ _
    have hlim := I1.nolimit
    obtain ⟨mb, hb, hbs⟩ := I1.mod.blt
    have hgl := I1.mod.glob.keeps I1.bk
    have hbl := hb.keeps I1.bk
    have kin := I1.kIn
    obtain ⟨hp, g, dr, tk, os⟩ := s1
    refine wpAny_call (gx_madeK T kin hgl hbl ((hbs _ (by decide)).trans (by boot_by_name)) hlim (by have := hr.dp; omega) fun h' tk' e d M => ?_)
    obtain ⟨n1, n2, n3, J⟩ := exv_laid (tk' := tk') I1 rv M
    exact ⟨.ref e, _, J, rfl, q1 e d n1 n2 n3⟩
end
end DL

namespace DL
open PySem PySem.Spec PyProof.Rows L2
open PySem.W (Frag)
/-! ### rules: C(), e.n, isinstance(e, ..) of exceptions as values -/
section
variable {X : Cx} {x : Str} {C : Addr} {p pos : Pos}
theorem pe_ex0v (T : Ex0 X.K X.mg x C) (hg : Gl X x) (hdb : (x == ("__debug__" : Str)) = false := by decide) : PE X (.Call (.Name x p) [] [] pos) (fun σ H Q => ∀ a, H a = none → Q (.ref a) (upd H a (ExV C none a))) := by
  refine ⟨fun pins s σ H Q I h => ?_⟩
  refine wpAny_Call_Name_kw (ld_glob I hg T.g ?_ hdb)
  refine PySem.W.callWith_K0 I.kIn T.k ?_
  show wpAny _ _ (call (.ref C) []) _ _ _
  obtain ⟨bm, N, nm, qn, bs, hdct, sn, sub, ab, col, dd, k0, k1, k2, k3, k5, mN, hC, hN, hni, TT⟩ := exc_obj I.kIn T.ex
  refine wpAny_call_exc_subT PySem.F.excBase_ValueError TT hC hN hni (fun h' a hm => ?_) (by show 0 ≤ sizeLine; rw [sizeLine_eq]; omega)
  have hn : H a = none := I.hok.gone hm.new
  obtain ⟨t, ht, _, _⟩ := hm.there
  exact ⟨.ref a, upd H a (ExV C none a), I.laidN hm.keeps hm.new hn (exv_ok ht rfl rfl rfl), rfl, h a hn⟩
theorem pe_attV {e : Expr} {te : TE} {n : Str} (he : PE X e te) (hb : attributeBase e n X.env (eval e X.env) = eval e X.env := by rfl) :
    PE X (.Attribute e n pos) (fun σ H Q => te σ H fun x H1 => ∃ a C d fs v, x = .ref a ∧ XfC X.K C ∧ PySem.W.findIn X.K (.ref C) n = some none ∧ H1 a = some (ExV C (some d) a) ∧ H1 d = some (.xd fs) ∧ fs.lookup n = some v ∧ Q v H1) := by
  refine ⟨fun pins s σ H Q I h => ?_⟩
  refine attr_of hb (thn (he.run pins s σ H _ I h) fun u s1 hh => ?_)
  obtain ⟨x, H1, I1, rx, a, C, dd, fs, v, ex, T, hno, ea, ed, l, q⟩ := hh
  subst ex
  obtain rfl : u = Value.ref a := rx
  obtain ⟨⟨oe, vs, ha, hc, hd, hf⟩, _⟩ := I1.hok a _ ea
  have hx : ObjOk X.prog X.w H1 s1.heap dd (.xd fs) := I1.hok dd _ ed
  obtain ⟨mA, hns, hr⟩ := hx
  obtain ⟨od, ho, hl⟩ := lookIn_ns hns
  obtain ⟨u, hu, ru⟩ := RelO.some_of (v := v) (o := mA n) (by rw [← l]; exact hr n)
  have J : PySem.W.InstAt s1.heap a oe C (some od) := ⟨ha, hc, by unfold PySem.W.notCls; rw [hf] <;> rfl, by rw [hd]; exact ho⟩
  exact HandSPX.exc_get I1.kIn J T.ga T.gg T.exC (PySem.W.findObj_own T.hdC hno rfl (by rw [hl, hu])) (handed_of ru) ⟨v, H1, I1.tok _, ru, q⟩
/-- isinstance(e, C), isinstance(e, (C, ..)) -/
def rIsV (K : Frag) : List V → Hp → VK → Prop := fun xs H Q => ∃ (a C : Addr) (od : Option Addr) (c : V) (b : Bool), xs = [.ref a, c] ∧ ExcC K C ∧ H a = some (ExV C od a) ∧ (∀ d, od = some d → ∃ fs, H d = some (.xd fs)) ∧
  ((∃ cv, (∀ u, RelV c u → u = cv) ∧ PySem.W.kitOne K (.ref C) cv = some b) ∨ ∃ p cs cvs, c = .ref p ∧ H p = some (.tup cs) ∧ (∀ us, Vals cs us → us = cvs) ∧ PySem.W.kitAny K (.ref C) cvs = some b) ∧ Q (.bl b) H
theorem call_isV : CallR X (.builtin "isinstance") (rIsV X.K) := by
  intro pins s σ H xs us Q I r h
  obtain ⟨a, C, od, c, b, rfl, E, ea, hx, hc, q⟩ := h
  cases r with
  | cons rx rr =>
    cases rr with
    | cons rt rr =>
      cases rr
      cases rx
      obtain ⟨⟨oe, vs, ha, hcl, hd, hf⟩, _⟩ := I.hok a _ ea
      have J : ∃ o2, PySem.W.InstAt s.heap a oe C o2 := by
        rcases od with _ | d
        · exact ⟨none, ha, hcl, by unfold PySem.W.notCls; rw [hf] <;> rfl, by rw [hd]; trivial⟩
        · obtain ⟨fs, hy⟩ := hx d rfl
          have ho : ObjOk X.prog X.w H s.heap d (.xd fs) := I.hok d _ hy
          obtain ⟨mA, hns, _⟩ := ho
          obtain ⟨o2, h2, _⟩ := lookIn_ns hns
          exact ⟨some o2, ha, hcl, by unfold PySem.W.notCls; rw [hf] <;> rfl, by rw [hd]; exact h2⟩
      obtain ⟨o2, J⟩ := J
      rcases hc with ⟨cv, hcv, e⟩ | ⟨p, cs, cvs, rfl, hp, hcv, e⟩
      · have ec := hcv _ rt
        subst ec
        exact PySem.W.kia_one (PySem.W.kitx_exc (cls_some E) E.hg E.hk E.hs E.ha E.hn E.ht E.hm) I.kIn J e (fun z => nomatch z) fun tk => ⟨.bl b, H, I.kept (t' := tk) fun _ _ z => z, rfl, q⟩
      · cases rt
        obtain ⟨its, rv, ⟨o, ho, hc, n2, hd2⟩, _⟩ := I.tuple (xs := cs) (Or.inl (Or.inl hp))
        have ei := hcv _ rv
        subst ei
        obtain ⟨oc, odd, odat, osl⟩ := o
        dsimp only at hc hd2
        subst hc hd2
        exact PySem.W.kia_tup (PySem.W.kitx_exc (cls_some E) E.hg E.hk E.hs E.ha E.hn E.ht E.hm) I.kIn J ho e (fun z => nomatch z) fun tk => ⟨.bl b, H, I.kept (t' := tk) fun _ _ z => z, rfl, q⟩
end
/-! ### what the top leaves of the classes, all at once -/
structure ExTab (K : Frag) (cs : List Str) : Prop where
  c : ∀ c ∈ cs, ∀ C, PySem.W.nsIn K mainGlobals c = some (some (.ref C)) → ExcC K C ∧ XfC K C ∧ PySem.W.findIn K (.ref C) "given" = some none ∧ PySem.W.findIn K (.ref C) "index" = some none
  i : ∀ c ∈ cs, ∀ x ∈ cs, ∀ C D, PySem.W.nsIn K mainGlobals c = some (some (.ref C)) → PySem.W.nsIn K mainGlobals x = some (some (.ref D)) → PySem.W.kitOne K (.ref C) (.ref D) = some (excIs c x)
  v : ∀ c ∈ cs, ∀ C, PySem.W.nsIn K mainGlobals c = some (some (.ref C)) → PySem.W.kitOne K (.ref C) (.type "ValueError") = some true
  m : ∀ c ∈ cs, ∀ x ∈ cs, Caught K c x (excIs c x)
  n : ∀ c ∈ cs, ∀ C, PySem.W.nsIn K mainGlobals c = some (some (.ref C)) → PySem.W.kitAny K (.ref C) [.type "LookupError", .type "TypeError", .type "ArithmeticError"] = some false
def exTab1 (K : Frag) (C : Addr) : Bool :=
  decide (PySem.W.findIn K (.ref C) "__getattribute__" = some (some (.builtin "BaseException.__getattribute__"))) && (decide (PySem.W.findIn K (.ref C) "__getattr__" = some none) && (decide (PySem.W.subIn K (.ref C) (.type "BaseException") = some true) && (PySem.W.hasDictIn K C &&
  (decide (PySem.W.findIn K (.ref C) "__class__" = some (some (.builtin "object.__class__"))) && (decide (PySem.W.specialIn K (.builtin "object.__class__") "__get__" = some (some (.builtin "getset_descriptor.__get__"))) && (decide (PySem.W.takesIn K (.builtin "object.__class__") = some true) && (decide (PySem.W.mroIn K C (.type "object") = some true) &&
  (decide (PySem.W.findIn K (.ref C) "given" = some none) && (decide (PySem.W.findIn K (.ref C) "index" = some none) && (decide (PySem.W.kitOne K (.ref C) (.type "ValueError") = some true) && decide (PySem.W.kitAny K (.ref C) [.type "LookupError", .type "TypeError", .type "ArithmeticError"] = some false)))))))))))
def exTabB (K : Frag) (l : List (Str × Addr)) : Bool := l.all fun p => exTab1 K p.2 && l.all fun q => decide (PySem.W.kitOne K (.ref p.2) (.ref q.2) = some (excIs p.1 q.1)) && decide (PySem.W.exmOne K (.ref p.2) (.ref q.2) = some (excIs p.1 q.1))
theorem exTab_mk {K : Frag} {l : List (Str × Addr)} (h : ∀ p ∈ l, PySem.W.nsIn K mainGlobals p.1 = some (some (.ref p.2))) (b : exTabB K l = true) : ExTab K (l.map (·.1)) := by
  have one : ∀ c ∈ l.map (·.1), ∀ C, PySem.W.nsIn K mainGlobals c = some (some (.ref C)) → (c, C) ∈ l := by
    intro c m C e
    obtain ⟨p, hp, rfl⟩ := List.mem_map.mp m
    have := ns_inj (h p hp) e
    subst this
    exact hp
  have all := List.all_eq_true.mp b
  have e1 : ∀ c ∈ l.map (·.1), ∀ C, PySem.W.nsIn K mainGlobals c = some (some (.ref C)) → exTab1 K C = true := fun c m C e => (Bool.and_eq_true_iff.mp (all _ (one c m C e))).1
  refine ⟨fun c m C e => ?_, fun c m x mx C D e f => ?_, fun c m C e => ?_, fun c m x mx C D e f => ?_, fun c m C e => ?_⟩
  · have h := e1 c m C e
    unfold exTab1 at h
    simp only [Bool.and_eq_true, decide_eq_true_eq] at h
    obtain ⟨h1, h2, h3, h4, h5, h6, h7, h8, h9, h10, h11, h12⟩ := h
    exact ⟨⟨h1, h2, h3, h4, h5, h6, h7, h8⟩, ⟨h1, h2, h3, h4⟩, h9, h10⟩
  · exact of_decide_eq_true (Bool.and_eq_true_iff.mp (List.all_eq_true.mp (Bool.and_eq_true_iff.mp (all _ (one c m C e))).2 _ (one x mx D f))).1
  · have h := e1 c m C e
    unfold exTab1 at h
    simp only [Bool.and_eq_true, decide_eq_true_eq] at h
    exact h.2.2.2.2.2.2.2.2.2.2.1
  · exact of_decide_eq_true (Bool.and_eq_true_iff.mp (List.all_eq_true.mp (Bool.and_eq_true_iff.mp (all _ (one c m C e))).2 _ (one x mx D f))).2
  · have h := e1 c m C e
    unfold exTab1 at h
    simp only [Bool.and_eq_true, decide_eq_true_eq] at h
    exact h.2.2.2.2.2.2.2.2.2.2.2
theorem nsl_nil {K : Frag} : ∀ p ∈ ([] : List (Str × Addr)), PySem.W.nsIn K mainGlobals p.1 = some (some (.ref p.2)) := fun _ h => by cases h
theorem nsl_cons {K : Frag} {x : Str} {C : Addr} {l : List (Str × Addr)} (h : PySem.W.nsIn K mainGlobals x = some (some (.ref C))) (r : ∀ p ∈ l, PySem.W.nsIn K mainGlobals p.1 = some (some (.ref p.2))) : ∀ p ∈ (x, C) :: l, PySem.W.nsIn K mainGlobals p.1 = some (some (.ref p.2)) := fun p m => by
  rcases List.mem_cons.mp m with rfl | m
  · exact h
  · exact r p m
variable [Tb]
/-! ### in data -/
def exwD (c : Str) : PyData := .dict [(.none, .tuple [.str c, .none])]
def exvD (c : Str) (ds : List (PyData × PyData)) : PyData := .dict ((.none, .tuple [.str c, .bool true]) :: ds)
/-- C(e) -/
def xMk (c fl : Str) (td : DT) : AT := fun s Q => td s fun ds s1 => match ds with
  | [g] => Q (.d (exvD c [(.str fl, g)])) s1
  | _ => False
def xMk0 (c : Str) : AT := fun s Q => Q (.d (exwD c)) s
def oAtt (cs : List Str) (n : Str) (d : PyData) (k : Rv → Prop) : Prop := ∃ c ds g, c ∈ cs ∧ d = exvD c ds ∧ fldD n ds = some g ∧ k (.d g)
/-- isinstance(e, ..): of the classes cs alone; t tells it -/
def oIsX (cs : List Str) (t : Str → Bool) (d : PyData) (k : Rv → Prop) : Prop := ∃ c, c ∈ cs ∧ (d = exwD c ∨ ∃ ds, d = exvD c ds) ∧ k (.d (.bool (t c)))
section
variable {K : Frag} {B : Hp} {v : V} {c : Str} {ds : List (PyData × PyData)}
theorem da_exv (h : Da K B v (exvD c ds)) : ∃ a C d fs, v = .ref a ∧ PySem.W.nsIn K mainGlobals c = some (some (.ref C)) ∧ B a = some (ExV C (some d) a) ∧ B d = some (.xd fs) ∧ DaF K B fs ds := by
  unfold exvD at h
  generalize hq : ((PyData.none, PyData.tuple [.str c, .bool true]) :: ds) = q at h
  cases h with
  | exv h1 h2 h3 h4 =>
    simp only [List.cons.injEq, Prod.mk.injEq, PyData.tuple.injEq, PyData.str.injEq, and_true, true_and] at hq
    obtain ⟨rfl, rfl⟩ := hq
    exact ⟨_, _, _, _, rfl, h1, h2, h3, h4⟩
  | dct _ k => exact absurd hq.symm (k.noNone _ _)
  | scr _ => simp at hq
  | fnv _ => simp at hq
  | exn => simp at hq
  | exc _ _ => simp at hq
  | ins _ _ _ _ => simp at hq
  | lam _ _ => simp at hq
  | exw _ _ => simp at hq
theorem da_exw (h : Da K B v (exwD c)) : ∃ a C, v = .ref a ∧ PySem.W.nsIn K mainGlobals c = some (some (.ref C)) ∧ B a = some (ExV C none a) := by
  unfold exwD at h
  generalize hq : ([(PyData.none, PyData.tuple [.str c, .none])] : List (PyData × PyData)) = q at h
  cases h with
  | exw h1 h2 =>
    simp only [List.cons.injEq, Prod.mk.injEq, PyData.tuple.injEq, PyData.str.injEq, and_true, true_and] at hq
    subst hq
    exact ⟨_, _, rfl, h1, h2⟩
  | dct _ k => exact absurd hq.symm (k.noNone _ _)
  | scr _ => simp at hq
  | fnv _ => simp at hq
  | exn => simp at hq
  | exc _ _ => simp at hq
  | ins _ _ _ _ => simp at hq
  | lam _ _ => simp at hq
  | exv _ _ _ _ => simp at hq
end
section
variable {X : Cx} {fl x n : Str} {C fI : Addr} {a e : Expr} {td : DT} {t : AT} {p p2 pos : Pos} {k : Nat} {cs : List Str} {b : Bool}
theorem lift_mk {σ : L2.St} {H : Hp} {φ : VK} (ns : PySem.W.nsIn X.K mainGlobals x = some (some (.ref C))) (h : Lift X.K (xMk x fl td) σ H φ) : tMkV fl C (LiftD X.K td) σ H φ := by
  obtain ⟨B, s, Q, R, h, k⟩ := h
  refine ⟨B, s, _, R, h, ?_⟩
  intro ds vs s1 B1 H1 q g l
  match ds, l, q with
  | [g1], .cons (v := v) da .nil, q =>
    refine ⟨v, rfl, fun a d n1 n2 ne => ?_⟩
    have gk1 := Grow.kept (o := xdX fl v) g.rel.sub n2
    have n1' : upd H1 d (xdX fl v) a = none := by rw [upd_ne (Ne.symm ne)]; exact n1
    have gk2 := Grow.kept (o := ExV C (some d) a) gk1.sub n1'
    have gr := gk1.trans gk2
    exact k _ _ s1 _ _ q (g.trans (gr.go g.rel)) (Da.exv ns upd_same (by rw [upd_ne ne]; exact upd_same) (.cons (da.up gr.same) .nil))
theorem ae_mk (T : Ex1 fl X.prog X.K X.mg x C fI) (hr : Room (k + 1) X.A) (ha : AD X [a] td) (hg : Gl X x := by rfl) (hdb : (x == ("__debug__" : Str)) = false := by decide)
    (he : starEach (a :: []) X.env = (false, eval a X.env) :: starEach [] X.env := by rfl) (hpl : (backTo pos (starEach [] X.env)).any (·.1) = false := by rfl) : AE X (.Call (.Name x p) [a] [] pos) (xMk x fl td) :=
  PEimp (pe_gxv T.m hr ha hg hdb he hpl) fun _ _ _ h => lift_mk T.ns h
theorem ae_mkK {kws : List Keyword} (T : Ex1 fl X.prog X.K X.mg x C fI) (hr : Room (k + 1) X.A) (ha : AK X kws td) (hg : Gl X x := by rfl) (all : (backToKw pos (keywordEach kws X.env)).all (·.1.isSome) = true := by rfl) (named : (backToKw pos (keywordEach kws X.env)).filterMap (·.1) = [fl] := by rfl) (hdb : (x == ("__debug__" : Str)) = false := by decide)
    (many : (backToKw pos (keywordEach kws X.env)).any (·.1.isNone) = false := by rfl) : AE X (.Call (.Name x p) [] kws pos) (xMk x fl td) :=
  PEimp (pe_gxvK T.m hr ha hg all named hdb many) fun _ _ _ h => lift_mk T.ns h
theorem ae_mk0 (T : Ex0 X.K X.mg x C) (hg : Gl X x := by rfl) (hdb : (x == ("__debug__" : Str)) = false := by decide) : AE X (.Call (.Name x p) [] [] pos) (xMk0 x) := by
  refine PEimp (pe_ex0v T hg hdb) ?_
  rintro σ H φ ⟨B, s, Q, R, h, k⟩ a n
  have gr := Grow.kept (o := ExV C none a) R.sub n
  exact k _ _ s _ _ h ((GoE.refl R).trans (gr.go R)) (Da.exw T.ns upd_same)
theorem ae_attV (T : ExTab X.K cs) (hn : n = "given" ∨ n = "index") (he : AE X e t) (hb : attributeBase e n X.env (eval e X.env) = eval e X.env := by rfl) : AE X (.Attribute e n pos) (x1 t (oAtt cs n)) := by
  refine PEimp (pe_attV he hb) ?_
  intro σ H φ h
  refine lift1 (op := oAtt cs n) (r := fun x H1 Q => ∃ a C d fs v, x = .ref a ∧ XfC X.K C ∧ PySem.W.findIn X.K (.ref C) n = some none ∧ H1 a = some (ExV C (some d) a) ∧ H1 d = some (.xd fs) ∧ fs.lookup n = some v ∧ Q v H1) ?_ h
  intro B H v dv P φ sub hv ⟨c, ds, g, hc, e, hf, q⟩ k
  subst e
  obtain ⟨a, C, d, fs, rfl, h1, h2, h3, h4⟩ := da_exv (hv.flat (fun _ => nofun))
  obtain ⟨v, v1, v2⟩ := daF_look h4 hf
  obtain ⟨_, y, n1, n2⟩ := T.c c hc C h1
  exact ⟨a, C, d, fs, v, rfl, y, by rcases hn with rfl | rfl <;> assumption, sub.k h2 exv_nt, sub.k h3, v1, k _ _ _ _ q (New.same sub v2)⟩
theorem exc_at {K : Frag} {B H : Hp} {v : V} {c : Str} {dx : PyData} (T : ExTab K cs) (sub : Sub B H) (hc : c ∈ cs) (hd : dx = exwD c ∨ ∃ ds, dx = exvD c ds) (da : Da K B v dx) : ∃ a C od, v = .ref a ∧ PySem.W.nsIn K mainGlobals c = some (some (.ref C)) ∧ ExcC K C ∧ H a = some (ExV C od a) ∧ ∀ d, od = some d → ∃ fs, H d = some (.xd fs) := by
  rcases hd with rfl | ⟨ds, rfl⟩
  · obtain ⟨a, C, rfl, h1, h2⟩ := da_exw da
    exact ⟨a, C, none, rfl, h1, (T.c c hc C h1).1, sub.k h2 exv_nt, fun d z => nomatch z⟩
  · obtain ⟨a, C, d, fs, rfl, h1, h2, h3, _⟩ := da_exv da
    exact ⟨a, C, some d, rfl, h1, (T.c c hc C h1).1, sub.k h2 exv_nt, fun d' z => by cases z; exact ⟨fs, sub.k h3⟩⟩
theorem ae_isV1 {y : V} {yv : Value} {ty : Expr} {tt : Str → Bool} (T : ExTab X.K cs) (zi : X.mg "isinstance" = none) (he : AE X e t) (hy : PE X ty (tC y)) (hyv : ∀ u, RelV y u → u = yv) (is : ∀ c ∈ cs, ∀ C, PySem.W.nsIn X.K mainGlobals c = some (some (.ref C)) → PySem.W.kitOne X.K (.ref C) yv = some (tt c))
    (hg : Gl X "isinstance" := by rfl) (s1 : starEach [e, ty] X.env = (false, eval e X.env) :: starEach [ty] X.env := by rfl) (s2 : starEach [ty] X.env = (false, eval ty X.env) :: starEach [] X.env := by rfl)
    (pl : (backTo pos (starEach [ty] X.env)).any (·.1) = false := by rfl) : AE X (.Call (.Name "isinstance" p) [e, ty] [] pos) (x1 t (oIsX cs tt)) := by
  refine PEimp (pe_callB call_isV hg zi boot_isinstance (pa_cons he (pa_cons hy pa_nil s2) s1) (by decide) (by decide) s1 pl) ?_
  intro σ H φ h
  refine lift1 (op := oIsX cs tt) (r := fun x H Q => rIsV X.K [x, y] H Q) ?_ h
  intro B H v dx P φ sub hv ⟨c, hc, hd, q⟩ k
  have da := hv.flat (fun _ => by rcases hd with rfl | ⟨_, rfl⟩ <;> nofun)
  obtain ⟨a, C, od, rfl, h1, h2, h3, h4⟩ := exc_at T sub hc hd da
  exact ⟨a, C, od, y, tt c, rfl, h2, h3, h4, Or.inl ⟨yv, hyv, is c hc C h1⟩, k _ _ _ _ q (New.same sub (.bl _))⟩
theorem ae_isV (T : ExTab X.K cs) (zi : X.mg "isinstance" = none) (he : AE X e t) {y : Str} {q : Pos} {D : Addr} (hy : PE X (.Name y q) (tC (.ref D))) (ns : PySem.W.nsIn X.K mainGlobals y = some (some (.ref D))) (hm : y ∈ cs)
    (hg : Gl X "isinstance" := by rfl) (s1 : starEach [e, .Name y q] X.env = (false, eval e X.env) :: starEach [.Name y q] X.env := by rfl) (s2 : starEach [.Name y q] X.env = (false, eval (.Name y q) X.env) :: starEach [] X.env := by rfl)
    (pl : (backTo pos (starEach [.Name y q] X.env)).any (·.1) = false := by rfl) : AE X (.Call (.Name "isinstance" p) [e, .Name y q] [] pos) (x1 t (oIsX cs fun c => excIs c y)) :=
  ae_isV1 T zi he hy (fun u r => by cases r; rfl) (fun c hc C h => T.i c hc y hm C D h ns) hg s1 s2 pl
theorem ae_isVV (T : ExTab X.K cs) (zi : X.mg "isinstance" = none) (zv : X.mg "ValueError" = none) (he : AE X e t) {q : Pos} (gv : Gl X "ValueError" := by rfl)
    (hg : Gl X "isinstance" := by rfl) (s1 : starEach [e, .Name "ValueError" q] X.env = (false, eval e X.env) :: starEach [.Name "ValueError" q] X.env := by rfl) (s2 : starEach [.Name "ValueError" q] X.env = (false, eval (.Name "ValueError" q) X.env) :: starEach [] X.env := by rfl)
    (pl : (backTo pos (starEach [.Name "ValueError" q] X.env)).any (·.1) = false := by rfl) : AE X (.Call (.Name "isinstance" p) [e, .Name "ValueError" q] [] pos) (x1 t (oIsX cs fun _ => true)) :=
  ae_isV1 T zi he (pe_bltn (v := .ty "ValueError") gv zv (by rfl) rfl (by decide) (by decide)) (fun u r => by cases r; rfl) (fun c hc C h => T.v c hc C h) hg s1 s2 pl
theorem ae_isVN (T : ExTab X.K cs) (zi : X.mg "isinstance" = none) (z1 : X.mg "LookupError" = none) (z2 : X.mg "TypeError" = none) (z3 : X.mg "ArithmeticError" = none) (he : AE X e t) {q1 q2 q3 tp : Pos} {k1 : Nat} (g1 : Gl X "LookupError" := by rfl) (g2 : Gl X "TypeError" := by rfl) (g3 : Gl X "ArithmeticError" := by rfl)
    (hg : Gl X "isinstance" := by rfl)
    (a1 : starEach [.Name "LookupError" q1, .Name "TypeError" q2, .Name "ArithmeticError" q3] X.env = (false, eval (.Name "LookupError" q1) X.env) :: starEach [.Name "TypeError" q2, .Name "ArithmeticError" q3] X.env := by rfl)
    (a2 : starEach [.Name "TypeError" q2, .Name "ArithmeticError" q3] X.env = (false, eval (.Name "TypeError" q2) X.env) :: starEach [.Name "ArithmeticError" q3] X.env := by rfl)
    (a3 : starEach [.Name "ArithmeticError" q3] X.env = (false, eval (.Name "ArithmeticError" q3) X.env) :: starEach [] X.env := by rfl)
    (s1 : starEach [e, .Tuple [.Name "LookupError" q1, .Name "TypeError" q2, .Name "ArithmeticError" q3] k1 tp] X.env = (false, eval e X.env) :: starEach [.Tuple [.Name "LookupError" q1, .Name "TypeError" q2, .Name "ArithmeticError" q3] k1 tp] X.env := by rfl)
    (s2 : starEach [.Tuple [.Name "LookupError" q1, .Name "TypeError" q2, .Name "ArithmeticError" q3] k1 tp] X.env = (false, eval (.Tuple [.Name "LookupError" q1, .Name "TypeError" q2, .Name "ArithmeticError" q3] k1 tp) X.env) :: starEach [] X.env := by rfl)
    (pl : (backTo pos (starEach [.Tuple [.Name "LookupError" q1, .Name "TypeError" q2, .Name "ArithmeticError" q3] k1 tp] X.env)).any (·.1) = false := by rfl) :
    AE X (.Call (.Name "isinstance" p) [e, .Tuple [.Name "LookupError" q1, .Name "TypeError" q2, .Name "ArithmeticError" q3] k1 tp] [] pos) (x1 t (oIsX cs fun _ => false)) := by
  have hy : Consts X [.Name "LookupError" q1, .Name "TypeError" q2, .Name "ArithmeticError" q3] [.ty "LookupError", .ty "TypeError", .ty "ArithmeticError"] :=
    consts_cons (pe_bltn g1 z1 (by rfl) rfl (by decide) (by decide)) (consts_cons (pe_bltn g2 z2 (by rfl) rfl (by decide) (by decide)) (consts_cons (pe_bltn g3 z3 (by rfl) rfl (by decide) (by decide)) consts_nil a3) a2) a1
  refine PEimp (pe_callB call_isV hg zi boot_isinstance (pa_cons he (pa_cons (pe_tup hy) pa_nil s2) s1) (by decide) (by decide) s1 pl) ?_
  intro σ H φ h
  refine lift1 (op := oIsX cs fun _ => false) (r := fun x H Q => ([V.ty "LookupError", .ty "TypeError", .ty "ArithmeticError"].length ≤ sizeLine ∧ ∀ p, H p = none → rIsV X.K [x, .ref p] (upd H p (.tup [.ty "LookupError", .ty "TypeError", .ty "ArithmeticError"])) Q)) ?_ h
  intro B H v dx P φ sub hv ⟨c, hc, hd, q⟩ k
  have da := hv.flat (fun _ => by rcases hd with rfl | ⟨_, rfl⟩ <;> nofun)
  refine ⟨by decide, fun p np => ?_⟩
  have gr := Grow.own (o := HO.tup [.ty "LookupError", .ty "TypeError", .ty "ArithmeticError"]) sub np
  obtain ⟨a, C, od, rfl, h1, h2, h3, h4⟩ := exc_at T gr.sub hc hd da
  refine ⟨a, C, od, _, false, rfl, h2, h3, h4, Or.inr ⟨p, _, [.type "LookupError", .type "TypeError", .type "ArithmeticError"], rfl, upd_same, ?_, T.n c hc C h1⟩, k _ _ _ _ q ⟨gr, .bl _⟩⟩
  intro us r
  cases r with | cons r1 r => cases r1; cases r with | cons r2 r => cases r2; cases r with | cons r3 r => cases r3; cases r; rfl
theorem cf_tab {ks : List Str} (T : ExTab X.K cs) (h : ∀ c ∈ ks, c ∈ cs) {y : Str} (hy : y ∈ cs) : ∀ c ∈ ks, Caught X.K c y (excIs c y) := fun c m => T.m c (h c m) y hy
/-! raise C(fl=e) -/
theorem pmk_gxK {kws : List Keyword} {ta : TA} (T : Gxn fl X.prog X.K X.mg x C fI) (hr : Room (k + 1) X.A) (ha : PK X kws ta) (hg : Gl X x) (all : (backToKw pos (keywordEach kws X.env)).all (·.1.isSome) = true := by rfl) (named : (backToKw pos (keywordEach kws X.env)).filterMap (·.1) = [fl] := by rfl) (hdb : (x == ("__debug__" : Str)) = false := by decide)
    (many : (backToKw pos (keywordEach kws X.env)).any (·.1.isNone) = false := by rfl) : PMk X (.Call (.Name x p) [] kws pos) (tMkX fl C ta) := by
  intro pins s σ H Q I h
  refine wpAny_Call_Name_kw (ld_glob I hg T.gC ?_ hdb)
  refine PySem.W.callWith_KW0 (h₀ := X.base) I.ok.mod.kin T.kC all (thn (ha.run pos pins s σ H _ I h) fun us s1 hh => ?_) (by exact many)
  obtain ⟨vs, H1, I1, r1, v, ev, q1⟩ := hh
  subst ev
  refine ⟨I1.kIn, ?_⟩
  rw [named]
  cases r1 with
  | cons rv rn =>
    rename_i v' us'
    cases rn
    show wpAny _ _ (call (.ref C) [] [(fl, v')]) _ _ _
    have hlim := I1.nolimit
    obtain ⟨mb, hb, hbs⟩ := I1.mod.blt
    have hgl := I1.mod.glob.keeps I1.bk
    have hbl := hb.keeps I1.bk
    have kin := I1.kIn
    obtain ⟨hp, g, dr, tk, os⟩ := s1
    refine wpAny_call (gx_madeK T kin hgl hbl ((hbs _ (by decide)).trans (by boot_by_name)) hlim (by have := hr.dp; omega) fun h' tk' e d M => ?_)
    show MkP X pins σ Q (.ref e) ⟨h', g, dr, tk', os⟩
    obtain ⟨oe, fv, hoe, hc, hd, hdat, h1⟩ := M.obj
    have hns := M.ns
    obtain ⟨G', g1, g2⟩ := restrict h' fun b => decide (b ≠ e)
    have gk : ∀ b, b ≠ e → G'.get? b = h'.get? b := fun b n => g1 b (decide_eq_true n)
    have ge : G'.get? e = none := g2 e (by simp)
    have old : ∀ b o, hp.get? b = some o → G'.get? b = some o := fun b o q => (gk b (Nat.ne_of_lt (Nat.lt_of_lt_of_le (Heap.lt_size q) M.new))).trans (M.keep b o q)
    have ob : ObjOk X.prog X.w (upd H1 d (xdX fl v)) G' d (xdX fl v) := ⟨_, hns.at (fun o q => (gk d M.dne).trans q), fun f => relO_gx rv fl f⟩
    have J : Inv X pins σ (upd H1 d (xdX fl v)) ⟨G', g, dr, tk', os⟩ := I1.laid (t' := tk') old M.dbig ob
    refine ⟨e, oe, fv, ⟨G', g, dr, tk', os⟩, _, .ref C, some d, rfl, J, fun b o q => ?_, ge, hoe, ⟨hc, hd⟩, hdat, h1, ?_, rfl, I1.bare, raises_own T.exC T.tyC, q1 d (I1.hok.fresh M.dbig)⟩
    · by_cases hq : b = e
      · have q' : G'.get? b = some o := q
        rw [hq, ge] at q'
        cases q'
      · exact (gk b hq).symm.trans q
    · rw [upd_ne (Ne.symm M.dne)]
      exact I1.hok.fresh M.new
theorem ax_raiseK {W : WX} {kws : List Keyword} {pos2 : Pos} (hc : X.calm = true) (T : Ex1 fl X.prog X.K X.mg x C fI) (hr : Room (k + 1) X.A) (tk : Takes X W) (ha : AK X.nox kws td) (hg : Gl X x := by rfl) (all : (backToKw pos (keywordEach kws X.env)).all (·.1.isSome) = true := by rfl) (named : (backToKw pos (keywordEach kws X.env)).filterMap (·.1) = [fl] := by rfl) (hdb : (x == ("__debug__" : Str)) = false := by decide)
    (many : (backToKw pos (keywordEach kws X.env)).any (·.1.isNone) = false := by rfl) :
    AXt X W (.Raise (some (.Call (.Name x p) [] kws pos)) none pos2) (xsRaise x fl td) := by
  refine PSimp (ps_raise hc tk (pmk_gxK T.m hr (pkNox ha) hg all named hdb many)) ?_
  rintro D σ H ⟨B, s, A, R, h, e⟩
  refine ⟨B, s, _, R, h, ?_⟩
  intro ds vs s1 B1 H1 q g l
  match ds, l, q with
  | [g1], .cons da .nil, q => exact ⟨_, rfl, fun d n => e.ex _ s1 σ B1 H1 q g.toGo C T.ns _ d (.cons da .nil) n⟩
end
/-! True in [booleans] -/
def oInB (d e : PyData) (k : Rv → Prop) : Prop := ∃ (x : Bool) (ys : List Bool), d = .bool x ∧ e = .list (ys.map PyData.bool) ∧ k (.d (.bool (ys.any fun y => y == x)))
theorem ok_inB {K : Frag} : Ok2 K (rIn K false) oInB := by
  intro B H x y dx dy P φ sub hx hy ⟨z, ys, e1, e2, q⟩ k
  subst e1
  subst e2
  cases hx.flat (fun _ => nofun)
  obtain ⟨a, vs, rfl, ha, la⟩ := hy.list sub
  rw [la.bools] at ha
  refine ⟨a, _, rfl, Or.inl (SqL.of ha), rfl, ?_, ?_⟩
  · rw [List.all_map]
    exact List.all_eq_true.mpr fun _ _ => rfl
  · have e : inV (.bl z) (ys.map V.bl) = ys.any fun y => y == z := by
      unfold inV
      rw [List.any_map]
      rfl
    show φ (.bl (if false = true then !inV (.bl z) (ys.map V.bl) else inV (.bl z) (ys.map V.bl))) H
    rw [if_neg Bool.false_ne_true, e]
    exact k _ _ _ _ q (New.same sub (.bl _))
end DL

namespace DL
open PySem PySem.Spec PyProof.Rows L2
local instance tbNMA : Tb := ⟨[], fun _ => ""⟩
/-! ### fractions as data -/
/-- bits of an int, of a fraction -/
def sI (n : Int) : Nat := n.natAbs.log2 + 1
def sz (q : Rat) : Nat := max (sI q.num) (sI q.den)
def pr (n m : Int) : PyData := .tuple [.int n, .int m]
def fr (q : Rat) : PyData := pr q.num q.den
theorem sI_lt {n : Int} {k : Nat} (h : sI n ≤ k) : n.natAbs < 2 ^ k := by
  unfold sI at h
  exact Nat.lt_of_lt_of_le (Nat.lt_log2_self) (Nat.pow_le_pow_right (by decide) h)
theorem sI_le {n : Int} {k : Nat} (h : n.natAbs < 2 ^ k) (hk : 0 < k) : sI n ≤ k := by
  unfold sI
  by_cases z : n.natAbs = 0
  · rw [z]
    simp [Nat.log2_zero]
    omega
  · have := (Nat.log2_lt z).mpr h
    omega
theorem sI_pos (n : Int) : 0 < sI n := Nat.succ_pos _
theorem sI_num (q : Rat) : sI q.num ≤ sz q := Nat.le_max_left _ _
theorem sI_den (q : Rat) : sI (q.den : Int) ≤ sz q := Nat.le_max_right _ _
theorem sm_of {n : Int} (h : sI n ≤ 4000) : Sm n := sI_lt h
theorem sI_neg (n : Int) : sI (-n) = sI n := by unfold sI; rw [Int.natAbs_neg]
theorem sI_mul (n m : Int) : sI (n * m) ≤ sI n + sI m := by
  refine sI_le ?_ (by have := sI_pos n; omega)
  rw [Int.natAbs_mul, Nat.pow_add]
  have h1 := sI_lt (Nat.le_refl (sI n))
  have h2 := sI_lt (Nat.le_refl (sI m))
  exact Nat.mul_lt_mul'' h1 h2
theorem sI_add (n m : Int) : sI (n + m) ≤ max (sI n) (sI m) + 1 := by
  refine sI_le ?_ (by omega)
  have h1 := sI_lt (Nat.le_max_left (sI n) (sI m))
  have h2 := sI_lt (Nat.le_max_right (sI n) (sI m))
  have := Int.natAbs_add_le n m
  rw [Nat.pow_succ]
  omega
theorem sI_mono {n m : Int} (h : n.natAbs ≤ m.natAbs) : sI n ≤ sI m := sI_le (Nat.lt_of_le_of_lt h (sI_lt (Nat.le_refl _))) (sI_pos _)
/-- n / m, reduced -/
theorem sz_divInt (n m : Int) : sz (Rat.divInt n m) ≤ max (sI n) (sI m) := by
  unfold sz
  refine Nat.max_le.mpr ⟨?_, ?_⟩
  · refine Nat.le_trans (sI_mono ?_) (Nat.le_max_left _ _)
    rw [Rat.num_divInt]
    refine Nat.le_trans (Int.natAbs_ediv_le_natAbs _ _) ?_
    rw [Int.natAbs_mul]
    have : m.sign.natAbs ≤ 1 := by
      rcases Int.lt_trichotomy m 0 with h | h | h
      · rw [Int.sign_eq_neg_one_of_neg h]; decide
      · rw [h]; decide
      · rw [Int.sign_eq_one_of_pos h]; decide
    calc m.sign.natAbs * n.natAbs ≤ 1 * n.natAbs := Nat.mul_le_mul_right _ this
      _ = n.natAbs := Nat.one_mul _
  · rw [Rat.den_divInt]
    split
    · exact Nat.le_trans (show sI ((1 : Nat) : Int) ≤ sI m from sI_le (by have := Nat.pow_lt_pow_right (a := 2) (by decide) (sI_pos m); simpa using this) (sI_pos m)) (Nat.le_max_right _ _)
    · refine Nat.le_trans (sI_mono ?_) (Nat.le_max_right _ _)
      exact Nat.div_le_self _ _
theorem sz_add (a b : Rat) : sz (a + b) ≤ sz a + sz b + 1 := by
  have e : a + b = Rat.divInt (a.num * b.den + b.num * a.den) ((a.den * b.den : Nat) : Int) := by rw [Rat.add_def', Rat.divInt_ofNat]
  rw [e]
  refine Nat.le_trans (sz_divInt _ _) (Nat.max_le.mpr ⟨?_, ?_⟩)
  · have h1 := sI_add (a.num * b.den) (b.num * a.den)
    have h2 := sI_mul a.num b.den
    have h3 := sI_mul b.num a.den
    have h4 := sI_num a
    have h5 := sI_den a
    have h6 := sI_num b
    have h7 := sI_den b
    omega
  · have h1 := sI_mul a.den b.den
    have h5 := sI_den a
    have h7 := sI_den b
    rw [Int.natCast_mul]
    omega
theorem sz_neg (a : Rat) : sz (-a) = sz a := by
  unfold sz
  rw [Rat.neg_num, Rat.neg_den, sI_neg]
theorem sz_sub (a b : Rat) : sz (a - b) ≤ sz a + sz b + 1 := by
  rw [Rat.sub_eq_add_neg]
  have := sz_add a (-b)
  rw [sz_neg] at this
  exact this
theorem sz_mul (a b : Rat) : sz (a * b) ≤ sz a + sz b := by
  have e : a * b = Rat.divInt (a.num * b.num) ((a.den * b.den : Nat) : Int) := by rw [Rat.mul_def', Rat.divInt_ofNat]
  rw [e]
  refine Nat.le_trans (sz_divInt _ _) (Nat.max_le.mpr ⟨?_, ?_⟩)
  · have h1 := sI_mul a.num b.num
    have h4 := sI_num a
    have h6 := sI_num b
    omega
  · have h1 := sI_mul a.den b.den
    have h5 := sI_den a
    have h7 := sI_den b
    rw [Int.natCast_mul]
    omega
theorem sz_inv (a : Rat) : sz a⁻¹ ≤ sz a := by
  rw [Rat.inv_def]
  refine Nat.le_trans (sz_divInt _ _) (Nat.max_le.mpr ⟨sI_den a, sI_num a⟩)
theorem sz_div (a b : Rat) : sz (a / b) ≤ sz a + sz b := by
  rw [Rat.div_def]
  have h1 := sz_mul a b⁻¹
  have h2 := sz_inv b
  omega
theorem plain_fr {a : Rat} : (plain (fr a) = true) = True := by simp [fr, pr, plain, plainAll]
theorem fr_inj {a b : Rat} : fr a = fr b ↔ a = b := by
  constructor
  · intro h
    unfold fr pr at h
    injection h with h
    injection h with h1 h
    injection h with h2 _
    injection h1 with h1
    injection h2 with h2
    exact Rat.ext h1 (by omega)
  · rintro rfl
    rfl
theorem fquo {g n a : Int} (h : g ≠ 0) (e : n = g * a) : n.fdiv g = a := by
  rw [e]
  exact Int.mul_fdiv_cancel_left _ h
theorem equo {g n a : Int} (h : g ≠ 0) (e : n = g * a) : n / g = a := by
  rw [e]
  exact Int.mul_ediv_cancel_left _ h
/-- the reduced pair of n / m -/
theorem fr_div {n m : Int} (hm : m ≠ 0) : fr ((n : Rat) / (m : Rat)) = .tuple [.int (n.fdiv (if m < 0 then -(Int.gcd n m : Int) else Int.gcd n m)), .int (m.fdiv (if m < 0 then -(Int.gcd n m : Int) else Int.gcd n m))] := by
  rw [← Rat.divInt_eq_div]
  unfold fr pr
  have g0 : (0 : Int) < Int.gcd n m := by
    have := Int.gcd_pos_of_ne_zero_right n hm
    omega
  obtain ⟨a, ha⟩ : ((Int.gcd n m : Nat) : Int) ∣ n := Int.gcd_dvd_left ..
  obtain ⟨b, hb⟩ : ((Int.gcd n m : Nat) : Int) ∣ m := Int.gcd_dvd_right ..
  rw [Rat.num_divInt, Rat.den_divInt, if_neg hm, Int.gcd_comm m n]
  rw [show ((m.natAbs / Int.gcd n m : Nat) : Int) = (m.natAbs : Int) / (Int.gcd n m : Int) from Int.natCast_ediv _ _]
  generalize hg : (Int.gcd n m : Int) = g at *
  by_cases h : m < 0
  · rw [if_pos h, Int.sign_eq_neg_one_of_neg h]
    rw [fquo (g := -g) (a := -a) (by omega) (by rw [Int.neg_mul_neg]; exact ha), fquo (g := -g) (a := -b) (by omega) (by rw [Int.neg_mul_neg]; exact hb)]
    rw [equo (g := g) (a := -a) (by omega) (by rw [Int.mul_neg, ← ha, Int.neg_mul, Int.one_mul]), equo (g := g) (a := -b) (by omega) (by rw [Int.ofNat_natAbs_of_nonpos (by omega), Int.mul_neg, ← hb])]
  · rw [if_neg h, Int.sign_eq_one_of_pos (by omega)]
    rw [fquo (g := g) (a := a) (by omega) ha, fquo (g := g) (a := b) (by omega) hb]
    rw [equo (g := g) (a := a) (by omega) (by rw [Int.one_mul]; exact ha), equo (g := g) (a := b) (by omega) (by rw [Int.natAbs_of_nonneg (by omega)]; exact hb)]
end DL

namespace DL
open PySem PySem.Spec PyProof.Rows L2
local instance tbNMB : Tb := ⟨[], fun _ => ""⟩
/-! ### how readings are run -/
def onB (d : PyData) (A B : Prop) : Prop := match d with
  | .bool true => A
  | .bool false => B
  | _ => False
/-- A if b, else B -/
def ifB (b : Bool) (A B : Prop) : Prop := match b with
  | true => A
  | false => B
@[simp] theorem ifB_t {A B : Prop} : ifB true A B = A := rfl
@[simp] theorem ifB_f {A B : Prop} : ifB false A B = B := rfl
theorem ifB_of {b : Bool} {A B : Prop} (h : b = true → A) (g : b = false → B) : ifB b A B := by
  cases b with
  | true => exact h rfl
  | false => exact g rfl
@[simp] theorem ifB_not {b : Bool} {A B : Prop} : ifB (!b) A B = ifB b B A := by cases b <;> rfl
def onV (d : PyData) (f : Bool → Prop) : Prop := match d with
  | .bool b => f b
  | _ => False
def onX (i : Nat) (s : AS) (o : Option Sl) (Q : Rv → AS → Prop) : Prop := match o with
  | some (.d x) => Q (.d x) s
  | some (.m _ _) => Q (.c i) s
  | _ => False
def onR (r : Rv) (s : AS) (Q : Rv → AS → Prop) : Prop := match r with
  | .f xs => Q (.f xs) s
  | r => Q (.d (rd s r)) (fz s r)
def rdc (o : Option Sl) : PyData := match o with
  | some (.m _ xs) => .list xs
  | some (.d x) => x
  | _ => .none
def fzc (s : AS) (i : Nat) (o : Option Sl) : AS := match o with
  | some (.m _ xs) => s.set i (.d (.list xs))
  | _ => s
def onI (d : PyData) (f : Int → Prop) : Prop := match d with
  | .int i => f i
  | _ => False
def onM (r : Rv) (s : AS) (f : List PyData → Prop) (g : Nat → Bool → List PyData → Prop) : Prop := match r with
  | .f xs => f xs
  | .c j => match s[j]? with
    | some (.m p xs) => g j p xs
    | _ => False
  | .d _ => False
def onMc (j : Nat) (o : Option Sl) (g : Nat → Bool → List PyData → Prop) : Prop := match o with
  | some (.m p xs) => g j p xs
  | _ => False
def onN (o : Option Nat) (f : Nat → Prop) : Prop := match o with
  | some n => f n
  | none => False
def onT (d : PyData) (f : List PyData → Prop) : Prop := match d with
  | .tuple xs => f xs
  | _ => False
def onS (d : PyData) (f : List PyData → Prop) : Prop := match d with
  | .list xs => f xs
  | .tuple xs => f xs
  | _ => False
section
variable {b : Bool} {A B : Prop} {f : Bool → Prop} {g : Int → Prop} {h h2 : List PyData → Prop} {h3 : Nat → Bool → List PyData → Prop} {t u v : AT} {s : AS} {i j : Nat} {x y : PyData} {xs ys : List PyData} {p : Bool} {Q : Rv → AS → Prop} {td : DT} {k : Rv → Prop} {n m : Int} {a : Rat} {r : List PyData}
theorem onB_bool : onB (.bool b) A B = ifB b A B := by cases b <;> rfl
theorem onV_bool : onV (.bool b) f = f b := rfl
theorem onI_int : onI (.int n) g = g n := rfl
theorem onT_t : onT (.tuple xs) h = h xs := rfl
theorem onS_t : onS (.tuple xs) h = h xs := rfl
theorem onS_l : onS (.list xs) h = h xs := rfl
theorem onX_d : onX i s (some (.d x)) Q = Q (.d x) s := rfl
theorem onX_m : onX i s (some (.m p xs)) Q = Q (.c i) s := rfl
theorem onR_d : onR (.d x) s Q = Q (.d x) s := rfl
theorem onR_f : onR (.f xs) s Q = Q (.f xs) s := rfl
theorem onR_c : onR (.c i) s Q = Q (.d (rdc s[i]?)) (fzc s i s[i]?) := rfl
theorem onM_f : onM (.f xs) s h h3 = h xs := rfl
theorem onM_c : onM (.c j) s h h3 = onMc j s[j]? h3 := rfl
theorem onMc_m : onMc j (some (.m p xs)) h3 = h3 j p xs := rfl
theorem aSet_eq {o i : AT} : aSet t o i = fun D s => t s fun r s1 => o (fz s1 r) fun ro s2 => i s2 fun ri s3 => onM ro s3 (fun _ => False) fun j p xs => onI (rd s3 ri) fun k => onN (ixN xs.length k) fun n => D.nx (s3.set j (.m p (xs.set n (rd s1 r)))) := by
  funext D s
  unfold aSet xD
  congr
  funext r s1
  show (o (fz s1 r) fun ro s2 => _) = _
  congr
  funext ro s2
  congr
  funext ri s3
  rw [eq_iff_iff]
  constructor
  · rintro ⟨j, p, xs, k, n, h1, h2, h3, h⟩
    obtain ⟨rfl, e⟩ := ownOf_eq h1
    rw [onM_c, e, onMc_m, intOf_eq h2, onI_int, h3]
    exact h
  · intro h
    cases ro with
    | d _ => exact h.elim
    | f _ => exact h.elim
    | c j =>
      rw [onM_c] at h
      rcases e : s3[j]? with _ | (_ | _ | ⟨p, xs⟩)
      · rw [e] at h; exact h.elim
      · rw [e] at h; exact h.elim
      · rw [e] at h; exact h.elim
      rw [e, onMc_m] at h
      rcases e2 : rd s3 ri with _ | _ | k | _ | _ | _ | _
      all_goals (rw [e2] at h)
      case int =>
        rw [onI_int] at h
        rcases e3 : ixN xs.length k with _ | n
        · rw [e3] at h; exact h.elim
        · rw [e3] at h
          refine ⟨j, p, xs, k, n, ?_, ?_, e3, h⟩
          · show (match s3[j]? with | some (.m p xs) => some (j, p, xs) | _ => none) = _
            rw [e]
          · rfl
      all_goals exact h.elim
theorem aApp_eq {o : AT} : aApp o t = fun D s => o s fun ro s1 => onM ro s1 (fun _ => False) fun _ _ _ => t s1 fun r s2 => onM ro (fz s2 r) (fun _ => False) fun j p xs => xs.length ≤ 100000 ∧ D.nx ((fz s2 r).set j (.m p (xs ++ [rd s2 r]))) := by
  funext D s
  unfold aApp xD
  congr
  funext ro s1
  rw [eq_iff_iff]
  cases ro with
  | d _ => exact ⟨fun h => (nomatch h.1), fun h => h.elim⟩
  | f _ => exact ⟨fun h => (nomatch h.1), fun h => h.elim⟩
  | c j =>
    rw [onM_c]
    have inner : (fun (r : Rv) (s2 : AS) => (∃ j_1 p xs, ownOf (fz s2 r) (.c j) = some (j_1, p, xs) ∧ xs.length ≤ 100000 ∧ D.nx ((fz s2 r).set j_1 (.m p (xs ++ [rd (fz s2 r) (.d (rd s2 r))]))))) = fun r s2 => onM (.c j) (fz s2 r) (fun _ => False) fun j p xs => xs.length ≤ 100000 ∧ D.nx ((fz s2 r).set j (.m p (xs ++ [rd s2 r]))) := by
      funext r s2
      rw [onM_c, eq_iff_iff]
      constructor
      · rintro ⟨j2, p, xs, h1, h⟩
        obtain ⟨e0, e⟩ := ownOf_eq h1
        cases e0
        rw [e, onMc_m]
        exact h
      · intro h
        rcases e : (fz s2 r)[j]? with _ | (_ | _ | ⟨p, xs⟩)
        · rw [e] at h; exact h.elim
        · rw [e] at h; exact h.elim
        · rw [e] at h; exact h.elim
        rw [e, onMc_m] at h
        refine ⟨j, p, xs, ?_, h⟩
        show (match (fz s2 r)[j]? with | some (.m p xs) => some (j, p, xs) | _ => none) = _
        rw [e]
    rw [inner]
    rcases e : s1[j]? with _ | (_ | _ | ⟨p, xs⟩)
    · refine ⟨fun h => ?_, fun h => h.elim⟩
      have h1 := h.1
      unfold ownOf at h1
      simp only [e] at h1
      cases h1
    · refine ⟨fun h => ?_, fun h => h.elim⟩
      have h1 := h.1
      unfold ownOf at h1
      simp only [e] at h1
      cases h1
    · refine ⟨fun h => ?_, fun h => h.elim⟩
      have h1 := h.1
      unfold ownOf at h1
      simp only [e] at h1
      cases h1
    · refine ⟨fun h => h.2, fun h => ⟨?_, h⟩⟩
      unfold ownOf
      simp only [e]
      rfl
theorem onN_s {n : Nat} {f : Nat → Prop} : onN (some n) f = f n := rfl
theorem rd_d : rd s (.d x) = x := rfl
theorem rd_f : rd s (.f xs) = .list xs := rfl
theorem rd_c : rd s (.c i) = rdc s[i]? := rfl
theorem fz_d : fz s (.d x) = s := rfl
theorem fz_f : fz s (.f xs) = s := rfl
theorem fz_c : fz s (.c i) = fzc s i s[i]? := rfl
theorem rdc_m : rdc (some (.m p xs)) = .list xs := rfl
theorem rdc_d : rdc (some (.d x)) = x := rfl
theorem fzc_m : fzc s i (some (.m p xs)) = s.set i (.d (.list xs)) := rfl
theorem fzc_d : fzc s i (some (.d x)) = s := rfl
theorem sl_d : sl (.d x) = .d x := rfl
theorem sl_f : sl (.f xs) = .m false xs := rfl
theorem xVar_eq : xVar i = fun s Q => onX i s s[i]? Q := rfl
theorem xR_eq : xR t = fun s Q => t s fun r s1 => onR r s1 Q := by
  funext s Q
  unfold xR
  congr
theorem ifB_eq : (if b = true then A else B) = ifB b A B := by cases b <;> simp [ifB]
theorem aIf_eq {c : BT} {ts us : ATS} : aIf c ts us = fun D s => c s fun b s1 => ifB b (ts D s1) (us D s1) := by
  funext D s
  unfold aIf
  simp only [ifB_eq]
theorem aWhile_eq {c : BT} {body : ATS} : aWhile c body = fun D s => ∃ (I : AS → Prop) (μ : AS → Nat), I s ∧ ∀ s1, I s1 → c s1 fun b s2 => ifB b (body { D with nx := fun s3 => I s3 ∧ μ s3 < μ s1, ct := fun s3 => I s3 ∧ μ s3 < μ s1, bk := D.nx } s2) (D.nx s2) := by
  funext D s
  unfold aWhile
  simp only [ifB_eq]
theorem xIf_eq {c : BT} : xIf c t u = fun s Q => c s fun b s1 => ifB b (t s1 Q) (u s1 Q) := by
  funext s Q
  unfold xIf
  simp only [ifB_eq]
theorem bAnd_eq {c d : BT} : bAnd c d = fun s Q => c s fun b s1 => ifB b (d s1 Q) (Q false s1) := by
  funext s Q
  unfold bAnd
  simp only [ifB_eq]
theorem bOr_eq {c d : BT} : bOr c d = fun s Q => c s fun b s1 => ifB b (Q true s1) (d s1 Q) := by
  funext s Q
  unfold bOr
  simp only [ifB_eq]
theorem xAnd_eq : xAnd t u = fun s Q => t s fun r s1 => onB (rd s1 r) (u s1 Q) (Q (.d (.bool false)) s1) := rfl
theorem xOr_eq : xOr t u = fun s Q => t s fun r s1 => onB (rd s1 r) (Q (.d (.bool true)) s1) (u s1 Q) := rfl
theorem xNot_eq : xNot t = fun s Q => t s fun r s1 => onV (rd s1 r) fun b => Q (.d (.bool !b)) s1 := rfl
theorem bV_eq : bV t = fun s Q => t s fun r s1 => onV (rd s1 r) fun b => Q b s1 := rfl
theorem pSo_eq : pSo t = fun s Q => t s fun r s1 => onI (rd s1 r) fun i => Q (some i) s1 := rfl
theorem aRet_eq : aRet t = fun D s => t s fun r s1 => onR r s1 D.rt := by
  funext D s
  unfold aRet
  rw [xR_eq]
theorem aAsg_eq : aAsg i t = fun D s => t s fun r s1 => onR r s1 fun r s1 => i < s1.length ∧ D.nx (s1.set i (sl r)) := by
  funext D s
  unfold aAsg
  rw [xR_eq]
theorem gT_eq {hs : GTs} : gT i hs = fun x s Q => onT x fun xs => xs.length = i ∧ hs xs s Q := rfl
theorem xCallM_eq {F : FM} : xCallM F t td = fun s Q => t s fun r0 s1 => td s1 fun ds s2 => onM r0 s2 (fun xs => F xs ds fun r _ => Q r s2) fun j p xs => F xs ds fun r ys => Q r (s2.set j (.m p ys)) := by
  funext s Q
  unfold xCallM
  congr
theorem xChain_eq {o o2 : PyData → PyData → (Rv → Prop) → Prop} : xChain t u v o o2 = fun s Q => t s fun r1 s1 => u s1 fun r2 s2 => o (rd s2 r1) (rd s2 r2) fun z => onB (rd [] z) (v s2 fun r3 s3 => o2 (rd s3 r2) (rd s3 r3) fun z => Q z s3) (Q (.d (.bool false)) s2) := by
  funext s Q
  unfold xChain
  congr
  funext r1 s1
  congr
  funext r2 s2
  congr
  funext z
  cases z with
  | d x => cases x with
    | bool b => cases b <;> rfl
    | _ => rfl
  | f xs => rfl
  | c i => rfl
theorem oAdd_i : oAdd (.int n) (.int m) k = k (.d (.int (n + m))) := rfl
theorem oAdd_l : oAdd (.list xs) (.list ys) k = ((xs.length ≤ 100000 ∧ ys.length ≤ 100000) ∧ k (.f (xs ++ ys))) := rfl
theorem oSub_i : oSub (.int n) (.int m) k = k (.d (.int (n - m))) := rfl
theorem oMul_i : oMul (.int n) (.int m) k = ((Sm n ∧ Sm m) ∧ k (.d (.int (n * m)))) := rfl
theorem oDiv_i : oDiv (.int n) (.int m) k = ((m ≠ 0 ∧ m.natAbs < 2 ^ 8100) ∧ k (.d (.int (n.fdiv m)))) := rfl
theorem oMod_i : oMod (.int n) (.int m) k = (m ≠ 0 ∧ k (.d (.int (n.fmod m)))) := rfl
theorem oNeg_i : oNeg (.int n) k = k (.d (.int (-n))) := rfl
theorem oLt_i : oLt (.int n) (.int m) k = k (.d (.bool (decide (n < m)))) := rfl
theorem oLe_i : oLe (.int n) (.int m) k = k (.d (.bool (decide (n ≤ m)))) := rfl
theorem oGt_i : oGt (.int n) (.int m) k = k (.d (.bool (decide (m < n)))) := rfl
theorem oGe_i : oGe (.int n) (.int m) k = k (.d (.bool (decide (m ≤ n)))) := rfl
theorem oGcd_i : oGcd (.int n) (.int m) k = k (.d (.int (Int.gcd n m))) := rfl
theorem oAbs_i : oAbs (.int n) k = k (.d (.int (if n < 0 then -n else n))) := rfl
theorem oInt_i : oInt (.int n) k = k (.d (.int n)) := rfl
theorem oMin_i : oMin (.int n) (.int m) k = k (.d (.int (if m < n then m else n))) := rfl
theorem oMax_i : oMax (.int n) (.int m) k = k (.d (.int (if m > n then m else n))) := rfl
theorem oLen_t : oLen (.tuple xs) k = k (.d (.int xs.length)) := rfl
theorem oLen_l : oLen (.list xs) k = k (.d (.int xs.length)) := rfl
theorem oLen_s : oLen (.dict [(.none, .list xs)]) k = k (.d (.int xs.length)) := rfl
theorem oTuple_t : oTuple (.tuple xs) k = k (.d (.tuple xs)) := rfl
theorem oTuple_l : oTuple (.list xs) k = k (.d (.tuple xs)) := rfl
theorem oList_t : oList (.tuple xs) k = k (.f xs) := rfl
theorem oList_l : oList (.list xs) k = k (.f xs) := rfl
theorem oRev_t : oRev (.tuple xs) k = k (.d (.tuple xs.reverse)) := rfl
theorem oRev_l : oRev (.list xs) k = k (.f xs.reverse) := rfl
theorem oEq_i : oEq (.int n) (.int m) k = k (.d (.bool (decide (n = m)))) := by
  have e : PyData.eqv (.int n) (.int m) = decide (n = m) := by
    simp only [PyData.eqv]
    rw [Bool.eq_iff_iff]
    simp
  unfold oEq twoStr
  simp only
  rw [e]
  simp [SeqAt.shaped, PyData.canLay0, PyData.depth]
theorem oNe_i : oNe (.int n) (.int m) k = k (.d (.bool (decide (n ≠ m)))) := by
  have e : PyData.eqv (.int n) (.int m) = decide (n = m) := by
    simp only [PyData.eqv]
    rw [Bool.eq_iff_iff]
    simp
  unfold oNe twoStr
  simp only
  rw [e]
  simp [SeqAt.shaped, PyData.canLay0, PyData.depth]
theorem oEq_s {a b : Str} {k : Rv → Prop} : oEq (.str a) (.str b) k = k (.d (.bool (decide (a = b)))) := rfl
theorem oNe_s {a b : Str} {k : Rv → Prop} : oNe (.str a) (.str b) k = k (.d (.bool (!decide (a = b)))) := rfl
theorem oIx_fr0 : oIx (fr a) (.int 0) k = k (.d (.int a.num)) := rfl
theorem oIx_fr1 : oIx (fr a) (.int 1) k = k (.d (.int a.den)) := rfl
theorem oIx_t0 : oIx (.tuple (x :: r)) (.int 0) k = k (.d x) := rfl
theorem oIx_t1 : oIx (.tuple (x :: y :: r)) (.int 1) k = k (.d y) := rfl
theorem oIx_l0 : oIx (.list (x :: r)) (.int 0) k = k (.d x) := rfl
theorem oIx_l1 : oIx (.list (x :: y :: r)) (.int 1) k = k (.d y) := rfl
theorem oIx_l2 {z : PyData} : oIx (.list (x :: y :: z :: r)) (.int 2) k = k (.d z) := rfl
theorem noFn_t : (noFn (.tuple xs) = true) = True := by simp [noFn]
theorem noFn_l : (noFn (.list xs) = true) = True := by simp [noFn]
theorem noFn_i : (noFn (.int n) = true) = True := by simp [noFn]
theorem noFn_s {c : Str} : (noFn (.str c) = true) = True := by simp [noFn]
theorem noFn_b : (noFn (.bool b) = true) = True := by simp [noFn]
theorem noFn_n : (noFn .none = true) = True := by simp [noFn]
theorem wSeq_eq : wSeq t = fun s Q => t s fun r s1 => onS (rd s1 r) fun xs => Q xs (fz s1 r) := rfl
theorem wRng1_eq : wRng1 t = fun s Q => t s fun r s1 => onI (rd s1 r) fun j => (-(2 ^ 60) ≤ j ∧ j ≤ 2 ^ 60) ∧ Q (rngD 0 j.toNat) s1 := rfl
def onZ (ds : List PyData) (f : List PyData → Prop) : Prop := match ds with
  | [.list xs, .list ys] => f (zipD xs ys)
  | [.tuple xs, .tuple ys] => f (zipD xs ys)
  | _ => False
theorem onZ_l : onZ [.list xs, .list ys] h = h (zipD xs ys) := rfl
theorem onZ_t : onZ [.tuple xs, .tuple ys] h = h (zipD xs ys) := rfl
theorem wZip_eq : wZip td = fun s Q => td s fun ds s1 => onZ ds fun zs => Q zs s1 := by
  funext s Q
  unfold wZip
  congr
end
theorem oSl_t {xs : List PyData} {l u : Option Int} {k : Rv → Prop} : oSl (.tuple xs) l u k = k (.d (.tuple (cutD xs l u))) := rfl
theorem oSl_l {xs : List PyData} {l u : Option Int} {k : Rv → Prop} : oSl (.list xs) l u k = k (.f (cutD xs l u)) := rfl
theorem oSl_s {xs : List PyData} {l u : Option Int} {k : Rv → Prop} : oSl (.dict [(.none, .list xs)]) l u k = k (.f (cutD xs l u)) := rfl
end DL

local macro_rules
  | `(tactic| simp! only [$ls,*]) => `(tactic| simp only [DL.aSeq, DL.aNext, DL.aNever, DL.aBreak, DL.aCont, DL.aRet_eq, DL.aRetN, DL.aIf_eq, DL.aExpr, DL.aAsg_eq, DL.aPar, DL.aPar3, DL.aTup, DL.gN, DL.gT_eq, DL.gC, DL.gE, DL.aSet_eq, DL.aApp_eq, DL.aIns, DL.aAug, DL.xC, DL.xVar_eq, DL.xD, DL.xR_eq, DL.x1, DL.x2, DL.xIf_eq, DL.xAnd_eq, DL.xOr_eq, DL.xNot_eq, DL.dNil, DL.dCons, DL.xTup, DL.xLst, DL.bV_eq, DL.bT, DL.bAnd_eq, DL.bOr_eq, DL.bNot, DL.bYes, DL.xSl, DL.pNo, DL.pSo_eq, DL.xCall, DL.xCallL, DL.xCallM_eq, DL.xChain_eq, DL.rd_d, DL.rd_f, DL.rd_c, DL.fz_d, DL.fz_f, DL.fz_c, DL.rdc_m, DL.rdc_d, DL.fzc_m, DL.fzc_d, DL.sl_d, DL.sl_f, DL.onX_d, DL.onX_m, DL.onR_d, DL.onR_f, DL.onR_c, DL.onM_f, DL.onM_c, DL.onMc_m, DL.onN_s, DL.onB_bool, DL.ifB_t, DL.ifB_f, DL.ifB_not, DL.onV_bool, DL.onI_int, DL.onT_t, DL.onS_t, DL.onS_l, DL.onZ_l, DL.onZ_t, DL.ownOf, DL.intOf, DL.startS, DL.startM, List.map_cons, List.map_nil, List.length_cons, List.length_nil, List.replicate, List.cons_append, List.nil_append, List.getElem?_cons_zero, List.getElem?_cons_succ, List.set_cons_zero, List.set_cons_succ, Nat.zero_add, Nat.reduceAdd, Nat.reduceSub, DL.oAdd_i, DL.oAdd_l, DL.oSub_i, DL.oMul_i, DL.oDiv_i, DL.oMod_i, DL.oNeg_i, DL.oLt_i, DL.oLe_i, DL.oGt_i, DL.oGe_i, DL.oIsi, DL.noFn_t, DL.noFn_l, DL.noFn_i, DL.noFn_s, DL.noFn_b, DL.noFn_n, DL.plain_fr, DL.oGcd_i, DL.oAbs_i, DL.oInt_i, DL.oLen_t, DL.oLen_l, DL.oLen_s, DL.oMin_i, DL.oMax_i, DL.oTuple_t, DL.oTuple_l, DL.oList_t, DL.oList_l, DL.oRev_t, DL.oRev_l, DL.oEq_i, DL.oNe_i, DL.oEq_s, DL.oNe_s, DL.oIx_fr0, DL.oIx_fr1, DL.oIx_t0, DL.oIx_t1, DL.oIx_l0, DL.oIx_l1, DL.oIx_l2, DL.oSl_t, DL.oSl_l, DL.oSl_s, DL.wSeq_eq, DL.wRng1_eq, DL.wZip_eq, Bool.not_true, Bool.not_false, if_true, if_false, reduceIte, Bool.false_eq_true, decide_eq_true_eq, ne_eq, not_true, not_false_eq_true, Nat.reduceLT, Nat.reduceLeDiff, Nat.reduceEqDiff, Int.reduceNeg, Int.cast_ofNat_Int, true_and, and_true, List.length_map, DL.putD, DL.wipeS, List.zip_cons_cons, List.zip_nil_left, List.zip_nil_right, $ls,*])
namespace DL
open PySem PySem.Spec PyProof.Rows L2
variable [Tb]
/-! ### readings with exceptions, short -/
theorem xsIf_eq {c : BT} {t u : XTS} : xsIf c t u = fun D s => c s fun b s1 => ifB b (t D s1) (u D s1) := by
  funext D s
  unfold xsIf
  simp only [ifB_eq]
theorem xtR_eq {t : XT} : xtR t = fun s Q QE => t s (fun r s1 => onR r s1 Q) QE := by
  funext s Q QE
  unfold xtR
  congr
theorem xsRet_eq {t : XT} : xsRet t = fun D s => t s (fun r s1 => onR r s1 D.rt) D.ex := by
  funext D s
  unfold xsRet
  rw [xtR_eq]
theorem xsAsg_eq {t : XT} {i : Nat} : xsAsg i t = fun D s => t s (fun r s1 => onR r s1 fun r s1 => i < s1.length ∧ D.nx (s1.set i (sl r))) D.ex := by
  funext D s
  unfold xsAsg
  rw [xtR_eq]
theorem xtAnd_eq {t : AT} {u : XT} : xtAnd t u = fun s Q QE => t s fun r s1 => onB (rd s1 r) (u s1 Q QE) (Q (.d (.bool false)) s1) := rfl
/-- what is raised with -/
def onE (ds : List PyData) (k : PyData → Prop) : Prop := match ds with
  | [g] => k g
  | _ => False
theorem onE_1 {g : PyData} {k : PyData → Prop} : onE [g] k = k g := rfl
theorem xsRaise_eq {c n : Str} {td : DT} : xsRaise c n td = fun D s => td s fun ds s1 => onE ds fun g => D.ex ⟨c, [(.str n, g)]⟩ s1 := by
  funext D s
  unfold xsRaise
  congr
end DL

local macro_rules
  | `(tactic| simp! only [$ls,*]) => `(tactic| simp only [DL.aSeq, DL.aNext, DL.aNever, DL.aBreak, DL.aCont, DL.aRet_eq, DL.aRetN, DL.aIf_eq, DL.aExpr, DL.aAsg_eq, DL.aPar, DL.aPar3, DL.aTup, DL.gN, DL.gT_eq, DL.gC, DL.gE, DL.aSet_eq, DL.aApp_eq, DL.aIns, DL.aAug, DL.xC, DL.xVar_eq, DL.xD, DL.xR_eq, DL.x1, DL.x2, DL.xIf_eq, DL.xAnd_eq, DL.xOr_eq, DL.xNot_eq, DL.dNil, DL.dCons, DL.xTup, DL.xLst, DL.bV_eq, DL.bT, DL.bAnd_eq, DL.bOr_eq, DL.bNot, DL.bYes, DL.xSl, DL.pNo, DL.pSo_eq, DL.xCall, DL.xCallL, DL.xCallM_eq, DL.xChain_eq, DL.rd_d, DL.rd_f, DL.rd_c, DL.fz_d, DL.fz_f, DL.fz_c, DL.rdc_m, DL.rdc_d, DL.fzc_m, DL.fzc_d, DL.sl_d, DL.sl_f, DL.onX_d, DL.onX_m, DL.onR_d, DL.onR_f, DL.onR_c, DL.onM_f, DL.onM_c, DL.onMc_m, DL.onN_s, DL.onB_bool, DL.ifB_t, DL.ifB_f, DL.ifB_not, DL.onV_bool, DL.onI_int, DL.onT_t, DL.onS_t, DL.onS_l, DL.onZ_l, DL.onZ_t, DL.ownOf, DL.intOf, DL.startS, DL.startM, List.map_cons, List.map_nil, List.length_cons, List.length_nil, List.replicate, List.cons_append, List.nil_append, List.getElem?_cons_zero, List.getElem?_cons_succ, List.set_cons_zero, List.set_cons_succ, Nat.zero_add, Nat.reduceAdd, Nat.reduceSub, DL.oAdd_i, DL.oAdd_l, DL.oSub_i, DL.oMul_i, DL.oDiv_i, DL.oMod_i, DL.oNeg_i, DL.oLt_i, DL.oLe_i, DL.oGt_i, DL.oGe_i, DL.oIsi, DL.noFn_t, DL.noFn_l, DL.noFn_i, DL.noFn_s, DL.noFn_b, DL.noFn_n, DL.plain_fr, DL.oGcd_i, DL.oAbs_i, DL.oInt_i, DL.oLen_t, DL.oLen_l, DL.oLen_s, DL.oMin_i, DL.oMax_i, DL.oTuple_t, DL.oTuple_l, DL.oList_t, DL.oList_l, DL.oRev_t, DL.oRev_l, DL.oEq_i, DL.oNe_i, DL.oEq_s, DL.oNe_s, DL.oIx_fr0, DL.oIx_fr1, DL.oIx_t0, DL.oIx_t1, DL.oIx_l0, DL.oIx_l1, DL.oIx_l2, DL.oSl_t, DL.oSl_l, DL.oSl_s, DL.wSeq_eq, DL.wRng1_eq, DL.wZip_eq, Bool.not_true, Bool.not_false, if_true, if_false, reduceIte, Bool.false_eq_true, decide_eq_true_eq, ne_eq, not_true, not_false_eq_true, Nat.reduceLT, Nat.reduceLeDiff, Nat.reduceEqDiff, Int.reduceNeg, Int.cast_ofNat_Int, true_and, and_true, List.length_map, DL.putD, DL.wipeS, List.zip_cons_cons, List.zip_nil_left, List.zip_nil_right, DL.xsB, DL.xsNext, DL.xsSeq, DL.xsIf_eq, DL.xtB, DL.xtR_eq, DL.xsRet_eq, DL.xsAsg_eq, DL.xtAnd_eq, DL.onE_1, DL.xsRaise_eq, DL.xsRaise0, DL.xsExpr, DL.xtCall, DL.xtCallL, $ls,*])
namespace DL
open PySem PySem.Spec PyProof.Rows L2
/-! ### small defs of the program -/
/-! is_fraction: of anything -/
end DL

namespace DL
open PySem PySem.Spec PyProof.Rows L2
/-! ### the arithmetic of fractions -/
/-- few enough bits for a product -/
def Fit (a : Rat) : Prop := sz a ≤ 4000
theorem Fit.num {a : Rat} (h : Fit a) : Sm a.num := sm_of (Nat.le_trans (sI_num a) h)
theorem Fit.den {a : Rat} (h : Fit a) : Sm (a.den : Int) := sm_of (Nat.le_trans (sI_den a) h)
theorem gcd_small {n m : Int} (h : m ≠ 0) {k : Nat} (h2 : m.natAbs < k) : Int.gcd n m ≠ 0 ∧ Int.gcd n m < k := by
  have h1 := Int.gcd_pos_of_ne_zero_right n h
  have h3 : Int.gcd n m ≤ m.natAbs := by
    have := Int.gcd_le_natAbs_right n h
    exact this
  omega
end DL

namespace DL
open PySem PySem.Spec PyProof.Rows L2
local instance tbNME : Tb := ⟨[], fun _ => ""⟩
/-! ### lists of fractions, lines -/
def frs (qs : List Rat) : List PyData := qs.map fr
abbrev Cn := Rat × Rat
/-- an item by its place -/
def onO (o : Option PyData) (k : Rv → Prop) : Prop := match o with
  | some d => k (.d d)
  | none => False
theorem onO_s {d : PyData} {k : Rv → Prop} : onO (some d) k = k (.d d) := rfl
theorem oIx_lO {xs : List PyData} {i : Int} {k : Rv → Prop} : oIx (.list xs) (.int i) k = onO (ixD xs i) k := rfl
theorem oIx_tO {xs : List PyData} {i : Int} {k : Rv → Prop} : oIx (.tuple xs) (.int i) k = onO (ixD xs i) k := rfl
theorem oIx_sO {xs : List PyData} {i : Int} {k : Rv → Prop} : oIx (.dict [(.none, .list xs)]) (.int i) k = onO (ixD xs i) k := rfl
theorem ixD_n {xs : List PyData} {i : Nat} : ixD xs (i : Int) = xs[i]? := by
  unfold ixD
  rw [if_pos (by omega), Int.toNat_natCast]
theorem ixD_i {xs : List PyData} {i : Int} (h : 0 ≤ i) : ixD xs i = xs[i.toNat]? := by
  unfold ixD
  rw [if_pos h]
end DL

namespace DL
open PySem PySem.Spec PyProof.Rows L2
local instance tbNMF : Tb := ⟨[], fun _ => ""⟩
/-! ### comprehensions that change nothing -/
def lcB (tg : Tgt) (vs : List Nat) (tt : BT) (te : AT) (xs : List PyData) (s1 : AS) (Q : Rv → AS → Prop) : Prop := (xs.length ≤ 100000 ∧ ∀ v ∈ vs, noM s1 v = true) ∧ ∃ I : Nat → List PyData → AS → Prop, I 0 [] (wipeS s1 vs) ∧
  (∀ (i : Nat) d acc s2, xs[i]? = some d → I i acc s2 → ∃ b, bindD tg d = some b ∧ (∀ q ∈ b, q.1 ∈ vs ∧ q.1 < s2.length) ∧ tt (putD s2 b) fun k s3 => if k = true then xD te s3 fun r s4 => I (i + 1) (acc ++ [rd s4 r]) (wipeS s4 vs) else I (i + 1) acc (wipeS s3 vs)) ∧
  ∀ acc s2, I xs.length acc s2 → Q (.f acc) (backS s1 s2 vs)
theorem xLc_eq {w : DT} {tg : Tgt} {vs : List Nat} {tt : BT} {te : AT} : xLc w tg vs tt te = fun s Q => w s fun xs s1 => lcB tg vs tt te xs s1 Q := rfl
theorem putD_len : ∀ {b : List (Nat × PyData)} {s : AS}, (putD s b).length = s.length
  | [], _ => rfl
  | (j, x) :: r, s => by
    show (putD (s.set j (.d x)) r).length = _
    rw [putD_len, List.length_set]
theorem wipeS_in' {s : AS} : ∀ {vs : List Nat} {i : Nat}, i ∈ vs → (wipeS s vs)[i]? = if i < s.length then some Sl.no else none
  | v :: vs, i, h => by
    show ((wipeS s vs).set v .no)[i]? = _
    by_cases e : v = i
    · subst e
      by_cases lt : v < s.length
      · rw [if_pos lt, List.getElem?_set_self (by rw [wipeS_len]; exact lt)]
      · rw [if_neg lt, List.getElem?_eq_none (by rw [List.length_set, wipeS_len]; omega)]
    · rw [List.getElem?_set_ne e]
      rcases List.mem_cons.mp h with q | q
      · exact absurd q.symm e
      · exact wipeS_in' q
theorem wipe_put {s : AS} {vs : List Nat} {b : List (Nat × PyData)} (h : ∀ q ∈ b, q.1 ∈ vs) : wipeS (putD (wipeS s vs) b) vs = wipeS s vs := by
  apply List.ext_getElem?
  intro i
  by_cases m : i ∈ vs
  · rw [wipeS_in' m, wipeS_in' m, putD_len, wipeS_len]
  · rw [wipeS_at m, putD_off]
    intro q hq e
    exact m (e ▸ h q hq)
theorem back_wipe {s : AS} {vs : List Nat} : backS s (wipeS s vs) vs = s := by
  apply List.ext_getElem?
  intro i
  by_cases m : i ∈ vs
  · exact backS_in (wipeS_len vs) m
  · rw [backS_at m, wipeS_at m]
theorem lc_pure {tg : Tgt} {vs : List Nat} {te : AT} {s1 : AS} {Q : Rv → AS → Prop} {xs : List PyData} (g : PyData → PyData) (few : xs.length ≤ 100000) (nm : ∀ v ∈ vs, noM s1 v = true)
    (step : ∀ d ∈ xs, ∃ b, bindD tg d = some b ∧ (∀ q ∈ b, q.1 ∈ vs ∧ q.1 < s1.length) ∧ ∀ Q' : Rv → AS → Prop, Q' (.d (g d)) (putD (wipeS s1 vs) b) → te (putD (wipeS s1 vs) b) fun r s1 => Q' (.d (rd s1 r)) (fz s1 r))
    (fin : Q (.f (xs.map g)) s1) : lcB tg vs bYes te xs s1 Q := by
  refine ⟨⟨few, nm⟩, fun i acc s => s = wipeS s1 vs ∧ acc = (xs.take i).map g, ⟨rfl, rfl⟩, ?_, ?_⟩
  · rintro i d acc s2 hd ⟨rfl, rfl⟩
    obtain ⟨b, h1, h2, h3⟩ := step d (List.mem_of_getElem? hd)
    refine ⟨b, h1, fun q hq => ⟨(h2 q hq).1, by rw [wipeS_len]; exact (h2 q hq).2⟩, ?_⟩
    simp only [bYes, if_true]
    have lt := (List.getElem?_eq_some_iff.mp hd).1
    refine h3 (fun r s4 => wipeS s4 vs = wipeS s1 vs ∧ (xs.take i).map g ++ [rd s4 r] = (xs.take (i + 1)).map g) ⟨wipe_put fun q hq => (h2 q hq).1, ?_⟩
    rw [List.take_add_one, hd, List.map_append]
    rfl
  · rintro acc s2 ⟨rfl, rfl⟩
    rw [back_wipe, List.take_length]
    exact fin
theorem oAll_b {α : Type} {f : α → Bool} {xs : List α} {k : Rv → Prop} (h : k (.d (.bool (xs.all f)))) : oAll (.list (xs.map fun x => .bool (f x))) k := by
  refine ⟨xs.map f, ?_, ?_⟩
  · rw [show (xs.map fun x => PyData.bool (f x)) = (xs.map f).map PyData.bool by rw [List.map_map]; rfl]
    exact boolsD_map _
  · rw [List.all_map]
    exact h
/-- each is less than the next one -/
def asc (qs : List Rat) : Bool := (qs.zip (qs.drop 1)).all fun p => decide (p.1 < p.2)
end DL

namespace DL
open PySem PySem.Spec PyProof.Rows L2
/-! ### corners, slopes, heights -/
def slope (a b : Cn) : Rat := (b.2 - a.2) / (b.1 - a.1)
def slopes (cs : List Cn) : List Rat := (cs.zip (cs.drop 1)).map fun p => slope p.1 p.2
/-- half as few bits: for differences -/
def FitC (c : Cn) : Prop := sz c.1 ≤ 1990 ∧ sz c.2 ≤ 1990
theorem FitC.a {c : Cn} (h : FitC c) : Fit c.1 := Nat.le_trans h.1 (by decide)
theorem FitC.b {c : Cn} (h : FitC c) : Fit c.2 := Nat.le_trans h.2 (by decide)
theorem FitC.d1 {a b : Cn} (h : FitC a) (g : FitC b) : Fit (b.1 - a.1) := by
  have := sz_sub b.1 a.1
  have := h.1
  have := g.1
  unfold Fit
  omega
theorem FitC.d2 {a b : Cn} (h : FitC a) (g : FitC b) : Fit (b.2 - a.2) := by
  have := sz_sub b.2 a.2
  have := h.2
  have := g.2
  unfold Fit
  omega
/-- neighbours -/
theorem asc_iff {qs : List Rat} : asc qs = true ↔ ∀ (i : Nat) (a b : Rat), qs[i]? = some a → qs[i + 1]? = some b → a < b := by
  unfold asc
  rw [List.all_eq_true]
  constructor
  · intro h i a b ha hb
    have : (a, b) ∈ qs.zip (qs.drop 1) := by
      apply List.mem_of_getElem? (i := i)
      rw [List.getElem?_zip_eq_some]
      refine ⟨ha, ?_⟩
      rw [List.getElem?_drop, Nat.add_comm]
      exact hb
    simpa using h _ this
  · rintro h ⟨a, b⟩ m
    obtain ⟨i, hi⟩ := List.getElem?_of_mem m
    rw [List.getElem?_zip_eq_some, List.getElem?_drop, Nat.add_comm] at hi
    simpa using h i a b hi.1 hi.2
theorem asc_lt {qs : List Rat} (h : asc qs = true) : ∀ {i j : Nat} {a b : Rat}, i < j → qs[i]? = some a → qs[j]? = some b → a < b := by
  intro i j
  induction j with
  | zero => intro a b lt; omega
  | succ j ih =>
    intro a b lt ha hb
    have lj : j + 1 < qs.length := (List.getElem?_eq_some_iff.mp hb).1
    have ej : qs[j]? = some qs[j] := List.getElem?_eq_getElem (by omega)
    have s := asc_iff.mp h j _ _ ej hb
    by_cases c : i = j
    · subst c
      rw [ha] at ej
      cases ej
      exact s
    · have := ih (by omega) ha ej
      grind
/-- densities, moments: the first parts -/
def fsts (cs : List Cn) : List Rat := cs.map Prod.fst
theorem fsts_get {cs : List Cn} {i : Nat} {c : Cn} (h : cs[i]? = some c) : (fsts cs)[i]? = some c.1 := by
  unfold fsts
  rw [List.getElem?_map, h]
  rfl
theorem fsts_lt {cs : List Cn} (h : asc (fsts cs) = true) {i j : Nat} {a b : Cn} (lt : i < j) (ha : cs[i]? = some a) (hb : cs[j]? = some b) : a.1 < b.1 := asc_lt h lt (fsts_get ha) (fsts_get hb)
theorem slopes_len (cs : List Cn) : (slopes cs).length = cs.length - 1 := by
  unfold slopes
  rw [List.length_map, List.length_zip, List.length_drop]
  omega
theorem slopes_get {cs : List Cn} {i : Nat} {a b : Cn} (ha : cs[i]? = some a) (hb : cs[i + 1]? = some b) : (slopes cs)[i]? = some (slope a b) := by
  unfold slopes
  rw [List.getElem?_map]
  have : (cs.zip (cs.drop 1))[i]? = some (a, b) := by
    rw [List.getElem?_zip_eq_some]
    refine ⟨ha, ?_⟩
    rw [List.getElem?_drop, Nat.add_comm]
    exact hb
  rw [this]
  rfl
theorem slopes_at {cs : List Cn} {i : Nat} {p : Rat} (h : (slopes cs)[i]? = some p) : ∃ a b, cs[i]? = some a ∧ cs[i + 1]? = some b ∧ p = slope a b := by
  have lt := (List.getElem?_eq_some_iff.mp h).1
  rw [slopes_len] at lt
  have ha : cs[i]? = some cs[i] := List.getElem?_eq_getElem (by omega)
  have hb : cs[i + 1]? = some cs[i + 1] := List.getElem?_eq_getElem (by omega)
  refine ⟨_, _, ha, hb, ?_⟩
  have := slopes_get ha hb
  rw [h] at this
  exact Option.some.inj this
end DL

namespace DL
open PySem PySem.Spec PyProof.Rows L2
local instance tbNMH : Tb := ⟨[], fun _ => ""⟩
/-! ### heights -/
end DL

namespace DL
open PySem PySem.Spec PyProof.Rows L2
/-! ### kinds -/
structure IsKind (cs : List Cn) : Prop where
  few : 3 ≤ cs.length
  many : cs.length ≤ 12
  zero : cs[0]? = some (0, 0)
  last : ∀ c, cs[cs.length - 1]? = some c → c.2 = 0
  asc : asc (fsts cs) = true
  desc : DL.asc (slopes cs).reverse = true
/-- few enough bits for all that is told of a kind -/
structure FitK (cs : List Cn) : Prop where
  c : ∀ c ∈ cs, FitC c
  s : ∀ s ∈ slopes cs, Fit s
end DL

namespace DL
open PySem PySem.Spec PyProof.Rows L2
/-! ### what is asked of kinds -/
theorem IsKind.le {cs : List Cn} (k : IsKind cs) : cs.length ≤ 100000 := Nat.le_trans k.many (by decide)
/-- m is the toll for each unit of time -/
structure IsToll (cs : List Cn) (v m : Rat) : Prop where
  ex : ∃ c ∈ cs, m = c.2 - c.1 * v
  ge : ∀ c ∈ cs, c.2 - c.1 * v ≤ m
/-- from the back speed up to the free one -/
structure Within (cs : List Cn) (v : Rat) : Prop where
  lo : ∀ s, (slopes cs).getLast? = some s → s ≤ v
  hi : ∀ s, (slopes cs)[0]? = some s → v ≤ s
theorem last_of {α : Type} {xs : List α} (n : xs ≠ []) : ∃ x, xs.getLast? = some x ∧ x ∈ xs := ⟨xs.getLast n, List.getLast?_eq_some_getLast n, List.getLast_mem n⟩
theorem IsKind.ne {cs : List Cn} (k : IsKind cs) : cs ≠ [] := by
  rintro rfl
  have := k.few
  simp at this
end DL

namespace DL
open PySem PySem.Spec PyProof.Rows L2
local instance tbNMK : Tb := ⟨[], fun _ => ""⟩
/-! ### what the law draws -/
def scr (ns : List Int) : PyData := .dict [(.none, .list (ns.map PyData.int))]
/-- a spring from which at most m draws were taken -/
def Spr (m : Nat) (xs : List PyData) : Prop := ∃ a b c : Int, xs = [.int a, .int b, .int c] ∧ (0 ≤ a) ∧ (0 ≤ b ∧ b < 2 ^ 31) ∧ (0 ≤ c ∧ c ≤ m)
theorem sm_small {i : Int} (h : i.natAbs < 2 ^ 64) : Sm i := Nat.lt_of_lt_of_le h (Nat.pow_le_pow_right (by decide) (by decide))
def F_l_spring : FP := fun ds P => ∃ (ns : List Int) (t : Int), ds = [scr ns, .int t] ∧ (ns.length ≤ 63 ∧ 0 ≤ t ∧ t ≤ 100) ∧ ∀ xs, Spr 0 xs → P (.f xs)
theorem len_l_spring : ∀ ds P, F_l_spring ds P → ds.length = 2 := by
  rintro _ _ ⟨d, t, rfl, _⟩
  rfl
theorem u_l_spring {ns : List Int} {t : Int} {P : Rv → Prop} (c : ns.length ≤ 63 ∧ 0 ≤ t ∧ t ≤ 100) (h : ∀ xs, Spr 0 xs → P (.f xs)) : F_l_spring [scr ns, .int t] P := ⟨ns, t, rfl, c, h⟩
theorem cutD_int (ns : List Int) (lo hi : Option Int) : ∃ ms : List Int, cutD (ns.map PyData.int) lo hi = ms.map PyData.int ∧ ms.length ≤ ns.length := by
  unfold cutD
  rw [List.length_map]
  refine ⟨(ns.drop (HT.sIx ns.length 0 lo)).take (HT.sIx ns.length ns.length hi - HT.sIx ns.length 0 lo), ?_, ?_⟩
  · rw [List.map_take, List.map_drop]
  · rw [List.length_take, List.length_drop]
    omega
theorem oSum_i {ms : List Int} {k : Rv → Prop} (h : k (.d (.int ms.sum))) : oSum (.list (ms.map PyData.int)) k := ⟨ms, intsD_map ms, h⟩
theorem oPow_i {i j : Int} {k : Rv → Prop} : oPow (.int i) (.int j) k = ((0 ≤ j ∧ j ≤ 1000 ∧ i.natAbs < 1000) ∧ k (.d (.int (i ^ j.toNat)))) := rfl
theorem fmod_b {a : Int} {m : Int} (h : 0 < m) : 0 ≤ a.fmod m ∧ a.fmod m < m := ⟨Int.fmod_nonneg_of_pos a h, Int.fmod_lt_of_pos a h⟩
theorem ints_get {ks : List Int} {i : Nat} {d : PyData} (h : (ks.map PyData.int)[i]? = some d) : ∃ k, d = .int k := by
  rw [List.getElem?_map] at h
  rcases e : ks[i]? with _ | q
  · rw [e] at h; cases h
  · rw [e] at h; exact ⟨q, (Option.some.inj h).symm⟩
def t_l_spring : ATS :=
  (aSeq (aAsg 2 (xIf (bV (x2 (xVar 1) (x1 (xVar 0) oLen) oLt)) (x1 (x2 (xVar 0) (xVar 1) oIx) oInt) (x2 (x2 (x2 (xC (.int 5171)) (xVar 1) oMul) (xC (.int 367)) oAdd) (x2 (x1 (x1 (xSl (xVar 0) pNo (pSo (xC (.int 5)))) oSum) oInt) (xC (.int 1000033)) oMod) oAdd)))
    (aSeq (aAsg 3 (x2 (xC (.int 70657)) (x2 (xC (.int 2903)) (xVar 1) oMul) oAdd))
    (aSeq (aFor (wSeq (x2 (xSl (xVar 0) pNo (pSo (xC (.int 63)))) (xLst (dCons (xVar 2) dNil)) oAdd)) (gN 4) (aAsg 3 (x2 (x1 (x2 (x2 (x2 (xVar 3) (xC (.int 52919)) oMul) (x2 (x1 (xVar 4) oInt) (xC (.int 2147483629)) oMod) oAdd) (xC (.int 29)) oAdd) oInt) (xC (.int 2147483629)) oMod)))
    (aRet (xLst (dCons (xIf (bOr (bV (x2 (xVar 2) (xC (.int 0)) oLt)) (bV (x2 (xVar 2) (x2 (xC (.int 10)) (xC (.int 18)) oPow) oGe))) (x1 (xVar 2) oAbs) (xC (.int 0))) (dCons (xVar 3) (dCons (xC (.int 0)) dNil))))))))
abbrev n_l_spring : List Str := ["_law_script", "_law_turn", "_law_own", "_law_stirred", "_law_cell"]
abbrev Wp_l_spring : Prop := ∀ ds P, F_l_spring ds P → t_l_spring { nx := fun _ => P (.d .none), rt := fun r _ => P r } (startS n_l_spring ds)
theorem seq_gen {t u : ATS} {D : AEnds} {s : AS} (M : AS → Prop) (h : ∀ R : AS → Prop, (∀ s', M s' → R s') → t { D with nx := R } s) (hm : ∀ s', M s' → u D s') : aSeq t u D s := h (u D) hm
theorem wp_l_spring : Wp_l_spring := by
  rintro _ P ⟨ns, t, rfl, ⟨few, t0, t1⟩, h⟩
  unfold t_l_spring
  refine seq_gen (fun s => ∃ own : Int, s = [Sl.d (scr ns), Sl.d (.int t), Sl.d (.int own), Sl.no, Sl.no]) (fun R hR => ?_) ?_
  · simp! only [scr]
    refine ifB_of (fun c => ?_) (fun c => ?_)
    · have c := of_decide_eq_true c
      have e : (ns.map PyData.int)[t.toNat]? = some (.int ns[t.toNat]) := by
        rw [List.getElem?_map, List.getElem?_eq_getElem (by omega)]
        rfl
      simp! only [oIx_sO, ixD_i t0, e, onO_s]
      exact hR _ ⟨_, rfl⟩
    · obtain ⟨ms, em, _⟩ := cutD_int ns none (some 5)
      simp! only [em]
      refine ⟨⟨sm_small (by decide), sm_small (by omega)⟩, oSum_i ?_⟩
      simp! only []
      exact ⟨by decide, hR _ ⟨_, rfl⟩⟩
  rintro _ ⟨own, rfl⟩
  obtain ⟨ms, em, fewm⟩ := cutD_int ns none (some 63)
  simp! only [scr, em, aFor]
  refine ⟨⟨sm_small (by decide), sm_small (by omega)⟩, by omega, fun i s => ∃ (k : Int) (z : Sl), s = [Sl.d (.dict [(.none, .list (ns.map PyData.int))]), Sl.d (.int t), Sl.d (.int own), Sl.d (.int k), z] ∧ 0 ≤ k ∧ k < 2147483629, ⟨_, _, rfl, by omega, by omega⟩, ?_, ?_⟩
  · rintro i d s2 hd ⟨k, z, rfl, k0, k1⟩
    rw [show ms.map PyData.int ++ [PyData.int own] = (ms ++ [own]).map PyData.int by simp] at hd
    obtain ⟨x, rfl⟩ := ints_get hd
    simp! only []
    have b := fmod_b (a := k * 52919 + x.fmod 2147483629 + 29) (m := 2147483629) (by decide)
    exact ⟨⟨sm_small (by omega), sm_small (by decide)⟩, by decide, by decide, _, _, rfl, b.1, b.2⟩
  · rintro s2 ⟨k, z, rfl, k0, k1⟩
    simp! only []
    have fin : ∀ a : Int, 0 ≤ a → P (.f [.int a, .int k, .int 0]) := fun a a0 => h _ ⟨a, k, 0, rfl, a0, ⟨k0, by omega⟩, by omega, by omega⟩
    have fabs : P (.f [.int (if own < 0 then -own else own), .int k, .int 0]) := fin _ (by split <;> omega)
    refine ifB_of (fun c1 => ?_) (fun c1 => ?_)
    · exact fabs
    · simp! only [oPow_i]
      refine ⟨by decide, ?_⟩
      refine ifB_of (fun c2 => ?_) (fun c2 => ?_)
      · exact fabs
      · exact fin 0 (by decide)
end DL

namespace DL
open PySem PySem.Spec PyProof.Rows L2
local instance tbNML : Tb := ⟨[], fun _ => ""⟩
def F_l_draw : FM := fun xs ds P => ∃ (m : Nat) (k : Int), Spr m xs ∧ ds = [.int k] ∧ (m ≤ 1000000 ∧ 0 < k ∧ k ≤ 2 ^ 64) ∧ ∀ (r : Int) ys, 0 ≤ r → r < k → Spr (m + 1) ys → P (.d (.int r)) ys
theorem len_l_draw : ∀ xs ds P, F_l_draw xs ds P → ds.length + 1 = 2 := by
  rintro _ _ _ ⟨m, k, _, rfl, _⟩
  rfl
def t_l_draw : ATS :=
  (aSeq (aIf (bV (x2 (x2 (xVar 0) (xC (.int 0)) oIx) (xC (.int 0)) oGt)) (aSeq (aAsg 2 (x2 (x1 (x2 (xVar 0) (xC (.int 0)) oIx) oInt) (xVar 1) oMod))
    (aSeq (aSet (x2 (x1 (x2 (xVar 0) (xC (.int 0)) oIx) oInt) (xVar 1) oDiv) (xVar 0) (xC (.int 0)))
    (aRet (xVar 2)))) aNext)
    (aSeq (aSet (x2 (x2 (xVar 0) (xC (.int 2)) oIx) (xC (.int 1)) oAdd) (xVar 0) (xC (.int 2)))
    (aSeq (aSet (x2 (x1 (x2 (x2 (x2 (x2 (xVar 0) (xC (.int 1)) oIx) (x2 (xC (.int 31607)) (x2 (xC (.int 6)) (x2 (xVar 0) (xC (.int 2)) oIx) oMul) oAdd) oMul) (x2 (xC (.int 90247)) (x2 (xVar 0) (xC (.int 2)) oIx) oMul) oAdd) (xC (.int 17)) oAdd) oInt) (xC (.int 2147483587)) oMod) (xVar 0) (xC (.int 1)))
    (aRet (x2 (x1 (x2 (x2 (xVar 0) (xC (.int 1)) oIx) (xC (.int 71)) oDiv) oInt) (xVar 1) oMod)))))
abbrev n_l_draw : List Str := ["_law_spring_here", "_law_many", "_law_digit"]
abbrev Wp_l_draw : Prop := ∀ xs ds P, F_l_draw xs ds P → t_l_draw { nx := fun s => ∃ ys, s[0]? = some (Sl.m true ys) ∧ P (.d .none) ys, rt := fun r s => ∃ ys, s[0]? = some (Sl.m true ys) ∧ P r ys } (startM n_l_draw xs ds)
theorem ixN_lit : ixN 3 0 = some 0 ∧ ixN 3 1 = some 1 ∧ ixN 3 2 = some 2 := by decide
theorem wp_l_draw : Wp_l_draw := by
  rintro _ _ P ⟨m, k, ⟨a, b, c, rfl, a0, ⟨b0, b1⟩, c0, c1⟩, rfl, ⟨hm, k0, k1⟩, h⟩
  obtain ⟨i0, i1, i2⟩ := ixN_lit
  unfold t_l_draw
  simp! only [i0, i1, i2]
  refine ifB_of (fun g => ?_) (fun g => ?_)
  · have r := fmod_b (a := a) k0
    refine ⟨by omega, ⟨by omega, by omega⟩, _, rfl, h _ _ r.1 r.2 ⟨_, b, c, rfl, ?_, ⟨b0, b1⟩, c0, by omega⟩⟩
    rw [Int.fdiv_eq_ediv_of_nonneg _ (by omega)]
    exact Int.ediv_nonneg a0 (by omega)
  · have r := fmod_b (a := b * (31607 + 6 * (c + 1)) + 90247 * (c + 1) + 17) (m := 2147483587) (by decide)
    have r2 := fmod_b (a := ((b * (31607 + 6 * (c + 1)) + 90247 * (c + 1) + 17).fmod 2147483587).fdiv 71) k0
    exact ⟨⟨sm_small (by decide), sm_small (by omega)⟩, ⟨sm_small (by omega), sm_small (by omega)⟩, ⟨sm_small (by decide), sm_small (by omega)⟩, by decide, ⟨by decide, Nat.lt_of_lt_of_le (m := 2 ^ 64) (by decide) (Nat.pow_le_pow_right (by decide) (by decide))⟩, by omega, _, rfl, h _ _ r2.1 r2.2 ⟨a, _, c + 1, rfl, a0, ⟨r.1, by omega⟩, by omega, by omega⟩⟩
def F_l_pick : FM := fun xs ds P => ∃ (m : Nat) (zs : List PyData), Spr m xs ∧ (ds = [.list zs] ∨ ds = [.tuple zs]) ∧ (m ≤ 1000000 ∧ zs ≠ [] ∧ zs.length ≤ 100000) ∧ ∀ z ys, z ∈ zs → Spr (m + 1) ys → P (.d z) ys
theorem len_l_pick : ∀ xs ds P, F_l_pick xs ds P → ds.length + 1 = 2 := by
  rintro _ _ _ ⟨m, k, _, rfl | rfl, _⟩ <;> rfl
def t_l_pick : ATS :=
  (aRet (x2 (xVar 1) (xCallM F_l_draw (xVar 0) (dCons (x1 (xVar 1) oLen) dNil)) oIx))
abbrev n_l_pick : List Str := ["_law_spring_here", "_law_some"]
abbrev Wp_l_pick : Prop := ∀ xs ds P, F_l_pick xs ds P → t_l_pick { nx := fun s => ∃ ys, s[0]? = some (Sl.m true ys) ∧ P (.d .none) ys, rt := fun r s => ∃ ys, s[0]? = some (Sl.m true ys) ∧ P r ys } (startM n_l_pick xs ds)
theorem wp_l_pick : Wp_l_pick := by
  rintro xs _ P ⟨m, zs, spr, e, ⟨hm, ne, few⟩, h⟩
  have pos := List.length_pos_iff.mpr ne
  unfold t_l_pick
  rcases e with rfl | rfl
  · simp! only []
    refine ⟨m, zs.length, spr, rfl, ⟨hm, by omega, by omega⟩, fun r ys r0 r1 sp => ?_⟩
    have lt : r.toNat < zs.length := by omega
    simp! only [oIx_lO, ixD_i r0, List.getElem?_eq_getElem lt, onO_s]
    exact ⟨_, rfl, h _ _ (List.getElem_mem lt) sp⟩
  · simp! only []
    refine ⟨m, zs.length, spr, rfl, ⟨hm, by omega, by omega⟩, fun r ys r0 r1 sp => ?_⟩
    have lt : r.toNat < zs.length := by omega
    simp! only [oIx_tO, ixD_i r0, List.getElem?_eq_getElem lt, onO_s]
    exact ⟨_, rfl, h _ _ (List.getElem_mem lt) sp⟩
/-- the greatest common divisor -/
def F_l_shared : FP := fun ds P => ∃ n m : Int, ds = [.int n, .int m] ∧ P (.d (.int (Int.gcd n m)))
theorem len_l_shared : ∀ ds P, F_l_shared ds P → ds.length = 2 := by
  rintro _ _ ⟨n, m, rfl, _⟩
  rfl
def t_l_shared : ATS :=
  (aSeq (aPar 2 3 (x1 (xVar 0) oAbs) (x1 (xVar 1) oAbs))
    (aSeq (aWhile (bV (x2 (xVar 3) (xC (.int 0)) oNe)) (aPar 2 3 (xVar 3) (x2 (x1 (xVar 2) oInt) (xVar 3) oMod)))
    (aRet (xVar 2))))
abbrev n_l_shared : List Str := ["_law_one", "_law_two", "_law_big", "_law_small_here"]
abbrev Wp_l_shared : Prop := ∀ ds P, F_l_shared ds P → t_l_shared { nx := fun _ => P (.d .none), rt := fun r _ => P r } (startS n_l_shared ds)
theorem abs_nat (n : Int) : (if n < 0 then -n else n) = (n.natAbs : Int) := by split <;> omega
theorem wp_l_shared : Wp_l_shared := by
  rintro _ P ⟨n, m, rfl, h⟩
  unfold t_l_shared
  simp! only [aWhile_eq, abs_nat]
  refine ⟨fun s => ∃ i j : Nat, s = [Sl.d (.int n), Sl.d (.int m), Sl.d (.int (i : Int)), Sl.d (.int (j : Int))] ∧ Nat.gcd i j = Int.gcd n m, fun s => match s with | [_, _, _, .d (.int j)] => j.toNat | _ => 0, ⟨_, _, rfl, rfl⟩, ?_⟩
  rintro _ ⟨i, j, rfl, e⟩
  simp! only []
  refine ifB_of (fun c => ?_) (fun c => ?_)
  · have c : (j : Int) ≠ 0 := of_decide_eq_true c
    have z : (i : Int).fmod (j : Int) = ((i % j : Nat) : Int) := by rw [Int.fmod_eq_emod_of_nonneg _ (by omega)]; rfl
    rw [z]
    refine ⟨c, ⟨j, i % j, rfl, ?_⟩, ?_⟩
    · rw [← e, Nat.gcd_comm i j, Nat.gcd_rec j i, Nat.gcd_comm]
    · have := Nat.mod_lt i (show 0 < j by omega)
      rw [Int.toNat_natCast, Int.toNat_natCast]
      exact this
  · have c : (j : Int) = 0 := by simpa using of_decide_eq_false c
    obtain rfl : j = 0 := by omega
    rw [Nat.gcd_zero_right] at e
    rw [e]
    exact h
def F_l_frac : FP := fun ds P => ∃ n m : Int, ds = [.int n, .int m] ∧ (m ≠ 0 ∧ m.natAbs < 2 ^ 8100) ∧ P (.d (fr ((n : Rat) / (m : Rat))))
theorem len_l_frac : ∀ ds P, F_l_frac ds P → ds.length = 2 := by
  rintro _ _ ⟨n, m, rfl, _⟩
  rfl
theorem u_l_frac {n m : Int} {P : Rv → Prop} : F_l_frac [.int n, .int m] P = ((m ≠ 0 ∧ m.natAbs < 2 ^ 8100) ∧ P (.d (fr ((n : Rat) / (m : Rat))))) := by
  exact propext ⟨by (rintro ⟨_, _, e, h⟩; simp only [List.cons.injEq, fr_inj, PyData.int.injEq, and_true] at e; cases e with | intro e1 e2 => (subst e1; subst e2; exact h)), fun h => ⟨_, _, rfl, h⟩⟩
theorem u_l_shared {n m : Int} {P : Rv → Prop} : F_l_shared [.int n, .int m] P = P (.d (.int (Int.gcd n m))) := by
  exact propext ⟨by (rintro ⟨_, _, e, h⟩; simp only [List.cons.injEq, fr_inj, PyData.int.injEq, and_true] at e; cases e with | intro e1 e2 => (subst e1; subst e2; exact h)), fun h => ⟨_, _, rfl, h⟩⟩
def t_l_frac : ATS :=
  (aSeq (aAsg 2 (xCall F_l_shared (dCons (xVar 0) (dCons (xVar 1) dNil))))
    (aSeq (aAsg 2 (xIf (bV (x2 (xVar 1) (xC (.int 0)) oGt)) (xVar 2) (x2 (xC (.int 0)) (xVar 2) oSub)))
    (aRet (xTup (dCons (x2 (xVar 0) (xVar 2) oDiv) (dCons (x2 (xVar 1) (xVar 2) oDiv) dNil))))))
abbrev n_l_frac : List Str := ["_law_top", "_law_under_here", "_law_part_here"]
abbrev Wp_l_frac : Prop := ∀ ds P, F_l_frac ds P → t_l_frac { nx := fun _ => P (.d .none), rt := fun r _ => P r } (startS n_l_frac ds)
theorem wp_l_frac : Wp_l_frac := by
  rintro _ P ⟨n, m, rfl, ⟨h1, h2⟩, h⟩
  obtain ⟨g1, g2⟩ := gcd_small (n := n) h1 h2
  rw [fr_div h1] at h
  unfold t_l_frac
  simp! only [u_l_shared]
  refine ifB_of (fun hm => ?_) (fun hm => ?_)
  · have hm := of_decide_eq_true hm
    rw [if_neg (by omega)] at h
    rw [Int.natAbs_natCast]
    exact ⟨⟨by omega, g2⟩, ⟨by omega, g2⟩, h⟩
  · have hm : ¬ 0 < m := of_decide_eq_false hm
    rw [if_pos (by omega)] at h
    rw [Int.zero_sub, Int.natAbs_neg, Int.natAbs_natCast]
    exact ⟨⟨by omega, g2⟩, ⟨by omega, g2⟩, h⟩
theorem Fit.n {a : Rat} (h : Fit a) : sI a.num ≤ 4000 := Nat.le_trans (sI_num a) h
theorem Fit.d {a : Rat} (h : Fit a) : sI (a.den : Int) ≤ 4000 := Nat.le_trans (sI_den a) h
end DL

namespace DL
open PySem PySem.Spec PyProof.Rows L2
local instance tbNMM : Tb := ⟨[], fun _ => ""⟩
/-! ### rows that grow -/
theorem snoc_get {α : Type} {xs : List α} {x y : α} {i : Nat} (h : (xs ++ [x])[i]? = some y) : (i < xs.length ∧ xs[i]? = some y) ∨ (i = xs.length ∧ y = x) := by
  by_cases c : i < xs.length
  · rw [List.getElem?_append_left c] at h
    exact Or.inl ⟨c, h⟩
  · rw [List.getElem?_append_right (by omega)] at h
    by_cases e : i = xs.length
    · subst e
      rw [Nat.sub_self] at h
      exact Or.inr ⟨rfl, (Option.some.inj h).symm⟩
    · rw [List.getElem?_eq_none (by simp; omega)] at h
      cases h
theorem last_at {α : Type} {xs : List α} {x : α} (h : xs.getLast? = some x) : xs[xs.length - 1]? = some x := by
  rw [List.getLast?_eq_getElem?] at h
  exact h
theorem asc_snoc {qs : List Rat} {a b : Rat} (h : asc qs = true) (l : qs.getLast? = some a) (lt : a < b) : asc (qs ++ [b]) = true := by
  rw [asc_iff]
  intro i x y hx hy
  rcases snoc_get hy with ⟨c, hy⟩ | ⟨c, rfl⟩
  · rcases snoc_get hx with ⟨_, hx⟩ | ⟨d, _⟩
    · exact asc_iff.mp h i x y hx hy
    · omega
  · rcases snoc_get hx with ⟨_, hx⟩ | ⟨d, _⟩
    · have := last_at l
      rw [show qs.length - 1 = i by omega, hx] at this
      cases this
      exact lt
    · omega
theorem slopes_snoc {cs : List Cn} {a c : Cn} (l : cs.getLast? = some a) : slopes (cs ++ [c]) = slopes cs ++ [slope a c] := by
  have la := last_at l
  have n : cs ≠ [] := by rintro rfl; cases l
  have pos := List.length_pos_iff.mpr n
  apply List.ext_getElem?
  intro i
  by_cases c1 : i < cs.length - 1
  · have h1 : cs[i]? = some cs[i] := List.getElem?_eq_getElem (by omega)
    have h2 : cs[i + 1]? = some cs[i + 1] := List.getElem?_eq_getElem (by omega)
    rw [List.getElem?_append_left (by rw [slopes_len]; exact c1), slopes_get h1 h2]
    exact slopes_get (by rw [List.getElem?_append_left (by omega)]; exact h1) (by rw [List.getElem?_append_left (by omega)]; exact h2)
  · by_cases c2 : i = cs.length - 1
    · rw [List.getElem?_append_right (by rw [slopes_len]; omega), slopes_len, c2, Nat.sub_self]
      refine (slopes_get (a := a) (b := c) ?_ ?_).trans rfl
      · rw [List.getElem?_append_left (by omega)]
        exact la
      · rw [List.getElem?_append_right (by omega), show cs.length - 1 + 1 - cs.length = 0 by omega]
        rfl
    · rw [List.getElem?_eq_none (by rw [slopes_len, List.length_append, List.length_singleton]; omega), List.getElem?_eq_none (by rw [List.length_append, slopes_len, List.length_singleton]; omega)]
theorem fsts_snoc {cs : List Cn} {c : Cn} : fsts (cs ++ [c]) = fsts cs ++ [c.1] := by
  unfold fsts
  rw [List.map_append]
  rfl
theorem fsts_last {cs : List Cn} {a : Cn} (l : cs.getLast? = some a) : (fsts cs).getLast? = some a.1 := by
  unfold fsts
  rw [List.getLast?_map, l]
  rfl
theorem last_snoc {α : Type} {xs : List α} {x : α} : (xs ++ [x]).getLast? = some x := by simp
/-- each is greater than the next one -/
def Dsc (qs : List Rat) : Prop := ∀ (i : Nat) (a b : Rat), qs[i]? = some a → qs[i + 1]? = some b → b < a
theorem asc_rev {qs : List Rat} : asc qs.reverse = true ↔ Dsc qs := by
  rw [asc_iff]
  constructor
  · intro h i a b ha hb
    have lb := (List.getElem?_eq_some_iff.mp hb).1
    refine h (qs.length - 1 - (i + 1)) b a ?_ ?_
    · rw [List.getElem?_reverse (by omega), show qs.length - 1 - (qs.length - 1 - (i + 1)) = i + 1 by omega]
      exact hb
    · rw [List.getElem?_reverse (by omega), show qs.length - 1 - (qs.length - 1 - (i + 1) + 1) = i by omega]
      exact ha
  · intro h i a b ha hb
    have lb := (List.getElem?_eq_some_iff.mp hb).1
    rw [List.length_reverse] at lb
    rw [List.getElem?_reverse (by omega)] at ha hb
    refine h (qs.length - 1 - (i + 1)) b a hb ?_
    rw [show qs.length - 1 - (i + 1) + 1 = qs.length - 1 - i by omega]
    exact ha
theorem dsc_lt {qs : List Rat} (h : Dsc qs) : ∀ {i j : Nat} {a b : Rat}, i < j → qs[i]? = some a → qs[j]? = some b → b < a := by
  intro i j
  induction j with
  | zero => intro a b lt; omega
  | succ j ih =>
    intro a b lt ha hb
    have lj : j + 1 < qs.length := (List.getElem?_eq_some_iff.mp hb).1
    have ej : qs[j]? = some qs[j] := List.getElem?_eq_getElem (by omega)
    have s := h j _ _ ej hb
    by_cases c : i = j
    · subst c
      rw [ha] at ej
      cases ej
      exact s
    · have := ih (by omega) ha ej
      grind
/-! sorted, each once -/
end DL

namespace DL
open PySem PySem.Spec PyProof.Rows L2
local instance tbNMN : Tb := ⟨[], fun _ => ""⟩
/-! ### the law's roads -/
theorem u_draw {m : Nat} {k : Int} {xs : List PyData} {P : Rv → List PyData → Prop} (spr : Spr m xs) (hm : m ≤ 1000000) (k0 : 0 < k) (k1 : k ≤ 2 ^ 64) (h : ∀ (r : Int) ys, 0 ≤ r → r < k → Spr (m + 1) ys → P (.d (.int r)) ys) : F_l_draw xs [.int k] P := ⟨m, k, spr, rfl, ⟨hm, k0, k1⟩, h⟩
theorem sz_q (n m : Int) : sz ((n : Rat) / (m : Rat)) ≤ max (sI n) (sI m) := by
  rw [← Rat.divInt_eq_div]
  exact sz_divInt n m
/-- k / D, not too large -/
def Hv (D B : Nat) (q : Rat) : Prop := ∃ k : Int, q = (k : Rat) / ((D : Int) : Rat) ∧ k.natAbs ≤ B
theorem Hv.sz_ {D B n : Nat} {q : Rat} (h : Hv D B q) (hn : 0 < n) (hB : B < 2 ^ n) (hD : D < 2 ^ n) : sz q ≤ n := by
  obtain ⟨k, rfl, hk⟩ := h
  refine Nat.le_trans (by rw [← Rat.divInt_eq_div]; exact sz_divInt k D) (Nat.max_le.mpr ⟨sI_le (by omega) hn, sI_le (by omega) hn⟩)
theorem Hv.up {D B C : Nat} {q : Rat} (h : Hv D B q) (l : B ≤ C) : Hv D C q := by
  obtain ⟨k, rfl, hk⟩ := h
  exact ⟨k, rfl, Nat.le_trans hk l⟩
theorem Hv.add {D B C : Nat} {q p : Rat} (h : Hv D B q) (g : Hv D C p) : Hv D (B + C) (q + p) := by
  obtain ⟨k, rfl, hk⟩ := h
  obtain ⟨l, rfl, hl⟩ := g
  refine ⟨k + l, ?_, by omega⟩
  rw [Rat.intCast_add, Rat.div_def, Rat.div_def, Rat.div_def, Rat.add_mul]
theorem Hv.sub {D B C : Nat} {q p : Rat} (h : Hv D B q) (g : Hv D C p) : Hv D (B + C) (q - p) := by
  obtain ⟨k, rfl, hk⟩ := h
  obtain ⟨l, rfl, hl⟩ := g
  refine ⟨k - l, ?_, by omega⟩
  rw [Rat.intCast_sub, Rat.div_def, Rat.div_def, Rat.div_def, Rat.sub_eq_add_neg, Rat.sub_eq_add_neg, Rat.add_mul, Rat.neg_mul]
theorem Hv.of {D B : Nat} {n m : Int} (m0 : m ≠ 0) (d0 : D ≠ 0) (k : Int) (e : n * D = k * m) (hk : k.natAbs ≤ B) : Hv D B ((n : Rat) / (m : Rat)) := by
  refine ⟨k, ?_, hk⟩
  rw [← Rat.divInt_eq_div, ← Rat.divInt_eq_div]
  exact (Rat.divInt_eq_divInt_iff m0 (by omega)).mpr e
theorem Hv.zero {D B : Nat} (d0 : D ≠ 0) : Hv D B 0 := ⟨0, by rw [Rat.intCast_zero, Rat.div_def, Rat.zero_mul], Nat.zero_le _⟩
theorem small8100 {m : Int} (h : m.natAbs < 2 ^ 64) : m.natAbs < 2 ^ 8100 := Nat.lt_of_lt_of_le h (Nat.pow_le_pow_right (by decide) (by decide))
/-- a road that the law draws -/
structure Road (cs : List Cn) : Prop where
  kind : IsKind cs
  c : ∀ c ∈ cs, sz c.1 ≤ 500 ∧ sz c.2 ≤ 500
  s : ∀ s ∈ slopes cs, sz s ≤ 45
  c1 : ∀ (i : Nat) (c : Cn), cs[i]? = some c → i + 1 < cs.length → sz c.1 ≤ 200 ∧ sz c.2 ≤ 240
theorem Road.fit {cs : List Cn} (r : Road cs) : FitK cs := ⟨fun c m => ⟨Nat.le_trans (r.c c m).1 (by decide), Nat.le_trans (r.c c m).2 (by decide)⟩, fun s m => Nat.le_trans (r.s s m) (by decide)⟩
end DL

namespace DL
open PySem PySem.Spec PyProof.Rows L2
local instance tbNMO : Tb := ⟨[], fun _ => ""⟩
/-! ### a road of a few paces -/
theorem Spr.mono {m n : Nat} {xs : List PyData} (h : Spr m xs) (le : m ≤ n) : Spr n xs := by
  obtain ⟨a, b, c, e, h1, h2, h3, h4⟩ := h
  exact ⟨a, b, c, e, h1, h2, h3, by omega⟩
structure Paces (ps : List Rat) (n : Nat) (back : Rat) : Prop where
  len : ps.length = n
  n2 : 2 ≤ n
  n4 : n ≤ 4
  dsc : Dsc ps
  first : ∀ p, ps[0]? = some p → 0 < p
  last : ps[n - 1]? = some back
  neg : back < 0
  sb : sz back ≤ 3
  s : ∀ p ∈ ps, sz p ≤ 15
def BF : Nat → Nat
  | 0 => 1
  | i + 1 => 2 * BF i + 33
def BD : Nat → Nat
  | 0 => 1
  | i + 1 => BD i + BF i + 18
theorem B_le {i : Nat} (h : i ≤ 3) : BF i ≤ 239 ∧ BD i ≤ 194 := by
  match i, h with
  | 0, _ => decide
  | 1, _ => decide
  | 2, _ => decide
  | 3, _ => decide
/-- how far a road has come -/
structure Half (ps : List Rat) (i : Nat) (cs : List Cn) (D F : Rat) : Prop where
  len : cs.length = i + 1
  zero : cs[0]? = some (0, 0)
  last : cs.getLast? = some (D, F)
  asc : asc (fsts cs) = true
  sl : slopes cs = ps.take i
  start : i = 0 → F = 0
  pos : 0 < i → 0 < F
  sF : sz F ≤ BF i
  sD : sz D ≤ BD i
  c : ∀ c ∈ cs, sz c.1 ≤ 194 ∧ sz c.2 ≤ 239
theorem Half.step {ps : List Rat} {i n : Nat} {cs : List Cn} {D F w p back : Rat} (P : Paces ps n back) (h : Half ps i cs D F) (hi : i + 1 < n) (hp : ps[i]? = some p) (w0 : 0 < w) (sw : sz w ≤ BF i + 17) (up : 0 < F + p * w) : Half ps (i + 1) (cs ++ [(D + w, F + p * w)]) (D + w) (F + p * w) := by
  have sp := P.s p (List.mem_of_getElem? hp)
  have n4 := P.n4
  have b1 := B_le (i := i) (by omega)
  have b2 := B_le (i := i + 1) (by omega)
  have sF := h.sF
  have sD := h.sD
  have h1 := sz_add F (p * w)
  have h2 := sz_mul p w
  have h3 := sz_add D w
  have f1 : sz (F + p * w) ≤ BF (i + 1) := by
    show _ ≤ 2 * BF i + 33
    omega
  have f2 : sz (D + w) ≤ BD (i + 1) := by
    show _ ≤ BD i + BF i + 18
    omega
  refine ⟨by rw [List.length_append, h.len]; rfl, ?_, last_snoc, ?_, ?_, fun z => by omega, fun _ => up, f1, f2, fun c hc => ?_⟩
  · rw [List.getElem?_append_left (by rw [h.len]; omega)]
    exact h.zero
  · rw [fsts_snoc]
    exact asc_snoc h.asc (fsts_last h.last) (by show D < D + w; grind)
  · rw [slopes_snoc h.last, h.sl, List.take_add_one, hp]
    congr 1
    show [slope (D, F) (D + w, F + p * w)] = [p]
    congr 1
    unfold slope
    show (F + p * w - F) / (D + w - D) = p
    grind
  · rcases List.mem_append.mp hc with m | m
    · exact h.c c m
    · rw [List.mem_singleton] at m
      subst m
      exact ⟨by show sz (D + w) ≤ 194; omega, by show sz (F + p * w) ≤ 239; omega⟩
theorem Half.done {ps : List Rat} {n : Nat} {cs : List Cn} {D F back : Rat} (P : Paces ps n back) (h : Half ps (n - 1) cs D F) : Road (cs ++ [(D - F / back, 0)]) := by
  have n2 := P.n2
  have n4 := P.n4
  have b := B_le (i := n - 1) (by omega)
  have F0 := h.pos (by omega)
  have neg := P.neg
  have sb := P.sb
  have sF := h.sF
  have sD := h.sD
  have e1 := sz_div F back
  have e2 := sz_sub D (F / back)
  have down : F / back < 0 := by
    have := Rat.inv_pos.mpr (show 0 < -back by grind)
    have := Rat.mul_pos F0 this
    grind
  have esl : slopes (cs ++ [(D - F / back, 0)]) = ps := by
    rw [slopes_snoc h.last, h.sl]
    have : slope (D, F) (D - F / back, 0) = back := by
      unfold slope
      show (0 - F) / (D - F / back - D) = back
      grind
    rw [this]
    have := P.last
    have l := P.len
    conv => rhs; rw [← List.take_append_drop (n - 1) ps]
    congr 1
    have : ps.drop (n - 1) = [back] := by
      apply List.ext_getElem?
      intro i
      rw [List.getElem?_drop]
      cases i with
      | zero => exact P.last
      | succ i =>
        rw [List.getElem?_eq_none (by omega)]
        rfl
    exact this.symm
  refine ⟨⟨?_, ?_, ?_, fun c hc => ?_, ?_, ?_⟩, fun c hc => ?_, fun s hs => ?_, fun i c hc lt => ?_⟩
  · rw [List.length_append, h.len, List.length_singleton]
    omega
  · rw [List.length_append, h.len, List.length_singleton]
    omega
  · rw [List.getElem?_append_left (by rw [h.len]; omega)]
    exact h.zero
  · rw [List.length_append, List.length_singleton, Nat.add_sub_cancel, List.getElem?_append_right (Nat.le_refl _), Nat.sub_self] at hc
    cases hc
    rfl
  · rw [fsts_snoc]
    exact asc_snoc h.asc (fsts_last h.last) (by show D < D - F / back; grind)
  · rw [esl, asc_rev]
    exact P.dsc
  · rcases List.mem_append.mp hc with m | m
    · have := h.c c m
      omega
    · rw [List.mem_singleton] at m
      subst m
      exact ⟨by show sz (D - F / back) ≤ 500; omega, by show sz 0 ≤ 500; decide⟩
  · rw [esl] at hs
    have := P.s s hs
    omega
  · rw [List.length_append, List.length_singleton] at lt
    rw [List.getElem?_append_left (by omega)] at hc
    have := h.c c (List.mem_of_getElem? hc)
    omega
end DL

namespace DL
open PySem PySem.Spec PyProof.Rows L2
local instance tbNMP : Tb := ⟨[], fun _ => ""⟩
/-! ### how fractions are shown -/
/-- data whose ints are short enough to be shown -/
structure Shows (d : PyData) (n e : Nat) : Prop where
  show_ : d.showable = true
  noDict : d.hasDict = false
  short : d.leavesShort 1921 = true
  bulk : d.bulk ≤ n
  depth : d.depth ≤ e
theorem Shows.ok {d : PyData} {n e : Nat} (h : Shows d n e) (hn : n ≤ 8000 ∧ e ≤ 60) {k : Rv → Prop} (q : k (.d (.str d.shown))) : oRepr d k := by
  refine ⟨⟨h.show_, h.noDict, ?_, Nat.le_trans h.depth hn.2⟩, q⟩
  have h1 := PyData.shown_le_bulk 1921 (by decide) d h.short
  have h2 := h.bulk
  have h3 : sizeLine = 16777216 := by decide
  have h4 : 1923 * d.bulk ≤ 1923 * 8000 := Nat.mul_le_mul_left _ (by omega)
  omega
theorem log_of {n : Int} (h : sI n ≤ 1900) : n.natAbs.log2 < 1920 := by unfold sI at h; omega
theorem int_short {i : Int} (h : sI i ≤ 1900) : PyData.leavesShort 1921 (.int i) = true := by
  simp only [PyData.leavesShort, decide_eq_true_eq]
  exact PyProof.Rows.int_text_len_1921 (log_of h)
/-! ### tolls and flows -/
section
variable {cs : List Cn} {v m x : Rat}
theorem top_up (as : asc (fsts cs) = true) {k : Nat} {a : Cn} (ha : cs[k]? = some a) (h : ∀ i s, (slopes cs)[i]? = some s → k ≤ i → s ≤ v) : ∀ (n : Nat) (b : Cn), cs[k + n]? = some b → b.2 - b.1 * v ≤ a.2 - a.1 * v := by
  intro n
  induction n with
  | zero =>
    intro b hb
    rw [Nat.add_zero, ha] at hb
    cases hb
    exact Rat.le_refl
  | succ n ih =>
    intro b hb
    have lb := (List.getElem?_eq_some_iff.mp hb).1
    have hc : cs[k + n]? = some cs[k + n] := List.getElem?_eq_getElem (by omega)
    generalize cs[k + n] = c at hc
    have h1 := ih c hc
    have lt := fsts_lt as (show k + n < k + (n + 1) by omega) hc hb
    have s := h (k + n) _ (slopes_get hc hb) (by omega)
    have d : 0 ≤ b.1 - c.1 := by grind
    have m := Rat.mul_le_mul_of_nonneg_right s d
    have e : slope c b * (b.1 - c.1) = b.2 - c.2 := by
      unfold slope
      exact Rat.div_mul_cancel (by grind)
    grind
theorem top_down (as : asc (fsts cs) = true) : ∀ (k : Nat) (a : Cn), cs[k]? = some a → (∀ i s, (slopes cs)[i]? = some s → i < k → v ≤ s) → ∀ (j : Nat) (b : Cn), j ≤ k → cs[j]? = some b → b.2 - b.1 * v ≤ a.2 - a.1 * v := by
  intro k
  induction k with
  | zero =>
    intro a ha h j b le hb
    obtain rfl : j = 0 := by omega
    rw [ha] at hb
    cases hb
    exact Rat.le_refl
  | succ k ih =>
    intro a ha h j b le hb
    by_cases e : j = k + 1
    · subst e
      rw [ha] at hb
      cases hb
      exact Rat.le_refl
    have la := (List.getElem?_eq_some_iff.mp ha).1
    have hc : cs[k]? = some cs[k] := List.getElem?_eq_getElem (by omega)
    generalize cs[k] = c at hc
    have h1 := ih c hc (fun i s hs lt => h i s hs (by omega)) j b (by omega) hb
    have lt := fsts_lt as (Nat.lt_succ_self k) hc ha
    have s := h k _ (slopes_get hc ha) (by omega)
    have d : 0 ≤ a.1 - c.1 := by grind
    have m := Rat.mul_le_mul_of_nonneg_right s d
    have e : slope c a * (a.1 - c.1) = a.2 - c.2 := by
      unfold slope
      exact Rat.div_mul_cancel (by grind)
    grind
end
end DL

namespace DL
open PySem PySem.Spec PyProof.Rows L2
local instance tbNNA : Tb := ⟨[], fun _ => ""⟩
/-! ### where a line reaches a height -/
/-- x is where the line first reaches the height f -/
def FirstAt (cs : List Cn) (f x : Rat) : Prop := (∃ c, cs[0]? = some c ∧ f ≤ c.2 ∧ x = c.1) ∨
  ∃ i a b, cs[i]? = some a ∧ cs[i + 1]? = some b ∧ (∀ j c, j ≤ i → cs[j]? = some c → c.2 < f) ∧ f ≤ b.2 ∧ x = a.1 + (f - a.2) / slope a b
end DL

namespace DL
open PySem PySem.Spec PyProof.Rows L2
local instance tbNMQ : Tb := ⟨[], fun _ => ""⟩
/-! ### the toll as a number -/
open Classical in
noncomputable def tl (cs : List Cn) (v : Rat) : Rat := if h : ∃ m, IsToll cs v m then h.choose else 0
section
variable {cs : List Cn} {v m x : Rat} {P : Rv → Prop}
theorem conv_ge {a b lo t : Rat} (h1 : lo ≤ a) (h2 : lo ≤ b) (t0 : 0 ≤ t) (t1 : t ≤ 1) : lo ≤ a + t * (b - a) := by
  have m1 := Rat.mul_nonneg (show 0 ≤ 1 - t by grind) (show 0 ≤ a - lo by grind)
  have m2 := Rat.mul_nonneg t0 (show 0 ≤ b - lo by grind)
  grind
theorem conv_le {a b hi t : Rat} (h1 : a ≤ hi) (h2 : b ≤ hi) (t0 : 0 ≤ t) (t1 : t ≤ 1) : a + t * (b - a) ≤ hi := by
  have m1 := Rat.mul_nonneg (show 0 ≤ 1 - t by grind) (show 0 ≤ hi - a by grind)
  have m2 := Rat.mul_nonneg t0 (show 0 ≤ hi - b by grind)
  grind
theorem Within.conv {a b t : Rat} (h1 : Within cs a) (h2 : Within cs b) (t0 : 0 ≤ t) (t1 : t ≤ 1) : Within cs (a + t * (b - a)) :=
  ⟨fun s hs => conv_ge (h1.lo s hs) (h2.lo s hs) t0 t1, fun s hs => conv_le (h1.hi s hs) (h2.hi s hs) t0 t1⟩
theorem IsKind.dsc (k : IsKind cs) : Dsc (slopes cs) := asc_rev.mp k.desc
end
end DL

namespace DL
open PySem PySem.Spec PyProof.Rows L2
local instance tbNNB : Tb := ⟨[], fun _ => ""⟩
/-! ### heights of lines, where they are reached -/
theorem least_ix {α : Type} {p : α → Prop} : ∀ (cs : List α), (∀ c ∈ cs, ¬ p c) ∨ ∃ (i : Nat) (c : α), cs[i]? = some c ∧ p c ∧ ∀ (j : Nat) (d : α), j < i → cs[j]? = some d → ¬ p d
  | [] => Or.inl fun c m => nomatch m
  | c :: cs => by
    by_cases h : p c
    · exact Or.inr ⟨0, c, rfl, h, fun j d lt => absurd lt (Nat.not_lt_zero j)⟩
    · rcases least_ix (p := p) cs with q | ⟨i, d, e, pd, lo⟩
      · left
        intro d m
        rcases List.mem_cons.mp m with rfl | m
        · exact h
        · exact q d m
      · right
        refine ⟨i + 1, d, e, pd, fun j a lt ha => ?_⟩
        cases j with
        | zero => cases ha; exact h
        | succ j => exact lo j a (by omega) ha
/-- where a piece has the height f -/
def PieceSol (cs : List Cn) (f : Rat) (k : Nat) (x : Rat) : Prop := ∃ a b, cs[k]? = some a ∧ cs[k + 1]? = some b ∧
  ((a.2 = b.2 ∧ a.2 = f ∧ (x = a.1 ∨ x = b.1)) ∨ (a.2 ≠ b.2 ∧ (0 ≤ (f - a.2) / (b.2 - a.2) ∧ (f - a.2) / (b.2 - a.2) ≤ 1) ∧ x = a.1 + (f - a.2) / (b.2 - a.2) * (b.1 - a.1)))
/-- the last place with the height f -/
def LastAt (cs : List Cn) (f M : Rat) : Prop := (∃ c, cs.getLast? = some c ∧ f ≤ c.2 ∧ M = c.1) ∨
  ∃ i a b, cs[i]? = some a ∧ cs[i + 1]? = some b ∧ (∀ j c, i + 1 ≤ j → cs[j]? = some c → c.2 < f) ∧ f ≤ a.2 ∧ M = b.1 + (f - b.2) / slope a b
section
variable {cs : List Cn} {f x m M : Rat} {k i : Nat} {a b : Cn}
theorem q_val (n : b.2 - a.2 ≠ 0) : f = a.2 + (f - a.2) / (b.2 - a.2) * (b.2 - a.2) := by grind
theorem PieceSol.at (as : asc (fsts cs) = true) (h : PieceSol cs f k x) : ∃ a b, cs[k]? = some a ∧ cs[k + 1]? = some b ∧ a.1 ≤ x ∧ x ≤ b.1 ∧ (f ≤ a.2 ∨ f ≤ b.2) := by
  obtain ⟨a, b, ha, hb, h⟩ := h
  have lt := fsts_lt as (Nat.lt_succ_self k) ha hb
  refine ⟨a, b, ha, hb, ?_⟩
  rcases h with ⟨e1, e2, rfl | rfl⟩ | ⟨n, ⟨q0, q1⟩, rfl⟩
  · exact ⟨Rat.le_refl, by grind, Or.inl (by grind)⟩
  · exact ⟨by grind, Rat.le_refl, Or.inl (by grind)⟩
  · have v := q_val (f := f) (a := a) (b := b) (by grind)
    generalize (f - a.2) / (b.2 - a.2) = q at q0 q1 v
    have h1 := conv_ge (a := a.1) (b := b.1) (lo := a.1) Rat.le_refl (by grind) q0 q1
    have h2 := conv_le (a := a.1) (b := b.1) (hi := b.1) (by grind) Rat.le_refl q0 q1
    refine ⟨h1, h2, ?_⟩
    by_cases c : f ≤ a.2
    · exact Or.inl c
    · right
      have c := Rat.not_le.mp c
      by_cases d : a.2 ≤ b.2
      · have := conv_le (a := a.2) (b := b.2) (hi := b.2) d Rat.le_refl q0 q1
        grind
      · have d := Rat.not_le.mp d
        have := conv_le (a := a.2) (b := b.2) (hi := a.2) Rat.le_refl (by grind) q0 q1
        grind
theorem slope_x (lt : a.1 < b.1) (n : a.2 ≠ b.2) : (f - a.2) / slope a b = (f - a.2) / (b.2 - a.2) * (b.1 - a.1) := by
  unfold slope
  have : b.1 - a.1 ≠ 0 := by grind
  have : b.2 - a.2 ≠ 0 := by grind
  grind
theorem div_nn {u d : Rat} (h : 0 ≤ u) (p : 0 < d) : 0 ≤ u / d := by
  rw [Rat.div_def]
  exact Rat.mul_nonneg h (Rat.le_of_lt (Rat.inv_pos.mpr p))
theorem div_l1 {u d : Rat} (h : u ≤ d) (p : 0 < d) : u / d ≤ 1 := by
  have h1 := div_nn (u := d - u) (by grind) p
  have h2 : (d - u) / d = 1 - u / d := by grind
  grind
theorem z_div {d : Rat} : (0 : Rat) / d = 0 := by rw [Rat.div_def, Rat.zero_mul]
theorem q_01 (h : (a.2 < f ∧ f ≤ b.2) ∨ (b.2 < f ∧ f ≤ a.2)) : 0 ≤ (f - a.2) / (b.2 - a.2) ∧ (f - a.2) / (b.2 - a.2) ≤ 1 := by
  rcases h with ⟨h1, h2⟩ | ⟨h1, h2⟩
  · have d : 0 < b.2 - a.2 := by grind
    exact ⟨div_nn (by grind) d, div_l1 (by grind) d⟩
  · have d : 0 < a.2 - b.2 := by grind
    have e : (f - a.2) / (b.2 - a.2) = (a.2 - f) / (a.2 - b.2) := by
      have : b.2 - a.2 ≠ 0 := by grind
      have : a.2 - b.2 ≠ 0 := by grind
      grind
    rw [e]
    exact ⟨div_nn (by grind) d, div_l1 (by grind) d⟩
theorem PieceSol.same (ha : cs[k]? = some a) (hb : cs[k + 1]? = some b) (n : a.2 ≠ b.2) (h : PieceSol cs f k x) : x = a.1 + (f - a.2) / (b.2 - a.2) * (b.1 - a.1) := by
  obtain ⟨a', b', ha', hb', h⟩ := h
  rw [ha] at ha'
  rw [hb] at hb'
  cases ha'
  cases hb'
  rcases h with ⟨e, _⟩ | ⟨_, _, rfl⟩
  · exact absurd e n
  · rfl
theorem FirstAt.sol (as : asc (fsts cs) = true) (z : cs[0]? = some (0, 0)) (p1 : ∀ c, cs[1]? = some c → 0 < c.2) (two : 2 ≤ cs.length) (f0 : 0 ≤ f) (h : FirstAt cs f m) : (∃ k, PieceSol cs f k m) ∧ ∀ k x, PieceSol cs f k x → m ≤ x := by
  rcases h with ⟨c, hc, l, rfl⟩ | ⟨i, a, b, ha, hb, lo, l, rfl⟩
  · rw [z] at hc
    cases hc
    have f0 : f = 0 := by grind
    subst f0
    have e1 : cs[1]? = some cs[1] := List.getElem?_eq_getElem (by omega)
    have h1 := p1 _ e1
    refine ⟨⟨0, _, _, z, e1, Or.inr ⟨by grind, ?_, ?_⟩⟩, fun k x h => ?_⟩
    · show 0 ≤ ((0 : Rat) - 0) / _ ∧ ((0 : Rat) - 0) / _ ≤ 1
      rw [show (0 : Rat) - 0 = 0 by grind, z_div]
      exact ⟨Rat.le_refl, by decide⟩
    · show (0 : Rat) = 0 + ((0 : Rat) - 0) / _ * _
      rw [show (0 : Rat) - 0 = 0 by grind, z_div]
      grind
    · obtain ⟨a, b, ha, hb, l1, l2, _⟩ := h.at as
      by_cases e : k = 0
      · subst e
        rw [z] at ha
        cases ha
        exact l1
      · have := fsts_lt as (i := 0) (j := k) (by omega) z ha
        show (0 : Rat) ≤ x
        grind
  · have lt := fsts_lt as (Nat.lt_succ_self i) ha hb
    have la := lo i a (Nat.le_refl _) ha
    have n : a.2 ≠ b.2 := by grind
    rw [slope_x lt n]
    obtain ⟨q0, q1⟩ := q_01 (f := f) (a := a) (b := b) (Or.inl ⟨la, l⟩)
    refine ⟨⟨i, a, b, ha, hb, Or.inr ⟨n, ⟨q0, q1⟩, rfl⟩⟩, fun k x h => ?_⟩
    rcases Nat.lt_trichotomy k i with c | rfl | c
    · obtain ⟨a', b', ha', hb', _, _, hf⟩ := h.at as
      have h1 := lo k a' (by omega) ha'
      have h2 := lo (k + 1) b' (by omega) hb'
      rcases hf with hf | hf <;> grind
    · rw [h.same ha hb n]
      exact Rat.le_refl
    · obtain ⟨a', b', ha', hb', l1, l2, _⟩ := h.at as
      have h2 := conv_le (a := a.1) (b := b.1) (hi := b.1) (by grind) Rat.le_refl q0 q1
      by_cases e : k = i + 1
      · subst e
        rw [hb] at ha'
        cases ha'
        grind
      · have := fsts_lt as (i := i + 1) (j := k) (by omega) hb ha'
        grind
theorem LastAt.sol (as : asc (fsts cs) = true) (z : ∀ c, cs.getLast? = some c → c.2 = 0) (p1 : ∀ c, cs[cs.length - 2]? = some c → 0 < c.2) (two : 2 ≤ cs.length) (f0 : 0 ≤ f) (h : LastAt cs f M) : (∃ k, PieceSol cs f k M) ∧ ∀ k x, PieceSol cs f k x → x ≤ M := by
  rcases h with ⟨c, hc, l, rfl⟩ | ⟨i, a, b, ha, hb, lo, l, rfl⟩
  · have c0 := z c hc
    have f0 : f = 0 := by grind
    subst f0
    have hL := last_at hc
    have e1 : cs[cs.length - 2]? = some cs[cs.length - 2] := List.getElem?_eq_getElem (by omega)
    have h1 := p1 _ e1
    have e2 : cs[cs.length - 2 + 1]? = some c := by rw [show cs.length - 2 + 1 = cs.length - 1 by omega]; exact hL
    generalize cs[cs.length - 2] = a at e1 h1
    have q : ((0 : Rat) - a.2) / (c.2 - a.2) = 1 := by
      rw [c0]
      have : (0 : Rat) - a.2 ≠ 0 := by grind
      grind
    refine ⟨⟨cs.length - 2, a, c, e1, e2, Or.inr ⟨by grind, by rw [q]; exact ⟨by decide, Rat.le_refl⟩, by rw [q]; grind⟩⟩, fun k x h => ?_⟩
    obtain ⟨a', b', ha', hb', l1, l2, _⟩ := h.at as
    have lk := (List.getElem?_eq_some_iff.mp hb').1
    by_cases e : k + 1 = cs.length - 1
    · rw [e, hL] at hb'
      cases hb'
      exact l2
    · have := fsts_lt as (i := k + 1) (j := cs.length - 1) (by omega) hb' hL
      grind
  · have lt := fsts_lt as (Nat.lt_succ_self i) ha hb
    have lb := lo (i + 1) b (Nat.le_refl _) hb
    have n : a.2 ≠ b.2 := by grind
    obtain ⟨q0, q1⟩ := q_01 (f := f) (a := a) (b := b) (Or.inr ⟨lb, l⟩)
    have e : b.1 + (f - b.2) / slope a b = a.1 + (f - a.2) / (b.2 - a.2) * (b.1 - a.1) := by
      unfold slope
      have : b.1 - a.1 ≠ 0 := by grind
      have : b.2 - a.2 ≠ 0 := by grind
      grind
    rw [e]
    refine ⟨⟨i, a, b, ha, hb, Or.inr ⟨n, ⟨q0, q1⟩, rfl⟩⟩, fun k x h => ?_⟩
    rcases Nat.lt_trichotomy k i with c | rfl | c
    · obtain ⟨a', b', ha', hb', l1, l2, _⟩ := h.at as
      have h2 := conv_ge (a := a.1) (b := b.1) (lo := a.1) Rat.le_refl (by grind) q0 q1
      by_cases e : k + 1 = i
      · subst e
        rw [ha] at hb'
        cases hb'
        grind
      · have := fsts_lt as (i := k + 1) (j := i) (by omega) hb' ha
        grind
    · rw [h.same ha hb n]
      exact Rat.le_refl
    · obtain ⟨a', b', ha', hb', _, _, hf⟩ := h.at as
      have h1 := lo k a' (by omega) ha'
      have h2 := lo (k + 1) b' (by omega) hb'
      rcases hf with hf | hf <;> grind
/-- the height y over x -/
def OnLine (cs : List Cn) (x y : Rat) : Prop := ∃ i a b, cs[i]? = some a ∧ cs[i + 1]? = some b ∧ a.1 ≤ x ∧ x ≤ b.1 ∧ y = a.2 + slope a b * (x - a.1)
theorem slope_end (lt : a.1 < b.1) : a.2 + slope a b * (b.1 - a.1) = b.2 := by
  unfold slope
  have : b.1 - a.1 ≠ 0 := by grind
  grind
theorem on_unique {y y' : Rat} (as : asc (fsts cs) = true) (h : OnLine cs x y) (h' : OnLine cs x y') : y = y' := by
  obtain ⟨i, a, b, ha, hb, l1, l2, rfl⟩ := h
  obtain ⟨j, c, d, hc, hd, l3, l4, rfl⟩ := h'
  have key : ∀ {i j : Nat} {a b c d : Cn}, i < j → cs[i]? = some a → cs[i + 1]? = some b → cs[j]? = some c → cs[j + 1]? = some d → x ≤ b.1 → c.1 ≤ x → a.2 + slope a b * (x - a.1) = c.2 + slope c d * (x - c.1) := by
    intro i j a b c d lt ha hb hc hd l2 l3
    by_cases e : j = i + 1
    · subst e
      rw [hb] at hc
      cases hc
      have := slope_end (fsts_lt as (Nat.lt_succ_self i) ha hb)
      obtain rfl : x = b.1 := by grind
      rw [this]
      grind
    · have := fsts_lt as (i := i + 1) (j := j) (by omega) hb hc
      grind
  rcases Nat.lt_trichotomy i j with lt | rfl | lt
  · exact key lt ha hb hc hd l2 l3
  · rw [ha] at hc
    rw [hb] at hd
    cases hc
    cases hd
    rfl
  · exact (key lt hc hd ha hb l4 l1).symm
/-- flows between are above 0 -/
theorem IsKind.second (k : IsKind cs) : ∀ c, cs[1]? = some c → 0 < c.2 := by
  intro c hc
  have few := k.few
  have h2 : cs[2]? = some cs[2] := List.getElem?_eq_getElem (by omega)
  have hL : cs[cs.length - 1]? = some cs[cs.length - 1] := List.getElem?_eq_getElem (by omega)
  generalize cs[2] = d at h2
  have L0 := k.last _ hL
  generalize cs[cs.length - 1] = L at hL L0
  have s0 := slopes_get k.zero hc
  have s1 := slopes_get hc h2
  have d01 := k.dsc 0 _ _ s0 s1
  have c0 := fsts_lt k.asc (Nat.lt_succ_self 0) k.zero hc
  have cL := fsts_lt k.asc (i := 1) (j := cs.length - 1) (by omega) hc hL
  have e0 := slope_end c0
  have up := top_up (v := slope c d) k.asc hc (fun i s hs le => by
    by_cases e : i = 1
    · subst e
      rw [s1] at hs
      cases hs
      exact Rat.le_refl
    · have := dsc_lt k.dsc (i := 1) (j := i) (by omega) s1 hs
      grind) (cs.length - 1 - 1) L (by rw [show 1 + (cs.length - 1 - 1) = cs.length - 1 by omega]; exact hL)
  generalize slope c d = t at d01 up
  generalize hs : slope (0, 0) c = s at d01 e0
  have c0 : 0 < c.1 := c0
  have e0 : (0 : Rat) + s * (c.1 - 0) = c.2 := e0
  by_cases h : 0 < s
  · have := Rat.mul_pos h c0
    grind
  · have h := Rat.not_lt.mp h
    have := Rat.mul_pos (show 0 < -t by grind) (show 0 < L.1 - c.1 by grind)
    grind
theorem IsKind.forelast (k : IsKind cs) : ∀ c, cs[cs.length - 2]? = some c → 0 < c.2 := by
  intro c hc
  have few := k.few
  have hb : cs[cs.length - 3]? = some cs[cs.length - 3] := List.getElem?_eq_getElem (by omega)
  have hL : cs[cs.length - 1]? = some cs[cs.length - 1] := List.getElem?_eq_getElem (by omega)
  generalize cs[cs.length - 3] = b at hb
  have L0 := k.last _ hL
  generalize cs[cs.length - 1] = L at hL L0
  have hc' : cs[cs.length - 3 + 1]? = some c := by rw [show cs.length - 3 + 1 = cs.length - 2 by omega]; exact hc
  have hL' : cs[cs.length - 2 + 1]? = some L := by rw [show cs.length - 2 + 1 = cs.length - 1 by omega]; exact hL
  have s0 := slopes_get hb hc'
  have s1 := slopes_get hc hL'
  have d01 := k.dsc (cs.length - 3) _ _ s0 (by rw [show cs.length - 3 + 1 = cs.length - 2 by omega]; exact s1)
  have cL := fsts_lt k.asc (i := cs.length - 2) (j := cs.length - 1) (by omega) hc hL
  have c0 := fsts_lt k.asc (i := 0) (j := cs.length - 2) (by omega) k.zero hc
  have e1 := slope_end cL
  have dn := top_down (v := slope b c) k.asc (cs.length - 2) c hc (fun i s hs lt => by
    by_cases e : i = cs.length - 3
    · subst e
      rw [s0] at hs
      cases hs
      exact Rat.le_refl
    · have := dsc_lt k.dsc (i := i) (j := cs.length - 3) (by omega) hs s0
      grind) 0 (0, 0) (Nat.zero_le _) k.zero
  generalize slope b c = t at d01 dn
  generalize slope c L = s at d01 e1
  have c0 : 0 < c.1 := c0
  have dn : (0 : Rat) - 0 * t ≤ c.2 - c.1 * t := dn
  by_cases h : s < 0
  · have := Rat.mul_pos (show 0 < -s by grind) (show 0 < L.1 - c.1 by grind)
    grind
  · have h := Rat.not_lt.mp h
    have := Rat.mul_pos (show 0 < t by grind) c0
    have := Rat.mul_nonneg h (show 0 ≤ L.1 - c.1 by grind)
    grind
end
end DL

namespace DL
open PySem PySem.Spec PyProof.Rows L2
local instance tbNNC : Tb := ⟨[], fun _ => ""⟩
/-! ### flows and densities, as the program tells them -/
theorem FirstAt.sz_ {cs : List Cn} {f m : Rat} (r : Road cs) (sf : sz f ≤ 1000) (h : FirstAt cs f m) : sz m ≤ 1800 := by
  rcases h with ⟨c, hc, _, rfl⟩ | ⟨i, a, b, ha, hb, _, _, rfl⟩
  · have := r.c c (List.mem_of_getElem? hc)
    omega
  · have lt := (List.getElem?_eq_some_iff.mp hb).1
    have h1 := r.c1 i a ha lt
    have h2 := r.s _ (List.mem_of_getElem? (slopes_get ha hb))
    have h3 := sz_add a.1 ((f - a.2) / slope a b)
    have h4 := sz_div (f - a.2) (slope a b)
    have h5 := sz_sub f a.2
    omega
theorem LastAt.sz_ {cs : List Cn} {f m : Rat} (r : Road cs) (sf : sz f ≤ 1000) (h : LastAt cs f m) : sz m ≤ 1800 := by
  rcases h with ⟨c, hc, _, rfl⟩ | ⟨i, a, b, ha, hb, _, _, rfl⟩
  · have := r.c c (List.mem_of_getLast? hc)
    omega
  · have lt := (List.getElem?_eq_some_iff.mp hb).1
    have h1 := r.c b (List.mem_of_getElem? hb)
    have h6 : sz b.2 ≤ 240 := by
      by_cases e : i + 1 = cs.length - 1
      · rw [e] at hb
        rw [r.kind.last b hb]
        decide
      · exact (r.c1 (i + 1) b hb (by omega)).2
    have h2 := r.s _ (List.mem_of_getElem? (slopes_get ha hb))
    have h3 := sz_add b.1 ((f - b.2) / slope a b)
    have h4 := sz_div (f - b.2) (slope a b)
    have h5 := sz_sub f b.2
    omega
/-! ### the law's own reckoning -/
end DL

namespace DL
open PySem PySem.Spec PyProof.Rows L2
local instance tbNND : Tb := ⟨[], fun _ => ""⟩
/-! ### the law's flows, and where they are reached -/
end DL

namespace DL
open PySem PySem.Spec PyProof.Rows L2
local instance tbNNDb : Tb := ⟨[], fun _ => ""⟩
/-! ### small things -/
theorem Shows.up {d : PyData} {n n' e e' : Nat} (h : Shows d n e) (hn : n ≤ n') (he : e ≤ e') : Shows d n' e' := by
  obtain ⟨h1, h2, h3, h4, h5⟩ := h
  exact ⟨h1, h2, h3, Nat.le_trans h4 hn, Nat.le_trans h5 he⟩
section
variable {cs : List Cn} {f x y m m' M M' : Rat}
theorem FirstAt.one (k : IsKind cs) (f0 : 0 ≤ f) (h : FirstAt cs f m) (h' : FirstAt cs f m') : m = m' := by
  have few := k.few
  obtain ⟨⟨i, p⟩, lo⟩ := h.sol k.asc k.zero k.second (by omega) f0
  obtain ⟨⟨j, p'⟩, lo'⟩ := h'.sol k.asc k.zero k.second (by omega) f0
  exact Rat.le_antisymm (lo j _ p') (lo' i _ p)
theorem LastAt.one (k : IsKind cs) (f0 : 0 ≤ f) (h : LastAt cs f M) (h' : LastAt cs f M') : M = M' := by
  have few := k.few
  obtain ⟨⟨i, p⟩, lo⟩ := h.sol k.asc (fun c hc => k.last c (last_at hc)) k.forelast (by omega) f0
  obtain ⟨⟨j, p'⟩, lo'⟩ := h'.sol k.asc (fun c hc => k.last c (last_at hc)) k.forelast (by omega) f0
  exact Rat.le_antisymm (lo' i _ p) (lo j _ p')
end
end DL

namespace DL
open PySem PySem.Spec PyProof.Rows L2
local instance tbNOA : Tb := ⟨[], fun _ => ""⟩
/-! ### counts -/
/-- the rates of counts, the last one 0 -/
def rates (cs : List Cn) : List Rat := slopes cs ++ [0]
def Unlike (qs : List Rat) : Prop := ∀ (i : Nat) (a b : Rat), qs[i]? = some a → qs[i + 1]? = some b → a ≠ b
structure IsCounts (cs : List Cn) : Prop where
  ne : cs ≠ []
  zero : ∀ c, cs[0]? = some c → c.1 = 0
  asc : asc (fsts cs) = true
  pos : ∀ s ∈ slopes cs, 0 ≤ s
  unlike : Unlike (rates cs)
/-- the height y over x, level behind the end -/
def NumAt (cs : List Cn) (x y : Rat) : Prop := OnLine cs x y ∨ ∃ L, cs.getLast? = some L ∧ L.1 ≤ x ∧ y = L.2
section
variable {cs : List Cn} {x y y' f m m' : Rat} {i : Nat}
theorem OnLine.last (as : asc (fsts cs) = true) {L : Cn} (hL : cs.getLast? = some L) (h : OnLine cs x y) : x ≤ L.1 := by
  obtain ⟨i, a, b, ha, hb, l1, l2, rfl⟩ := h
  have lb := (List.getElem?_eq_some_iff.mp hb).1
  have hl := last_at hL
  by_cases e : i + 1 = cs.length - 1
  · rw [e, hl] at hb
    cases hb
    exact l2
  · have := fsts_lt as (i := i + 1) (j := cs.length - 1) (by omega) hb hl
    exact Rat.le_trans l2 (Rat.le_of_lt this)
theorem num_line (as : asc (fsts cs) = true) {L : Cn} (hL : cs.getLast? = some L) (h : OnLine cs x y) (le : L.1 ≤ x) : y = L.2 := by
  have lx := h.last as hL
  obtain rfl : x = L.1 := Rat.le_antisymm lx le
  have hl := last_at hL
  obtain ⟨i, a, b, ha, hb, l1, l2, rfl⟩ := h
  have lb := (List.getElem?_eq_some_iff.mp hb).1
  have two : cs[cs.length - 2]? = some cs[cs.length - 2] := List.getElem?_eq_getElem (by omega)
  have hl2 : cs[cs.length - 2 + 1]? = some L := by rw [show cs.length - 2 + 1 = cs.length - 1 by omega]; exact hl
  have lt := fsts_lt as (Nat.lt_succ_self _) two hl2
  exact on_unique as ⟨i, a, b, ha, hb, l1, l2, rfl⟩ ⟨cs.length - 2, _, L, two, hl2, Rat.le_of_lt lt, Rat.le_refl, (slope_end lt).symm⟩
theorem num_unique (as : asc (fsts cs) = true) (h : NumAt cs x y) (h' : NumAt cs x y') : y = y' := by
  rcases h with h | ⟨L, hL, l, rfl⟩
  · rcases h' with h' | ⟨L, hL, l, rfl⟩
    · exact on_unique as h h'
    · exact num_line as hL h l
  · rcases h' with h' | ⟨L', hL', l', rfl⟩
    · exact (num_line as hL h' l).symm
    · rw [hL] at hL'
      cases hL'
      rfl
theorem FirstAt.only (h : FirstAt cs f m) (h' : FirstAt cs f m') : m = m' := by
  rcases h with ⟨c, hc, l, rfl⟩ | ⟨i, a, b, ha, hb, lo, l, rfl⟩
  · rcases h' with ⟨c', hc', l', rfl⟩ | ⟨i', a', b', ha', hb', lo', l', rfl⟩
    · rw [hc] at hc'
      cases hc'
      rfl
    · exact absurd l (Rat.not_le.mpr (lo' 0 c (Nat.zero_le _) hc))
  · rcases h' with ⟨c', hc', l', rfl⟩ | ⟨i', a', b', ha', hb', lo', l', rfl⟩
    · exact absurd l' (Rat.not_le.mpr (lo 0 c' (Nat.zero_le _) hc'))
    · rcases Nat.lt_trichotomy i i' with lt | rfl | lt
      · exact absurd l (Rat.not_le.mpr (lo' (i + 1) b (by omega) hb))
      · rw [ha] at ha'
        rw [hb] at hb'
        cases ha'
        cases hb'
        rfl
      · exact absurd l' (Rat.not_le.mpr (lo (i' + 1) b' (by omega) hb'))
end
end DL

namespace DL
open PySem PySem.Spec PyProof.Rows L2
local instance tbNOAb : Tb := ⟨[], fun _ => ""⟩
/-! ### lines, told by their corners in one way only -/
/-- corners ascending, none needless, level behind the last one -/
structure IsLine (cs : List Cn) : Prop where
  ne : cs ≠ []
  asc : asc (fsts cs) = true
  unlike : Unlike (rates cs)
theorem IsCounts.line {cs : List Cn} (k : IsCounts cs) : IsLine cs := ⟨k.ne, k.asc, k.unlike⟩
section
variable {cs ds row found : List Cn} {x y z x0 : Rat} {a b c p : Cn} {i m K : Nat}
theorem num_corner (as : asc (fsts cs) = true) (hc : cs[i]? = some c) : NumAt cs c.1 c.2 := by
  rcases h : cs[i + 1]? with _ | b
  · have h1 := (List.getElem?_eq_some_iff.mp hc).1
    have h2 := List.getElem?_eq_none_iff.mp h
    refine Or.inr ⟨c, ?_, Rat.le_refl, rfl⟩
    rw [List.getLast?_eq_getElem?, show cs.length - 1 = i by omega]
    exact hc
  · have lt := fsts_lt as (Nat.lt_succ_self i) hc h
    exact Or.inl ⟨i, c, b, hc, h, Rat.le_refl, Rat.le_of_lt lt, by grind⟩
theorem num_mem (as : asc (fsts cs) = true) (hc : c ∈ cs) : NumAt cs c.1 c.2 := by
  obtain ⟨i, hi⟩ := List.getElem?_of_mem hc
  exact num_corner as hi
theorem num_last (as : asc (fsts cs) = true) {L : Cn} (hL : cs.getLast? = some L) (le : L.1 ≤ x) (h : NumAt cs x y) : y = L.2 := num_unique as h (Or.inr ⟨L, hL, le, rfl⟩)
theorem num_piece (as : asc (fsts cs) = true) (ha : cs[i]? = some a) (hb : cs[i + 1]? = some b) (l1 : a.1 ≤ x) (l2 : x ≤ b.1) (h : NumAt cs x y) : y = a.2 + slope a b * (x - a.1) := num_unique as h (Or.inl ⟨i, a, b, ha, hb, l1, l2, rfl⟩)
theorem cancel_r {u v d : Rat} (h : u * d = v * d) (hd : d ≠ 0) : u = v := by
  have : (u - v) * d = 0 := by grind
  rcases Rat.mul_eq_zero.mp this with h | h
  · grind
  · exact absurd h hd
/-! ### needless corners taken out -/
/-- on the line, or one of its corners -/
def Pt (cs : List Cn) (c : Cn) : Prop := c ∈ cs ∨ OnLine cs c.1 c.2
theorem OnLine.snoc (h : OnLine cs x y) : OnLine (cs ++ [b]) x y := by
  obtain ⟨i, p, q, hp, hq, h⟩ := h
  have l1 := (List.getElem?_eq_some_iff.mp hp).1
  have l2 := (List.getElem?_eq_some_iff.mp hq).1
  exact ⟨i, p, q, by rw [List.getElem?_append_left l1]; exact hp, by rw [List.getElem?_append_left l2]; exact hq, h⟩
theorem Pt.snoc (h : Pt cs c) : Pt (cs ++ [b]) c := by
  rcases h with h | h
  · exact Or.inl (List.mem_append_left _ h)
  · exact Or.inr h.snoc
theorem Pt.num (as : asc (fsts cs) = true) (h : Pt cs c) : NumAt cs c.1 c.2 := by
  rcases h with h | h
  · exact num_mem as h
  · exact Or.inl h
theorem last_ix {L : Cn} (hL : cs.getLast? = some L) : ∃ n, cs.length = n + 1 ∧ cs[n]? = some L := by
  have h := last_at hL
  have := (List.getElem?_eq_some_iff.mp h).1
  exact ⟨cs.length - 1, by omega, h⟩
/-- a point of the line with one corner more -/
theorem Pt.back {L : Cn} (hL : cs.getLast? = some L) (h : Pt (cs ++ [b]) c) : Pt cs c ∨ c = b ∨ (L.1 ≤ c.1 ∧ c.1 ≤ b.1 ∧ c.2 = L.2 + slope L b * (c.1 - L.1)) := by
  obtain ⟨n, ln, hn⟩ := last_ix hL
  rcases h with h | ⟨i, p, q, hp, hq, l1, l2, e⟩
  · rcases List.mem_append.mp h with h | h
    · exact Or.inl (Or.inl h)
    · rw [List.mem_singleton] at h
      exact Or.inr (Or.inl h)
  · rcases snoc_get hq with ⟨l, hq'⟩ | ⟨l, rfl⟩
    · rw [List.getElem?_append_left (by omega)] at hp
      exact Or.inl (Or.inr ⟨i, p, q, hp, hq', l1, l2, e⟩)
    · rw [List.getElem?_append_left (by omega)] at hp
      rw [show i = n by omega, hn] at hp
      cases hp
      exact Or.inr (Or.inr ⟨l1, l2, e⟩)
/-- the piece to one corner more -/
theorem on_snoc {L : Cn} (hL : cs.getLast? = some L) (l1 : L.1 ≤ x) (l2 : x ≤ b.1) (e : y = L.2 + slope L b * (x - L.1)) : OnLine (cs ++ [b]) x y := by
  obtain ⟨n, ln, hn⟩ := last_ix hL
  refine ⟨n, L, b, by rw [List.getElem?_append_left (by omega)]; exact hn, ?_, l1, l2, e⟩
  rw [List.getElem?_append_right (by omega), show n + 1 - cs.length = 0 by omega]
  rfl
/-- how far a row has been gone through -/
structure Trim (row found : List Cn) (m K : Nat) : Prop where
  lt : m < K
  last : ∃ a, row[m]? = some a ∧ found.getLast? = some a
  asc : DL.asc (fsts found) = true
  first : found[0]? = row[0]?
  mem : ∀ c ∈ found, c ∈ row
  unlike : Unlike (slopes found)
  step : ∀ b, row[K]? = some b → ∀ s a, (slopes found).getLast? = some s → found.getLast? = some a → s ≠ slope a b
  pts : ∀ b, row[K]? = some b → ∀ j c, j ≤ K → row[j]? = some c → Pt (found ++ [b]) c
  few : found.length ≤ K
theorem slope_med {a b c : Cn} (h1 : a.1 < b.1) (h2 : b.1 < c.1) (e : slope a b = slope b c) : slope a c = slope a b := by
  have e1 := slope_end h1
  have e2 := slope_end h2
  rw [← e] at e2
  generalize slope a b = s at e1 e2
  have d : c.1 - a.1 ≠ 0 := by grind
  have e3 : c.2 - a.2 = s * (c.1 - a.1) := by grind
  unfold slope
  rw [e3]
  exact Rat.mul_div_cancel d
theorem Unlike.snoc {qs : List Rat} {t : Rat} (h : Unlike qs) (n : ∀ s, qs.getLast? = some s → s ≠ t) : Unlike (qs ++ [t]) := by
  intro i a b ha hb
  rcases snoc_get hb with ⟨l, hb'⟩ | ⟨e, rfl⟩
  · rw [List.getElem?_append_left (by omega)] at ha
    exact h i a b ha hb'
  · rw [List.getElem?_append_left (by omega)] at ha
    refine n a ?_
    rw [List.getLast?_eq_getElem?, show qs.length - 1 = i by omega]
    exact ha
theorem Trim.start (h : row[0]? = some c) : Trim row [c] 0 1 := by
  refine ⟨by decide, ⟨c, h, rfl⟩, rfl, h.symm, fun d m => by rw [List.mem_singleton] at m; subst m; exact List.mem_of_getElem? h, fun i a b ha hb => by simp [slopes] at ha, fun b _ s a e => by simp [slopes] at e, fun b hb j d lj hj => ?_, Nat.le_refl _⟩
  have : j = 0 ∨ j = 1 := by omega
  rcases this with rfl | rfl
  · rw [h] at hj
    cases hj
    exact Or.inl (by simp)
  · rw [hb] at hj
    cases hj
    exact Or.inl (by simp)
theorem Trim.add (as : DL.asc (fsts row) = true) (t : Trim row found m K) (ha : row[m]? = some a) (hb : row[K]? = some b) (n : ∀ c, row[K + 1]? = some c → slope a b ≠ slope b c) : Trim row (found ++ [b]) K (K + 1) := by
  obtain ⟨a', ha', hl⟩ := t.last
  rw [ha] at ha'
  cases ha'
  have ab := fsts_lt as t.lt ha hb
  have ne : found ≠ [] := by rintro rfl; cases hl
  refine ⟨Nat.lt_succ_self K, ⟨b, hb, last_snoc⟩, ?_, ?_, ?_, ?_, ?_, ?_, ?_⟩
  · rw [fsts_snoc]
    exact asc_snoc t.asc (fsts_last hl) ab
  · rw [← t.first, List.getElem?_append_left (List.length_pos_iff.mpr ne)]
  · intro c m
    rcases List.mem_append.mp m with m | m
    · exact t.mem c m
    · rw [List.mem_singleton] at m
      subst m
      exact List.mem_of_getElem? hb
  · rw [slopes_snoc hl]
    exact t.unlike.snoc fun s hs => t.step b hb s a hs hl
  · intro c hc s a' hs ha'
    rw [slopes_snoc hl, last_snoc] at hs
    rw [last_snoc] at ha'
    cases hs
    cases ha'
    exact n c hc
  · intro c hc j d lj hj
    by_cases e : j = K + 1
    · subst e
      rw [hc] at hj
      cases hj
      exact Or.inl (by simp)
    · exact (t.pts b hb j d (by omega) hj).snoc
  · rw [List.length_append, List.length_singleton]
    have := t.few
    omega
theorem Trim.skip (as : DL.asc (fsts row) = true) (t : Trim row found m K) (ha : row[m]? = some a) (hb : row[K]? = some b) (hc : row[K + 1]? = some c) (e : slope a b = slope b c) : Trim row found m (K + 1) := by
  obtain ⟨a', ha', hl⟩ := t.last
  rw [ha] at ha'
  cases ha'
  have ab := fsts_lt as t.lt ha hb
  have bc := fsts_lt as (Nat.lt_succ_self K) hb hc
  have med := slope_med ab bc e
  refine ⟨Nat.lt_succ_of_lt t.lt, t.last, t.asc, t.first, t.mem, t.unlike, ?_, ?_, Nat.le_succ_of_le t.few⟩
  · intro c' hc' s a' hs ha'
    rw [hc] at hc'
    cases hc'
    rw [hl] at ha'
    cases ha'
    rw [med]
    exact t.step b hb s a hs hl
  · intro c' hc' j d lj hj
    rw [hc] at hc'
    cases hc'
    by_cases ej : j = K + 1
    · subst ej
      rw [hc] at hj
      cases hj
      exact Or.inl (by simp)
    · rcases (t.pts b hb j d (by omega) hj).back hl with q | rfl | ⟨l1, l2, q⟩
      · exact q.snoc
      · refine Or.inr (on_snoc hl (Rat.le_of_lt ab) (Rat.le_of_lt bc) ?_)
        rw [med]
        exact (slope_end ab).symm
      · refine Or.inr (on_snoc hl l1 (by grind) ?_)
        rw [med]
        exact q
/-- what is left keeps the last corner -/
theorem Trim.fin (as : DL.asc (fsts row) = true) (t : Trim row found m K) (n : row.length = K + 1) (hb : row[K]? = some b) : DL.asc (fsts (found ++ [b])) = true ∧ Unlike (slopes (found ++ [b])) ∧ (∀ c ∈ row, Pt (found ++ [b]) c) ∧ (∀ c ∈ found ++ [b], c ∈ row) ∧ (found ++ [b])[0]? = row[0]? := by
  have u := t.add as (a := Classical.choose t.last) (Classical.choose_spec t.last).1 hb (fun c hc => by
    have := (List.getElem?_eq_some_iff.mp hc).1
    omega)
  refine ⟨u.asc, u.unlike, fun c hc => ?_, u.mem, u.first⟩
  obtain ⟨j, hj⟩ := List.getElem?_of_mem hc
  have := (List.getElem?_eq_some_iff.mp hj).1
  exact t.pts b hb j c (by omega) hj
/-- what is left, the last corner taken out if it is level -/
def cutL (found : List Cn) (a b : Cn) : List Cn := if a.2 = b.2 then found else found ++ [b]
theorem slope_0 (lt : a.1 < b.1) : slope a b = 0 ↔ a.2 = b.2 := by
  constructor
  · intro h
    have := slope_end lt
    rw [h] at this
    grind
  · intro h
    unfold slope
    rw [show b.2 - a.2 = 0 by grind]
    rw [Rat.div_def, Rat.zero_mul]
theorem Trim.cut (as : DL.asc (fsts row) = true) (t : Trim row found m K) (n : row.length = K + 1) (ha : row[m]? = some a) (hb : row[K]? = some b) :
    IsLine (cutL found a b) ∧ (∀ c ∈ row, NumAt (cutL found a b) c.1 c.2) ∧ (∀ c ∈ cutL found a b, c ∈ row) ∧ (cutL found a b)[0]? = row[0]? := by
  obtain ⟨a', ha', hl⟩ := t.last
  rw [ha] at ha'
  cases ha'
  have ab := fsts_lt as t.lt ha hb
  obtain ⟨f1, f2, f3, f4, f5⟩ := t.fin as n hb
  have ne : found ≠ [] := by rintro rfl; cases hl
  unfold cutL
  split
  · next e =>
    have s0 := (slope_0 ab).mpr e
    refine ⟨⟨ne, t.asc, t.unlike.snoc fun s hs => ?_⟩, fun c hc => ?_, t.mem, t.first⟩
    · have := t.step b hb s a hs hl
      rw [s0] at this
      exact this
    · rcases (f3 c hc).back hl with q | rfl | ⟨l1, l2, q⟩
      · exact q.num t.asc
      · exact Or.inr ⟨a, hl, Rat.le_of_lt ab, e.symm⟩
      · refine Or.inr ⟨a, hl, l1, ?_⟩
        rw [q, s0]
        grind
  · next e =>
    refine ⟨⟨by simp, f1, f2.snoc fun s hs => ?_⟩, fun c hc => (f3 c hc).num f1, f4, f5⟩
    rw [slopes_snoc hl, last_snoc] at hs
    cases hs
    exact fun z => e ((slope_0 ab).mp z)
/-- a row and what is left of it tell the same -/
theorem row_num (ar : asc (fsts row) = true) (ac : asc (fsts cs) = true) (mem : ∀ c ∈ cs, c ∈ row) (first : cs[0]? = row[0]?) (ne : cs ≠ []) (pts : ∀ c ∈ row, NumAt cs c.1 c.2) (h : NumAt row x y) : NumAt cs x y := by
  obtain ⟨M, eM, mM⟩ := last_of ne
  rcases h with ⟨i, a, b, ha, hb, l1, l2, rfl⟩ | ⟨L, eL, l1, rfl⟩
  · have lt := fsts_lt ar (Nat.lt_succ_self i) ha hb
    have na := pts a (List.mem_of_getElem? ha)
    have nb := pts b (List.mem_of_getElem? hb)
    have sl := slope_end lt
    rcases least_ix (p := fun d : Cn => a.1 < d.1) cs with q | ⟨k, q, hq, lq, lo⟩
    · have lM := Rat.not_lt.mp (q M mM)
      have e1 := num_last ac eM lM na
      have e2 := num_last ac eM (by grind) nb
      refine Or.inr ⟨M, eM, by grind, ?_⟩
      have s0 := (slope_0 lt).mpr (by rw [e1, e2])
      rw [s0, e1]
      grind
    · cases k with
      | zero =>
        exfalso
        rw [first] at hq
        by_cases e : i = 0
        · subst e
          rw [hq] at ha
          cases ha
          grind
        · have := fsts_lt ar (i := 0) (j := i) (by omega) hq ha
          grind
      | succ k =>
        have lk := (List.getElem?_eq_some_iff.mp hq).1
        have hp : cs[k]? = some cs[k] := List.getElem?_eq_getElem (by omega)
        generalize cs[k] = p at hp
        have lp := Rat.not_lt.mp (lo k p (Nat.lt_succ_self k) hp)
        obtain ⟨j, hj⟩ := List.getElem?_of_mem (mem q (List.mem_of_getElem? hq))
        have lbq : b.1 ≤ q.1 := by
          rcases Nat.lt_trichotomy j i with c | rfl | c
          · have := fsts_lt ar c hj ha
            grind
          · rw [ha] at hj
            cases hj
            grind
          · by_cases e : j = i + 1
            · subst e
              rw [hb] at hj
              cases hj
              exact Rat.le_refl
            · exact Rat.le_of_lt (fsts_lt ar (i := i + 1) (j := j) (by omega) hb hj)
        have e1 := num_piece ac hp hq lp (by grind) na
        have e2 := num_piece ac hp hq (by grind) lbq nb
        have es : slope a b = slope p q := by
          refine cancel_r (d := b.1 - a.1) ?_ (by grind)
          grind
        refine Or.inl ⟨k, p, q, hp, hq, by grind, by grind, ?_⟩
        rw [es, e1]
        grind
  · have nL := pts L (List.mem_of_getLast? eL)
    have le : M.1 ≤ L.1 := by
      obtain ⟨j, hj⟩ := List.getElem?_of_mem (mem M mM)
      have hl := last_at eL
      have := (List.getElem?_eq_some_iff.mp hj).1
      by_cases e : j = row.length - 1
      · rw [e, hl] at hj
        cases hj
        exact Rat.le_refl
      · exact Rat.le_of_lt (fsts_lt ar (i := j) (j := row.length - 1) (by omega) hj hl)
    exact Or.inr ⟨M, eM, by grind, num_last ac eM le nL⟩
end
end DL

namespace DL
open PySem PySem.Spec PyProof.Rows L2
local instance tbNOB : Tb := ⟨[], fun _ => ""⟩
/-! ### the law's counts -/
/-- counts that the law draws -/
structure Tally (cs : List Cn) : Prop where
  k : IsCounts cs
  few : cs.length ≤ 6
  h : ∀ c ∈ cs, Hv 2 32 c.1
  f : ∀ c ∈ cs, Hv 60 1400 c.2
theorem Tally.c {cs : List Cn} (r : Tally cs) : ∀ c ∈ cs, sz c.1 ≤ 6 ∧ sz c.2 ≤ 11 := fun c m => ⟨(r.h c m).sz_ (by decide) (by decide) (by decide), (r.f c m).sz_ (by decide) (by decide) (by decide)⟩
theorem Tally.s {cs : List Cn} (r : Tally cs) : ∀ s ∈ slopes cs, sz s ≤ 19 := by
  intro s hs
  obtain ⟨i, hi⟩ := List.getElem?_of_mem hs
  obtain ⟨a, b, h1, h2, rfl⟩ := slopes_at hi
  have m1 := List.mem_of_getElem? h1
  have m2 := List.mem_of_getElem? h2
  have h3 := sz_div (b.2 - a.2) (b.1 - a.1)
  have h4 := ((r.f b m2).sub (r.f a m1)).sz_ (n := 12) (by decide) (by decide) (by decide)
  have h5 := ((r.h b m2).sub (r.h a m1)).sz_ (n := 7) (by decide) (by decide) (by decide)
  show sz ((b.2 - a.2) / (b.1 - a.1)) ≤ 19
  omega
theorem Tally.fit {cs : List Cn} (r : Tally cs) : FitK cs := ⟨fun c m => ⟨Nat.le_trans (r.c c m).1 (by decide), Nat.le_trans (r.c c m).2 (by decide)⟩, fun s m => Nat.le_trans (r.s s m) (by decide)⟩
def F_l_fraction : FM := fun xs ds P => ∃ m : Nat, Spr m xs ∧ ds = [] ∧ m ≤ 900000 ∧ ∀ q ys, sz q ≤ 5 → Hv 60 720 q → Spr (m + 3) ys → P (.d (fr q)) ys
theorem len_l_fraction : ∀ xs ds P, F_l_fraction xs ds P → ds.length + 1 = 1 := by
  rintro xs _ P ⟨m, _, rfl, _⟩
  rfl
def t_l_fraction : ATS :=
  (aRet (xCall F_l_frac (dCons (x2 (xCallM F_l_draw (xVar 0) (dCons (xC (.int 25)) dNil)) (xC (.int 12)) oSub) (dCons (x2 (xC (.int 1)) (xCallM F_l_draw (xVar 0) (dCons (xCallM F_l_pick (xVar 0) (dCons (xLst (dCons (xC (.int 1)) (dCons (xC (.int 2)) (dCons (xC (.int 5)) dNil)))) dNil)) dNil)) oAdd) dNil))))
abbrev n_l_fraction : List Str := ["_law_spring_here"]
abbrev Wp_l_fraction : Prop := ∀ xs ds P, F_l_fraction xs ds P → t_l_fraction { nx := fun s => ∃ ys, s[0]? = some (Sl.m true ys) ∧ P (.d .none) ys, rt := fun r s => ∃ ys, s[0]? = some (Sl.m true ys) ∧ P r ys } (startM n_l_fraction xs ds)
theorem wp_l_fraction : Wp_l_fraction := by
  rintro xs _ P ⟨m, spr, rfl, hm, h⟩
  unfold t_l_fraction
  simp! only []
  refine u_draw spr (by omega) (by decide) (by decide) fun r ys r0 r1 sp => ?_
  simp! only []
  refine ⟨m + 1, [.int 1, .int 2, .int 5], sp, Or.inl rfl, ⟨by omega, by simp, by show 3 ≤ 100000; decide⟩, fun d zs md sp2 => ?_⟩
  obtain ⟨k, rfl, k0, k1⟩ : ∃ k : Int, d = .int k ∧ 0 < k ∧ k ≤ 5 := by
    simp only [List.mem_cons, List.not_mem_nil, or_false] at md
    rcases md with rfl | rfl | rfl
    · exact ⟨_, rfl, by decide, by decide⟩
    · exact ⟨_, rfl, by decide, by decide⟩
    · exact ⟨_, rfl, by decide, by decide⟩
  simp! only []
  refine u_draw sp2 (by omega) k0 (by omega) fun r2 ws s0 s1 sp3 => ?_
  simp! only [u_l_frac]
  refine ⟨⟨by omega, small8100 (by omega)⟩, ?_⟩
  have h1 := sz_q (r - 12) (1 + r2)
  have h2 := sI_le (n := r - 12) (k := 5) (by omega) (by decide)
  have h3 := sI_le (n := 1 + r2) (k := 5) (by omega) (by decide)
  refine ⟨_, rfl, h _ _ (by omega) ?_ sp3⟩
  have c : r2 = 0 ∨ r2 = 1 ∨ r2 = 2 ∨ r2 = 3 ∨ r2 = 4 := by omega
  rcases c with rfl | rfl | rfl | rfl | rfl
  · exact Hv.of (by decide) (by decide) ((r - 12) * 60) (by omega) (by omega)
  · exact Hv.of (by decide) (by decide) ((r - 12) * 30) (by omega) (by omega)
  · exact Hv.of (by decide) (by decide) ((r - 12) * 20) (by omega) (by omega)
  · exact Hv.of (by decide) (by decide) ((r - 12) * 15) (by omega) (by omega)
  · exact Hv.of (by decide) (by decide) ((r - 12) * 12) (by omega) (by omega)
/-- heights that nowhere fall -/
def Mono (row : List Cn) : Prop := ∀ (i : Nat) (a b : Cn), row[i]? = some a → row[i + 1]? = some b → a.2 ≤ b.2
theorem Mono.le {row : List Cn} (r : Mono row) : ∀ (n i : Nat) (a b : Cn), row[i]? = some a → row[i + n]? = some b → a.2 ≤ b.2 := by
  intro n
  induction n with
  | zero =>
    intro i a b ha hb
    rw [Nat.add_zero, ha] at hb
    cases hb
    exact Rat.le_refl
  | succ n ih =>
    intro i a b ha hb
    have lb := (List.getElem?_eq_some_iff.mp hb).1
    have hc : row[i + n]? = some row[i + n] := List.getElem?_eq_getElem (by omega)
    exact Rat.le_trans (ih i a _ ha hc) (r (i + n) _ b hc hb)
theorem slope_nn {a b : Cn} (h : a.1 < b.1) (l : a.2 ≤ b.2) : 0 ≤ slope a b := div_nn (by grind) (by grind)
/-- what is left of a row that rises, are counts -/
theorem IsLine.counts {row cs : List Cn} (k : IsLine cs) (as : DL.asc (fsts row) = true) (r : Mono row) (z : ∀ c, row[0]? = some c → c.1 = 0) (first : cs[0]? = row[0]?) (mem : ∀ c ∈ cs, c ∈ row) : IsCounts cs := by
  refine ⟨k.ne, fun c hc => z c (first ▸ hc), k.asc, fun s hs => ?_, k.unlike⟩
  obtain ⟨i, hi⟩ := List.getElem?_of_mem hs
  obtain ⟨a, b, ha, hb, rfl⟩ := slopes_at hi
  have lt := fsts_lt k.asc (Nat.lt_succ_self i) ha hb
  refine slope_nn lt ?_
  obtain ⟨p, hp⟩ := List.getElem?_of_mem (mem a (List.mem_of_getElem? ha))
  obtain ⟨q, hq⟩ := List.getElem?_of_mem (mem b (List.mem_of_getElem? hb))
  rcases Nat.lt_or_ge p q with c | c
  · exact r.le (q - p) p a b hp (by rw [show p + (q - p) = q by omega]; exact hq)
  · exfalso
    by_cases e : p = q
    · subst e
      rw [hp] at hq
      cases hq
      grind
    · have := fsts_lt as (i := q) (j := p) (by omega) hq hp
      grind
/-- a row that is done -/
structure Done (row found : List Cn) : Prop where
  line : IsLine found
  pts : ∀ c ∈ row, NumAt found c.1 c.2
  mem : ∀ c ∈ found, c ∈ row
  first : found[0]? = row[0]?
  few : found.length ≤ row.length
theorem Done.num {row found : List Cn} {x y : Rat} (d : Done row found) (as : DL.asc (fsts row) = true) (h : NumAt row x y) : NumAt found x y := row_num as d.line.asc d.mem d.first d.line.ne d.pts h
theorem Done.one {c : Cn} : Done [c] [c] := ⟨⟨by simp, rfl, fun i a b ha hb => by simp [rates, slopes] at hb⟩, fun d m => num_mem rfl m, fun _ m => m, rfl, Nat.le_refl _⟩
/-- a row that rises, as the law draws it -/
structure Rowy (row : List Cn) : Prop where
  ne : row ≠ []
  zero : ∀ c, row[0]? = some c → c.1 = 0
  asc : asc (fsts row) = true
  up : Mono row
  few : row.length ≤ 6
  h : ∀ c ∈ row, Hv 2 32 c.1
  f : ∀ c ∈ row, Hv 60 1400 c.2
end DL

namespace DL
open PySem PySem.Spec PyProof.Rows L2
local instance tbNUA : Tb := ⟨[], fun _ => ""⟩
/-! ### data of any sort, not too great -/
mutual
/-- ints have at most so many bits -/
def nice (b : Nat) : PyData → Bool
  | .int i => decide (sI i ≤ b)
  | .str x => x.cps.toList.all fun c => decide (c < 16 ^ 8)
  | .list xs => niceL b xs
  | .tuple xs => niceL b xs
  | .dict kvs => okdK kvs && PyData.showableKv kvs && PyData.leavesShortKv 1921 kvs
  | _ => true
def niceL (b : Nat) : List PyData → Bool
  | [] => true
  | d :: ds => nice b d && niceL b ds
end
section
variable {b n e : Nat}
theorem niceL_iff : ∀ {xs : List PyData}, niceL b xs = true ↔ ∀ x ∈ xs, nice b x = true
  | [] => by simp [niceL]
  | x :: xs => by
    rw [niceL, Bool.and_eq_true, niceL_iff (xs := xs)]
    simp
mutual
theorem nice_ok (hb : b ≤ 1900) : ∀ d : PyData, nice b d = true → okd d = true ∧ d.showable = true ∧ d.leavesShort 1921 = true
  | .none, _ => ⟨rfl, rfl, rfl⟩
  | .bool _, _ => ⟨rfl, rfl, rfl⟩
  | .int i, h => by
    have h : sI i ≤ b := by simpa [nice] using h
    have a := int_short (i := i) (by omega)
    exact ⟨rfl, by simp only [PyData.showable, decide_eq_true (log_of (n := i) (by omega))], a⟩
  | .str x, h => ⟨rfl, rfl, by simpa [nice, PyData.leavesShort] using h⟩
  | .list xs, h => by
    obtain ⟨h1, h2, h3⟩ := nice_okL hb xs (by simpa [nice] using h)
    exact ⟨by simpa [okd] using h1, by simpa [PyData.showable] using h2, by simpa [PyData.leavesShort] using h3⟩
  | .tuple xs, h => by
    obtain ⟨h1, h2, h3⟩ := nice_okL hb xs (by simpa [nice] using h)
    exact ⟨by simpa [okd] using h1, by simpa [PyData.showable] using h2, by simpa [PyData.leavesShort] using h3⟩
  | .dict kvs, h => by
    simp only [nice, Bool.and_eq_true] at h
    exact ⟨by simpa [okd] using h.1.1, by simpa [PyData.showable] using h.1.2, by simpa [PyData.leavesShort] using h.2⟩
theorem nice_okL (hb : b ≤ 1900) : ∀ ds : List PyData, niceL b ds = true → okdL ds = true ∧ PyData.showableAll ds = true ∧ PyData.leavesShortAll 1921 ds = true
  | [], _ => ⟨rfl, rfl, rfl⟩
  | d :: ds, h => by
    rw [niceL, Bool.and_eq_true] at h
    obtain ⟨a1, a2, a3⟩ := nice_ok hb d h.1
    obtain ⟨b1, b2, b3⟩ := nice_okL hb ds h.2
    exact ⟨by simp [okdL, a1, b1], by simp [PyData.showableAll, a2, b2], by simp [PyData.leavesShortAll, a3, b3]⟩
end
mutual
theorem nice_mono {c : Nat} (h : b ≤ c) : ∀ d : PyData, nice b d = true → nice c d = true
  | .none, _ => rfl
  | .bool _, _ => rfl
  | .int i, q => by
    have q : sI i ≤ b := by simpa [nice] using q
    simp only [nice, decide_eq_true_eq]
    omega
  | .str x, q => by simpa [nice] using q
  | .list xs, q => by
    simp only [nice] at q ⊢
    exact niceL_mono h xs q
  | .tuple xs, q => by
    simp only [nice] at q ⊢
    exact niceL_mono h xs q
  | .dict kvs, q => by simpa [nice] using q
theorem niceL_mono {c : Nat} (h : b ≤ c) : ∀ ds : List PyData, niceL b ds = true → niceL c ds = true
  | [], _ => rfl
  | d :: ds, q => by
    rw [niceL, Bool.and_eq_true] at q ⊢
    exact ⟨nice_mono h d q.1, niceL_mono h ds q.2⟩
end
theorem bulkAll_app : ∀ xs ys : List PyData, PyData.bulkAll (xs ++ ys) = PyData.bulkAll xs + PyData.bulkAll ys
  | [], ys => by simp [PyData.bulkAll]
  | x :: xs, ys => by
    rw [List.cons_append, PyData.bulkAll, PyData.bulkAll, bulkAll_app xs ys]
    omega
theorem bulkAll_len : ∀ xs : List PyData, xs.length ≤ PyData.bulkAll xs
  | [] => Nat.zero_le _
  | x :: xs => by
    have := bulkAll_len xs
    rw [PyData.bulkAll, List.length_cons]
    omega
theorem depthAll_iff : ∀ {xs : List PyData}, PyData.depthAll xs ≤ e ↔ ∀ x ∈ xs, x.depth ≤ e
  | [] => by simp [PyData.depthAll]
  | x :: xs => by
    rw [PyData.depthAll, Nat.max_le, depthAll_iff (xs := xs)]
    simp
/-- a value of any sort: bits, bulk, depth -/
structure Nc (b n e : Nat) (d : PyData) : Prop where
  nice : nice b d = true
  bulk : d.bulk ≤ n
  depth : d.depth ≤ e
structure NcL (b n e : Nat) (xs : List PyData) : Prop where
  mem : ∀ x ∈ xs, nice b x = true ∧ x.depth ≤ e
  bulk : PyData.bulkAll xs ≤ n
theorem Nc.mono {b' n' e' : Nat} {d : PyData} (h : Nc b n e d) (hb : b ≤ b') (hn : n ≤ n') (he : e ≤ e') : Nc b' n' e' d := ⟨nice_mono hb d h.nice, Nat.le_trans h.bulk hn, Nat.le_trans h.depth he⟩
theorem NcL.mono {b' n' e' : Nat} {xs : List PyData} (h : NcL b n e xs) (hb : b ≤ b') (hn : n ≤ n') (he : e ≤ e') : NcL b' n' e' xs := ⟨fun x m => ⟨nice_mono hb x (h.mem x m).1, Nat.le_trans (h.mem x m).2 he⟩, Nat.le_trans h.bulk hn⟩
theorem Nc.okd {d : PyData} (h : Nc b n e d) (hb : b ≤ 1900) : DL.okd d = true := (nice_ok hb d h.nice).1
theorem Nc.ok {d : PyData} (h : Nc b n e d) (hb : b ≤ 1900) (hn : n ≤ 8000) (he : e ≤ 60) : OkR d := by
  obtain ⟨h1, h2, h3⟩ := nice_ok hb d h.nice
  refine ⟨h2, h1, ?_, Nat.le_trans h.depth he⟩
  have h1 := PyData.shown_le_bulk 1921 (by decide) d h3
  have h2 := h.bulk
  have h3 : sizeLine = 16777216 := by decide
  have h4 : 1923 * d.bulk ≤ 1923 * 8000 := Nat.mul_le_mul_left _ (by omega)
  omega
theorem NcL.tuple {xs : List PyData} (h : NcL b n e xs) : Nc b n (e + 1) (.tuple xs) := by
  refine ⟨by simp only [DL.nice]; exact niceL_iff.mpr fun x m => (h.mem x m).1, by simpa only [PyData.bulk] using h.bulk, ?_⟩
  have := depthAll_iff.mpr fun x m => (h.mem x m).2
  simp only [PyData.depth]
  omega
theorem NcL.list {xs : List PyData} (h : NcL b n e xs) : Nc b n (e + 1) (.list xs) := by
  refine ⟨by simp only [DL.nice]; exact niceL_iff.mpr fun x m => (h.mem x m).1, by simpa only [PyData.bulk] using h.bulk, ?_⟩
  have := depthAll_iff.mpr fun x m => (h.mem x m).2
  simp only [PyData.depth]
  omega
theorem Nc.items {xs : List PyData} (h : Nc b n e (.tuple xs)) : NcL b n (e - 1) xs ∧ 1 ≤ e := by
  have h1 := h.nice
  have h2 := h.bulk
  have h3 := h.depth
  simp only [DL.nice] at h1
  simp only [PyData.bulk] at h2
  simp only [PyData.depth] at h3
  refine ⟨⟨fun x m => ⟨niceL_iff.mp h1 x m, depthAll_iff.mp (show PyData.depthAll xs ≤ e - 1 by omega) x m⟩, h2⟩, by omega⟩
theorem NcL.len {xs : List PyData} (h : NcL b n e xs) : xs.length ≤ n := Nat.le_trans (bulkAll_len xs) h.bulk
theorem NcL.nil : NcL b n e [] := ⟨(fun _ m => nomatch m), Nat.zero_le _⟩
theorem NcL.cons {x : PyData} {xs : List PyData} {k m : Nat} (h : Nc b k e x) (t : NcL b m e xs) : NcL b (k + 1 + m) e (x :: xs) := by
  have h1 := h.bulk
  have h2 := t.bulk
  refine ⟨fun y hy => ?_, by rw [PyData.bulkAll]; omega⟩
  rcases List.mem_cons.mp hy with rfl | hy
  · exact ⟨h.nice, h.depth⟩
  · exact t.mem y hy
theorem NcL.app {xs ys : List PyData} {k m : Nat} (h : NcL b k e xs) (t : NcL b m e ys) : NcL b (k + m) e (xs ++ ys) := by
  have h1 := h.bulk
  have h2 := t.bulk
  refine ⟨fun y hy => ?_, by rw [bulkAll_app]; omega⟩
  rcases List.mem_append.mp hy with hy | hy
  · exact h.mem y hy
  · exact t.mem y hy
/-- a row parted at one of its places -/
theorem NcL.parts {xs : List PyData} (h : NcL b n e xs) {i : Nat} {x : PyData} (hx : xs[i]? = some x) : ∃ k j m, NcL b k e (xs.take i) ∧ Nc b j e x ∧ NcL b m e (xs.drop (i + 1)) ∧ k + (j + 1) + m ≤ n ∧ j = x.bulk := by
  have lt := (List.getElem?_eq_some_iff.mp hx).1
  have e1 : xs = xs.take i ++ x :: xs.drop (i + 1) := by
    conv => lhs; rw [← List.take_append_drop i xs]
    rw [List.drop_eq_getElem_cons lt, (List.getElem?_eq_some_iff.mp hx).2]
  have h2 := h.bulk
  rw [e1, bulkAll_app, PyData.bulkAll] at h2
  refine ⟨PyData.bulkAll (xs.take i), x.bulk, PyData.bulkAll (xs.drop (i + 1)), ⟨fun y m => h.mem y (List.mem_of_mem_take m), Nat.le_refl _⟩, ⟨(h.mem x (List.mem_of_getElem? hx)).1, Nat.le_refl _, (h.mem x (List.mem_of_getElem? hx)).2⟩, ⟨fun y m => h.mem y (List.mem_of_mem_drop m), Nat.le_refl _⟩, by omega, rfl⟩
theorem NcL.cut {xs : List PyData} (h : NcL b n e xs) (i : Nat) : ∃ k m, NcL b k e (xs.take i) ∧ NcL b m e (xs.drop i) ∧ k + m ≤ n := by
  have h2 := h.bulk
  rw [← List.take_append_drop i xs, bulkAll_app] at h2
  exact ⟨_, _, ⟨fun y m => h.mem y (List.mem_of_mem_take m), Nat.le_refl _⟩, ⟨fun y m => h.mem y (List.mem_of_mem_drop m), Nat.le_refl _⟩, h2⟩
theorem Nc.int {i : Int} (h : sI i ≤ b) : Nc b 0 e (.int i) := ⟨by simp only [DL.nice, decide_eq_true h], by simp [PyData.bulk], by simp [PyData.depth]⟩
theorem Nc.pr {i j : Int} (hi : sI i ≤ b) (hj : sI j ≤ b) : Nc b 2 (e + 1) (.tuple [.int i, .int j]) := NcL.tuple (NcL.cons (Nc.int hi) (NcL.cons (Nc.int hj) (NcL.nil (n := 0))))
theorem Nc.fr {q : Rat} (h : sz q ≤ b) : Nc b 2 (e + 1) (DL.fr q) := Nc.pr (Nat.le_trans (sI_num q) h) (Nat.le_trans (sI_den q) h)
/-- of a fraction -/
theorem Nc.sz_ {q : Rat} (h : Nc b n e (DL.fr q)) : sz q ≤ b := by
  have m := h.items.1.mem
  have h1 := (m (.int q.num) List.mem_cons_self).1
  have h2 := (m (.int (q.den : Int)) (List.mem_cons_of_mem _ List.mem_cons_self)).1
  simp only [DL.nice, decide_eq_true_eq] at h1 h2
  exact Nat.max_le.mpr ⟨h1, h2⟩
end
end DL

namespace DL
open PySem PySem.Spec PyProof.Rows L2
local instance tbNMFb : Tb := ⟨[], fun _ => ""⟩
theorem lc_filt {tg : Tgt} {vs : List Nat} {tt : BT} {te : AT} {s1 : AS} {Q : Rv → AS → Prop} {xs : List PyData} (p : PyData → Bool) (g : PyData → PyData) (few : xs.length ≤ 100000) (nm : ∀ v ∈ vs, noM s1 v = true)
    (step : ∀ d ∈ xs, ∃ b, bindD tg d = some b ∧ (∀ q ∈ b, q.1 ∈ vs ∧ q.1 < s1.length) ∧ (∀ R : Bool → AS → Prop, R (p d) (putD (wipeS s1 vs) b) → tt (putD (wipeS s1 vs) b) R) ∧ (p d = true → ∀ Q' : Rv → AS → Prop, Q' (.d (g d)) (putD (wipeS s1 vs) b) → te (putD (wipeS s1 vs) b) fun r s1 => Q' (.d (rd s1 r)) (fz s1 r)))
    (fin : Q (.f ((xs.filter p).map g)) s1) : lcB tg vs tt te xs s1 Q := by
  refine ⟨⟨few, nm⟩, fun i acc s => s = wipeS s1 vs ∧ acc = ((xs.take i).filter p).map g, ⟨rfl, rfl⟩, ?_, ?_⟩
  · rintro i d acc s2 hd ⟨rfl, rfl⟩
    obtain ⟨b, h1, h2, h3, h4⟩ := step d (List.mem_of_getElem? hd)
    refine ⟨b, h1, fun q hq => ⟨(h2 q hq).1, by rw [wipeS_len]; exact (h2 q hq).2⟩, ?_⟩
    refine h3 _ ?_
    have e : xs.take (i + 1) = xs.take i ++ [d] := by rw [List.take_add_one, hd]; rfl
    by_cases c : p d = true
    · rw [if_pos c]
      refine h4 c (fun r s4 => wipeS s4 vs = wipeS s1 vs ∧ ((xs.take i).filter p).map g ++ [rd s4 r] = ((xs.take (i + 1)).filter p).map g) ⟨wipe_put fun q hq => (h2 q hq).1, ?_⟩
      rw [e, List.filter_append, List.map_append, List.filter_cons_of_pos c]
      rfl
    · rw [if_neg c]
      refine ⟨wipe_put fun q hq => (h2 q hq).1, ?_⟩
      rw [e, List.filter_append, List.filter_cons_of_neg c, List.filter_nil, List.append_nil]
  · rintro acc s2 ⟨rfl, rfl⟩
    rw [back_wipe, List.take_length]
    exact fin
end DL

namespace DL
open PySem PySem.Spec PyProof.Rows L2
local instance tbNUB : Tb := ⟨[], fun _ => ""⟩
/-! ### the law's own tests of anything -/
end DL

namespace DL
open PySem PySem.Spec PyProof.Rows L2
local instance tbNKIN : Tb := ⟨[], fun _ => ""⟩
/-! ### flows between the ends of a kind -/
theorem IsKind.inner {cs : List Cn} (k : IsKind cs) {i : Nat} {c : Cn} (i0 : 0 < i) (i1 : i + 1 < cs.length) (hc : cs[i]? = some c) : 0 < c.2 := by
  have hb : cs[i - 1]? = some cs[i - 1] := List.getElem?_eq_getElem (by omega)
  have hd : cs[i + 1]? = some cs[i + 1] := List.getElem?_eq_getElem (by omega)
  have hL : cs[cs.length - 1]? = some cs[cs.length - 1] := List.getElem?_eq_getElem (by omega)
  generalize cs[i - 1] = a at hb
  generalize cs[i + 1] = d at hd
  have L0 := k.last _ hL
  generalize cs[cs.length - 1] = L at hL L0
  have e1 : i - 1 + 1 = i := by omega
  have s0 := slopes_get hb (by rw [e1]; exact hc)
  have s1 := slopes_get hc hd
  have d01 := k.dsc (i - 1) _ _ s0 (by rw [e1]; exact s1)
  have c0 := fsts_lt k.asc i0 k.zero hc
  have cL := fsts_lt k.asc (i := i) (j := cs.length - 1) (by omega) hc hL
  have up := top_up (v := slope c d) k.asc hc (fun j s hs le => by
    by_cases e : j = i
    · subst e
      rw [s1] at hs
      cases hs
      exact Rat.le_refl
    · have := dsc_lt k.dsc (i := i) (j := j) (by omega) s1 hs
      grind) (cs.length - 1 - i) L (by rw [show i + (cs.length - 1 - i) = cs.length - 1 by omega]; exact hL)
  have dn := top_down (v := slope a c) k.asc i c hc (fun j s hs lt => by
    by_cases e : j = i - 1
    · subst e
      rw [s0] at hs
      cases hs
      exact Rat.le_refl
    · have := dsc_lt k.dsc (i := j) (j := i - 1) (by omega) hs s0
      grind) 0 (0, 0) (Nat.zero_le _) k.zero
  generalize slope c d = t at d01 up
  generalize slope a c = r at d01 dn
  have c0 : 0 < c.1 := c0
  have dn : (0 : Rat) - 0 * r ≤ c.2 - c.1 * r := dn
  rw [← Rat.not_le]
  intro z
  have h1 : r ≤ 0 := by
    rw [← Rat.not_lt]
    intro h
    have := Rat.mul_pos c0 h
    grind
  have h2 : t < 0 := by grind
  have := Rat.mul_pos (show 0 < -t by grind) (show 0 < L.1 - c.1 by grind)
  grind
end DL

namespace DL
open PySem PySem.Spec PyProof.Rows L2
local instance tbNUC : Tb := ⟨[], fun _ => ""⟩
/-! ### paces of corners that ascend; long roads of up to thirteen corners -/
/-! ### whether something is a kind -/
end DL

namespace DL
open PySem PySem.Spec PyProof.Rows L2
local instance tbNCONS : Tb := ⟨[], fun _ => ""⟩
theorem q12 : decide ((1 : Int) = 2) = false := by decide
theorem q13 : decide ((1 : Int) = 3) = false := by decide
theorem q14 : decide ((1 : Int) = 4) = false := by decide
/-! ### displays of constants -/
def Con (t : DT) (ds : List PyData) : Prop := ∀ s Q, Q ds s → t s Q
def ConA (t : AT) (d : PyData) : Prop := ∀ s Q, (∀ r, (r = .d d ∨ ∃ xs, r = .f xs ∧ d = .list xs) → Q r s) → t s Q
theorem con_nil : Con dNil [] := fun _ _ h => h
theorem con_cons {t : AT} {u : DT} {d : PyData} {ds : List PyData} (a : ConA t d) (b : Con u ds) : Con (dCons t u) (d :: ds) := by
  intro s Q h
  refine a s _ fun r hr => ?_
  rcases hr with rfl | ⟨xs, rfl, rfl⟩
  · exact b _ _ h
  · exact b _ _ h
theorem conA_c {d : PyData} : ConA (xC d) d := fun s Q h => h _ (Or.inl rfl)
theorem conA_neg {i : Int} : ConA (x1 (xC (.int i)) oNeg) (.int (-i)) := fun s Q h => h _ (Or.inl rfl)
theorem conA_pow {i j : Int} (c : 0 ≤ j ∧ j ≤ 1000 ∧ i.natAbs < 1000) : ConA (x2 (xC (.int i)) (xC (.int j)) oPow) (.int (i ^ j.toNat)) := fun s Q h => ⟨c, h _ (Or.inl rfl)⟩
theorem conA_tup {t : DT} {ds : List PyData} (a : Con t ds) (few : ds.length ≤ 1000) : ConA (xTup t) (.tuple ds) := fun s Q h => a _ _ ⟨few, h _ (Or.inl rfl)⟩
theorem conA_lst {t : DT} {ds : List PyData} (a : Con t ds) (few : ds.length ≤ 1000) : ConA (xLst t) (.list ds) := fun s Q h => a _ _ ⟨few, h _ (Or.inr ⟨_, rfl, rfl⟩)⟩
theorem seq_con {t : DT} {ds : List PyData} {i : Nat} {u : ATS} {D s} (a : Con t ds) (few : ds.length ≤ 1000) (h : i < s.length ∧ u D (s.set i (.m false ds))) : aSeq (aAsg i (xLst t)) u D s := a _ _ ⟨few, h⟩
def small_ (d : PyData) : Bool := nice 200 d && decide (d.bulk ≤ 40) && decide (d.depth ≤ 7)
theorem small_nc {d : PyData} (h : small_ d = true) : Nc 200 40 7 d := by
  simp only [small_, Bool.and_eq_true, decide_eq_true_eq] at h
  exact ⟨h.1.1, h.1.2, h.2⟩
end DL

namespace DL
open PySem PySem.Spec PyProof.Rows L2
local instance tbNUD : Tb := ⟨[], fun _ => ""⟩
/-! ### things of any sort, and what is changed in a tuple -/
def F_l_odd : FM := fun xs ds P => ∃ m : Nat, Spr m xs ∧ ds = [] ∧ m ≤ 900000 ∧ ∀ d ys, Nc 200 40 7 d → Spr (m + 1) ys → P (.d d) ys
theorem len_l_odd : ∀ xs ds P, F_l_odd xs ds P → ds.length + 1 = 1 := by
  rintro xs _ P ⟨m, _, rfl, _⟩
  rfl
def t_l_odd : ATS :=
  (aSeq (aAsg 1 (xLst (dCons (xC .none) (dCons (xC (.bool true)) (dCons (xC (.bool false)) (dCons (xC (.int 0)) (dCons (xC (.int 1)) (dCons (x1 (xC (.int 1)) oNeg) (dCons (xC (.int 7)) (dCons (x2 (xC (.int 10)) (xC (.int 30)) oPow) (dCons (xC (.str "")) (dCons (xC (.str "x")) (dCons (xC (.str "1/2")) (dCons (xC (.dict [])) (dCons (xC (.dict [(.str "x", .int 1)])) (dCons (xLst (dCons (xC (.int 0)) (dCons (xC (.int 1)) dNil))) (dCons (xLst (dCons (xC (.int 1)) (dCons (xC (.int 1)) dNil))) (dCons (xLst (dCons (xTup (dCons (xC (.int 0)) (dCons (xC (.int 1)) dNil))) (dCons (xTup (dCons (xC (.int 1)) (dCons (xC (.int 1)) dNil))) dNil))) dNil))))))))))))))))))
    (aSeq (aAsg 2 (xLst (dCons (xTup (dCons (xC (.int 0)) (dCons (xC (.int 1)) dNil))) (dCons (xTup (dCons (xC (.int 1)) (dCons (xC (.int 1)) dNil))) (dCons (xTup (dCons (x1 (xC (.int 1)) oNeg) (dCons (xC (.int 1)) dNil))) (dCons (xTup (dCons (xC (.int 2)) (dCons (xC (.int 4)) dNil))) (dCons (xTup (dCons (xC (.int 1)) (dCons (xC (.int 0)) dNil))) (dCons (xTup (dCons (xC (.int 1)) (dCons (x1 (xC (.int 1)) oNeg) dNil))) (dCons (xTup (dCons (xC (.int 0)) (dCons (xC (.int 2)) dNil))) (dCons (xTup (dCons (xC (.bool true)) (dCons (xC (.int 1)) dNil))) (dCons (xTup (dCons (xC (.int 1)) (dCons (xC (.bool true)) dNil))) (dCons (xTup (dCons (xC (.int 1)) (dCons (xC (.int 2)) (dCons (xC (.int 3)) dNil)))) (dCons (xTup dNil) (dCons (xTup (dCons (xC (.int 1)) dNil)) (dCons (xTup (dCons (xC .none) (dCons (xC .none) dNil))) dNil)))))))))))))))
    (aSeq (aAsg 3 (xLst (dCons (xTup (dCons (xTup (dCons (xC (.int 0)) (dCons (xC (.int 1)) dNil))) (dCons (xTup (dCons (xC (.int 1)) (dCons (xC (.int 1)) dNil))) dNil))) (dCons (xTup (dCons (xTup (dCons (xTup (dCons (xC (.int 0)) (dCons (xC (.int 1)) dNil))) (dCons (xTup (dCons (xC (.int 0)) (dCons (xC (.int 1)) dNil))) dNil))) dNil)) (dCons (xTup (dCons (xTup (dCons (xC (.str "a")) (dCons (xC (.int 1)) dNil))) (dCons (xC (.int 2)) dNil))) (dCons (xTup (dCons (xC (.str "start")) (dCons (xTup (dCons (xC (.int 0)) (dCons (xC (.int 1)) dNil))) (dCons (xTup (dCons (xC (.int 0)) (dCons (xC (.int 1)) dNil))) dNil)))) (dCons (xTup (dCons (xTup (dCons (xTup (dCons (xTup (dCons (xC (.int 0)) (dCons (xC (.int 1)) dNil))) dNil)) dNil)) dNil)) dNil)))))))
    (aRet (xCallM F_l_pick (xVar 0) (dCons (x2 (x2 (xVar 1) (xVar 2) oAdd) (xVar 3) oAdd) dNil))))))
abbrev n_l_odd : List Str := ["_law_spring_here", "_law_plain", "_law_pairs", "_law_deep"]
abbrev Wp_l_odd : Prop := ∀ xs ds P, F_l_odd xs ds P → t_l_odd { nx := fun s => ∃ ys, s[0]? = some (Sl.m true ys) ∧ P (.d .none) ys, rt := fun r s => ∃ ys, s[0]? = some (Sl.m true ys) ∧ P r ys } (startM n_l_odd xs ds)
def o1 : List PyData := [.none, .bool true, .bool false, .int 0, .int 1, .int (-1), .int 7, .int (10 ^ 30), .str "", .str "x", .str "1/2", .dict [], .dict [(.str "x", .int 1)], .list [.int 0, .int 1], .list [.int 1, .int 1], .list [.tuple [.int 0, .int 1], .tuple [.int 1, .int 1]]]
def o2 : List PyData := [pr 0 1, pr 1 1, pr (-1) 1, pr 2 4, pr 1 0, pr 1 (-1), pr 0 2, .tuple [.bool true, .int 1], .tuple [.int 1, .bool true], .tuple [.int 1, .int 2, .int 3], .tuple [], .tuple [.int 1], .tuple [.none, .none]]
def o3 : List PyData := [.tuple [pr 0 1, pr 1 1], .tuple [.tuple [pr 0 1, pr 0 1]], .tuple [.tuple [.str "a", .int 1], .int 2], .tuple [.str "start", pr 0 1, pr 0 1], .tuple [.tuple [.tuple [.tuple [.int 0, .int 1]]]]]
theorem o_all : (o1 ++ o2 ++ o3).all small_ = true := by decide +kernel
theorem wp_l_odd : Wp_l_odd := by
  rintro xs _ P ⟨m, spr, rfl, hm, h⟩
  unfold t_l_odd
  refine seq_con (ds := o1) ?_ (by decide) ⟨by simp [startM], ?_⟩
  · unfold o1; repeat' (first | exact con_nil | exact conA_c | exact conA_neg | exact conA_pow (by decide) | refine con_cons ?_ ?_ | refine conA_tup ?_ (by decide) | refine conA_lst ?_ (by decide))
  refine seq_con (ds := o2) ?_ (by decide) ⟨by simp [startM], ?_⟩
  · unfold o2 pr; repeat' (first | exact con_nil | exact conA_c | exact conA_neg | exact conA_pow (by decide) | refine con_cons ?_ ?_ | refine conA_tup ?_ (by decide) | refine conA_lst ?_ (by decide))
  refine seq_con (ds := o3) ?_ (by decide) ⟨by simp [startM], ?_⟩
  · unfold o3 pr; repeat' (first | exact con_nil | exact conA_c | exact conA_neg | exact conA_pow (by decide) | refine con_cons ?_ ?_ | refine conA_tup ?_ (by decide) | refine conA_lst ?_ (by decide))
  have al := List.all_eq_true.mp o_all
  have l1 : o1.length = 16 := rfl
  have l2 : o2.length = 13 := rfl
  have l3 : o3.length = 5 := rfl
  have ne : o1 ++ o2 ++ o3 ≠ [] := by
    intro z
    have := congrArg List.length z
    simp [l1, l2, l3] at this
  generalize o1 = p1 at *
  generalize o2 = p2 at *
  generalize o3 = p3 at *
  simp! only []
  refine ⟨⟨by omega, by omega⟩, ⟨by simp [l1, l2], by omega⟩, m, _, spr, Or.inl rfl, ⟨by omega, ne, by simp [l1, l2, l3]⟩, fun z ys hz sp => ?_⟩
  simp! only []
  exact ⟨_, rfl, h _ _ (small_nc (al z hz)) sp⟩
end DL

namespace DL
open PySem PySem.Spec PyProof.Rows L2
/-- the errors of the package -/
def exCs : List Str := ("RoadError" : Str) :: ("InvalidFraction" : Str) :: ("InvalidAmount" : Str) :: ("InvalidContent" : Str) :: ("InvalidNumber" : Str) :: ("InvalidIndex" : Str) :: ("InvalidKind" : Str) :: ("InvalidDensity" : Str) :: ("InvalidFlow" : Str) :: ("InvalidPlace" : Str) :: ("InvalidMoment" : Str) :: ("InvalidSpeed" : Str) :: ("InvalidWay" : Str) :: ("InvalidScene" : Str) :: ("InvalidCounts" : Str) :: ("InvalidRims" : Str) :: ("InvalidBook" : Str) :: ("InvalidName" : Str) :: ("InvalidWish" : Str) :: ("InvalidPhrase" : Str) :: ("NotAWorkshop" : Str) :: ("UnknownName" : Str) :: ("TooMany" : Str) :: ("InvalidBeginning" : Str) :: ("InvalidComings" : Str) :: ("InvalidBars" : Str) :: ("InvalidRow" : Str) :: ("InvalidMarks" : Str) :: ("InUse" : Str) :: ("Broken" : Str) :: ("NoStep" : Str) :: ("NoneFits" : Str) :: ("NothingToUndo" : Str) :: []
local instance tbNYA : Tb := ⟨[], fun _ => ""⟩
/-! the greatest common divisor, fractions: as ever -/
abbrev F_l_shared1 : FP := F_l_shared
theorem len_l_shared1 : ∀ ds P, F_l_shared1 ds P → ds.length = 2 := len_l_shared
def t_l_shared1 : ATS :=
  (aSeq (aPar 2 3 (x1 (xVar 0) oAbs) (x1 (xVar 1) oAbs))
    (aSeq (aWhile (bV (x2 (xVar 3) (xC (.int 0)) oNe)) (aPar 2 3 (xVar 3) (x2 (x1 (xVar 2) oInt) (xVar 3) oMod)))
    (aRet (xVar 2))))
abbrev n_l_shared1 : List Str := ["_law_one", "_law_two", "_law_big", "_law_small"]
abbrev Wp_l_shared1 : Prop := ∀ ds P, F_l_shared1 ds P → t_l_shared1 { nx := fun _ => P (.d .none), rt := fun r _ => P r } (startS n_l_shared1 ds)
theorem wp_l_shared1 : Wp_l_shared1 := fun ds P h => wp_l_shared ds P h
abbrev F_l_frac1 : FP := F_l_frac
theorem len_l_frac1 : ∀ ds P, F_l_frac1 ds P → ds.length = 2 := len_l_frac
def t_l_frac1 : ATS :=
  (aSeq (aAsg 2 (xCall F_l_shared1 (dCons (xVar 0) (dCons (xVar 1) dNil))))
    (aSeq (aAsg 2 (xIf (bV (x2 (xVar 1) (xC (.int 0)) oGt)) (xVar 2) (x2 (xC (.int 0)) (xVar 2) oSub)))
    (aRet (xTup (dCons (x2 (xVar 0) (xVar 2) oDiv) (dCons (x2 (xVar 1) (xVar 2) oDiv) dNil))))))
abbrev n_l_frac1 : List Str := ["_law_top", "_law_under", "_law_part"]
abbrev Wp_l_frac1 : Prop := ∀ ds P, F_l_frac1 ds P → t_l_frac1 { nx := fun _ => P (.d .none), rt := fun r _ => P r } (startS n_l_frac1 ds)
theorem wp_l_frac1 : Wp_l_frac1 := fun ds P h => wp_l_frac ds P h
/-! what is asked of an exception -/
/-- an exception as a value, of the class c -/
def IsExc (c : Str) (d : PyData) : Prop := d = exwD c ∨ ∃ ds, d = exvD c ds
def exFirst : List Str := ("InvalidFraction" : Str) :: ("InvalidAmount" : Str) :: ("InvalidContent" : Str) :: ("InvalidNumber" : Str) :: ("InvalidIndex" : Str) :: ("InvalidKind" : Str) :: ("InvalidDensity" : Str) :: ("InvalidFlow" : Str) :: ("InvalidPlace" : Str) :: ("InvalidMoment" : Str) :: ("InvalidSpeed" : Str) :: ("InvalidWay" : Str) :: ("InvalidScene" : Str) :: ("InvalidCounts" : Str) :: ("InvalidRims" : Str) :: ("InvalidBook" : Str) :: ("InvalidName" : Str) :: ("InvalidWish" : Str) :: ("InvalidPhrase" : Str) :: ("NotAWorkshop" : Str) :: ("UnknownName" : Str) :: ("TooMany" : Str) :: []
def exAll : List Str := ("InvalidFraction" : Str) :: ("InvalidAmount" : Str) :: ("InvalidContent" : Str) :: ("InvalidNumber" : Str) :: ("InvalidIndex" : Str) :: ("InvalidKind" : Str) :: ("InvalidDensity" : Str) :: ("InvalidFlow" : Str) :: ("InvalidPlace" : Str) :: ("InvalidMoment" : Str) :: ("InvalidSpeed" : Str) :: ("InvalidWay" : Str) :: ("InvalidScene" : Str) :: ("InvalidCounts" : Str) :: ("InvalidRims" : Str) :: ("InvalidBook" : Str) :: ("InvalidName" : Str) :: ("InvalidWish" : Str) :: ("InvalidPhrase" : Str) :: ("NotAWorkshop" : Str) :: ("UnknownName" : Str) :: ("TooMany" : Str) :: ("InvalidBeginning" : Str) :: ("InvalidComings" : Str) :: ("InvalidBars" : Str) :: ("InvalidRow" : Str) :: ("InvalidMarks" : Str) :: ("InUse" : Str) :: ("Broken" : Str) :: ("NoStep" : Str) :: ("NoneFits" : Str) :: ("NothingToUndo" : Str) :: []
def tru1 (l : List Str) (c : Str) : List PyData := (l.map fun x => excIs c x).map PyData.bool
theorem isExc_inj {c c' : Str} {d : PyData} (h : IsExc c d) (h' : IsExc c' d) : c' = c := by
  rcases h with rfl | ⟨ds, rfl⟩ <;> rcases h' with e | ⟨ds', e⟩ <;> simp [exwD, exvD] at e
  · exact e.symm
  · exact e.1.symm
theorem oIsX_eq {c : Str} {d : PyData} {t : Str → Bool} {k : Rv → Prop} (hc : c ∈ exCs) (h : IsExc c d) : oIsX exCs t d k = k (.d (.bool (t c))) :=
  propext ⟨fun ⟨c', _, h', q⟩ => by rw [isExc_inj h h'] at q; exact q, fun q => ⟨c, hc, h, q⟩⟩
def F_l_first_truths : FP := fun ds P => ∃ c d, ds = [d] ∧ c ∈ exCs ∧ IsExc c d ∧ P (.f (tru1 exFirst c))
theorem len_l_first_truths : ∀ ds P, F_l_first_truths ds P → ds.length = 1 := by
  rintro _ _ ⟨c, d, rfl, _⟩
  rfl
def t_l_first_truths : ATS :=
  (aSeq (aAsg 1 (xLst (dCons (x1 (xVar 0) (oIsX exCs fun c => excIs c "InvalidFraction")) (dCons (x1 (xVar 0) (oIsX exCs fun c => excIs c "InvalidAmount")) (dCons (x1 (xVar 0) (oIsX exCs fun c => excIs c "InvalidContent")) (dCons (x1 (xVar 0) (oIsX exCs fun c => excIs c "InvalidNumber")) dNil))))))
    (aSeq (aAsg 1 (x2 (xVar 1) (xLst (dCons (x1 (xVar 0) (oIsX exCs fun c => excIs c "InvalidIndex")) (dCons (x1 (xVar 0) (oIsX exCs fun c => excIs c "InvalidKind")) (dCons (x1 (xVar 0) (oIsX exCs fun c => excIs c "InvalidDensity")) (dCons (x1 (xVar 0) (oIsX exCs fun c => excIs c "InvalidFlow")) dNil))))) oAdd))
    (aSeq (aAsg 1 (x2 (xVar 1) (xLst (dCons (x1 (xVar 0) (oIsX exCs fun c => excIs c "InvalidPlace")) (dCons (x1 (xVar 0) (oIsX exCs fun c => excIs c "InvalidMoment")) (dCons (x1 (xVar 0) (oIsX exCs fun c => excIs c "InvalidSpeed")) (dCons (x1 (xVar 0) (oIsX exCs fun c => excIs c "InvalidWay")) dNil))))) oAdd))
    (aSeq (aAsg 1 (x2 (xVar 1) (xLst (dCons (x1 (xVar 0) (oIsX exCs fun c => excIs c "InvalidScene")) (dCons (x1 (xVar 0) (oIsX exCs fun c => excIs c "InvalidCounts")) (dCons (x1 (xVar 0) (oIsX exCs fun c => excIs c "InvalidRims")) (dCons (x1 (xVar 0) (oIsX exCs fun c => excIs c "InvalidBook")) dNil))))) oAdd))
    (aSeq (aAsg 1 (x2 (xVar 1) (xLst (dCons (x1 (xVar 0) (oIsX exCs fun c => excIs c "InvalidName")) (dCons (x1 (xVar 0) (oIsX exCs fun c => excIs c "InvalidWish")) (dCons (x1 (xVar 0) (oIsX exCs fun c => excIs c "InvalidPhrase")) (dCons (x1 (xVar 0) (oIsX exCs fun c => excIs c "NotAWorkshop")) dNil))))) oAdd))
    (aRet (x2 (xVar 1) (xLst (dCons (x1 (xVar 0) (oIsX exCs fun c => excIs c "UnknownName")) (dCons (x1 (xVar 0) (oIsX exCs fun c => excIs c "TooMany")) dNil))) oAdd)))))))
abbrev n_l_first_truths : List Str := ["_law_e", "_law_found"]
abbrev Wp_l_first_truths : Prop := ∀ ds P, F_l_first_truths ds P → t_l_first_truths { nx := fun _ => P (.d .none), rt := fun r _ => P r } (startS n_l_first_truths ds)
theorem wp_l_first_truths : Wp_l_first_truths := by
  rintro _ P ⟨c, d, rfl, hc, h, p⟩
  unfold t_l_first_truths
  simp! only [oIsX_eq hc h]
  exact p
def F_l_truths : FP := fun ds P => ∃ c d, ds = [d] ∧ c ∈ exCs ∧ IsExc c d ∧ P (.f (tru1 exAll c))
theorem len_l_truths : ∀ ds P, F_l_truths ds P → ds.length = 1 := by
  rintro _ _ ⟨c, d, rfl, _⟩
  rfl
theorem u_first_truths {c : Str} {d : PyData} {P : Rv → Prop} (hc : c ∈ exCs) (h : IsExc c d) : F_l_first_truths [d] P = P (.f (tru1 exFirst c)) :=
  propext ⟨fun ⟨c', d', e, _, h', q⟩ => by cases e; rw [isExc_inj h h'] at q; exact q, fun q => ⟨c, d, rfl, hc, h, q⟩⟩
theorem u_truths {c : Str} {d : PyData} {P : Rv → Prop} (hc : c ∈ exCs) (h : IsExc c d) : F_l_truths [d] P = P (.f (tru1 exAll c)) :=
  propext ⟨fun ⟨c', d', e, _, h', q⟩ => by cases e; rw [isExc_inj h h'] at q; exact q, fun q => ⟨c, d, rfl, hc, h, q⟩⟩
def t_l_truths : ATS :=
  (aSeq (aAsg 1 (x2 (xCall F_l_first_truths (dCons (xVar 0) dNil)) (xLst (dCons (x1 (xVar 0) (oIsX exCs fun c => excIs c "InvalidBeginning")) (dCons (x1 (xVar 0) (oIsX exCs fun c => excIs c "InvalidComings")) (dCons (x1 (xVar 0) (oIsX exCs fun c => excIs c "InvalidBars")) dNil)))) oAdd))
    (aSeq (aAsg 1 (x2 (xVar 1) (xLst (dCons (x1 (xVar 0) (oIsX exCs fun c => excIs c "InvalidRow")) (dCons (x1 (xVar 0) (oIsX exCs fun c => excIs c "InvalidMarks")) (dCons (x1 (xVar 0) (oIsX exCs fun c => excIs c "InUse")) (dCons (x1 (xVar 0) (oIsX exCs fun c => excIs c "Broken")) dNil))))) oAdd))
    (aRet (x2 (xVar 1) (xLst (dCons (x1 (xVar 0) (oIsX exCs fun c => excIs c "NoStep")) (dCons (x1 (xVar 0) (oIsX exCs fun c => excIs c "NoneFits")) (dCons (x1 (xVar 0) (oIsX exCs fun c => excIs c "NothingToUndo")) dNil)))) oAdd))))
abbrev n_l_truths : List Str := ["_law_e", "_law_found"]
abbrev Wp_l_truths : Prop := ∀ ds P, F_l_truths ds P → t_l_truths { nx := fun _ => P (.d .none), rt := fun r _ => P r } (startS n_l_truths ds)
theorem wp_l_truths : Wp_l_truths := by
  rintro _ P ⟨c, d, rfl, hc, h, p⟩
  unfold t_l_truths
  simp! only [u_first_truths hc h, oIsX_eq hc h]
  exact ⟨Nat.le_of_ble_eq_true rfl, Nat.le_of_ble_eq_true rfl, Nat.le_of_ble_eq_true rfl, p⟩
/-! all of them, made with a thing -/
def gvn (d : PyData) (c : Str) : PyData := exvD c [(.str "given", d)]
def ixn (d : PyData) (c : Str) : PyData := exvD c [(.str "index", d)]
def exIdx : List Str := ("InvalidBeginning" : Str) :: ("InvalidComings" : Str) :: ("InvalidBars" : Str) :: ("InvalidRow" : Str) :: ("InvalidMarks" : Str) :: ("InUse" : Str) :: ("Broken" : Str) :: []
def F_l_by_place : FP := fun ds P => ∃ d, ds = [d] ∧ P (.f (exFirst.map (gvn d)))
theorem len_l_by_place : ∀ ds P, F_l_by_place ds P → ds.length = 1 := by
  rintro _ _ ⟨d, rfl, _⟩
  rfl
def t_l_by_place : ATS :=
  (aSeq (aAsg 1 (xLst (dCons (xMk "InvalidFraction" "given" (dCons (xVar 0) dNil)) (dCons (xMk "InvalidAmount" "given" (dCons (xVar 0) dNil)) (dCons (xMk "InvalidContent" "given" (dCons (xVar 0) dNil)) (dCons (xMk "InvalidNumber" "given" (dCons (xVar 0) dNil)) (dCons (xMk "InvalidIndex" "given" (dCons (xVar 0) dNil)) (dCons (xMk "InvalidKind" "given" (dCons (xVar 0) dNil)) dNil))))))))
    (aSeq (aAsg 1 (x2 (xVar 1) (xLst (dCons (xMk "InvalidDensity" "given" (dCons (xVar 0) dNil)) (dCons (xMk "InvalidFlow" "given" (dCons (xVar 0) dNil)) (dCons (xMk "InvalidPlace" "given" (dCons (xVar 0) dNil)) (dCons (xMk "InvalidMoment" "given" (dCons (xVar 0) dNil)) (dCons (xMk "InvalidSpeed" "given" (dCons (xVar 0) dNil)) (dCons (xMk "InvalidWay" "given" (dCons (xVar 0) dNil)) dNil))))))) oAdd))
    (aSeq (aAsg 1 (x2 (xVar 1) (xLst (dCons (xMk "InvalidScene" "given" (dCons (xVar 0) dNil)) (dCons (xMk "InvalidCounts" "given" (dCons (xVar 0) dNil)) (dCons (xMk "InvalidRims" "given" (dCons (xVar 0) dNil)) (dCons (xMk "InvalidBook" "given" (dCons (xVar 0) dNil)) (dCons (xMk "InvalidName" "given" (dCons (xVar 0) dNil)) (dCons (xMk "InvalidWish" "given" (dCons (xVar 0) dNil)) dNil))))))) oAdd))
    (aRet (x2 (xVar 1) (xLst (dCons (xMk "InvalidPhrase" "given" (dCons (xVar 0) dNil)) (dCons (xMk "NotAWorkshop" "given" (dCons (xVar 0) dNil)) (dCons (xMk "UnknownName" "given" (dCons (xVar 0) dNil)) (dCons (xMk "TooMany" "given" (dCons (xVar 0) dNil)) dNil))))) oAdd)))))
abbrev n_l_by_place : List Str := ["_law_thing", "_law_found"]
abbrev Wp_l_by_place : Prop := ∀ ds P, F_l_by_place ds P → t_l_by_place { nx := fun _ => P (.d .none), rt := fun r _ => P r } (startS n_l_by_place ds)
theorem wp_l_by_place : Wp_l_by_place := by
  rintro _ P ⟨d, rfl, p⟩
  unfold t_l_by_place
  simp! only [xMk]
  exact p
abbrev F_l_by_name : FP := F_l_by_place
theorem len_l_by_name : ∀ ds P, F_l_by_name ds P → ds.length = 1 := len_l_by_place
def t_l_by_name : ATS :=
  (aSeq (aAsg 1 (xLst (dCons (xMk "InvalidFraction" "given" (dCons (xVar 0) dNil)) (dCons (xMk "InvalidAmount" "given" (dCons (xVar 0) dNil)) (dCons (xMk "InvalidContent" "given" (dCons (xVar 0) dNil)) (dCons (xMk "InvalidNumber" "given" (dCons (xVar 0) dNil)) dNil))))))
    (aSeq (aAsg 1 (x2 (xVar 1) (xLst (dCons (xMk "InvalidIndex" "given" (dCons (xVar 0) dNil)) (dCons (xMk "InvalidKind" "given" (dCons (xVar 0) dNil)) (dCons (xMk "InvalidDensity" "given" (dCons (xVar 0) dNil)) (dCons (xMk "InvalidFlow" "given" (dCons (xVar 0) dNil)) dNil))))) oAdd))
    (aSeq (aAsg 1 (x2 (xVar 1) (xLst (dCons (xMk "InvalidPlace" "given" (dCons (xVar 0) dNil)) (dCons (xMk "InvalidMoment" "given" (dCons (xVar 0) dNil)) (dCons (xMk "InvalidSpeed" "given" (dCons (xVar 0) dNil)) (dCons (xMk "InvalidWay" "given" (dCons (xVar 0) dNil)) dNil))))) oAdd))
    (aSeq (aAsg 1 (x2 (xVar 1) (xLst (dCons (xMk "InvalidScene" "given" (dCons (xVar 0) dNil)) (dCons (xMk "InvalidCounts" "given" (dCons (xVar 0) dNil)) (dCons (xMk "InvalidRims" "given" (dCons (xVar 0) dNil)) (dCons (xMk "InvalidBook" "given" (dCons (xVar 0) dNil)) dNil))))) oAdd))
    (aSeq (aAsg 1 (x2 (xVar 1) (xLst (dCons (xMk "InvalidName" "given" (dCons (xVar 0) dNil)) (dCons (xMk "InvalidWish" "given" (dCons (xVar 0) dNil)) (dCons (xMk "InvalidPhrase" "given" (dCons (xVar 0) dNil)) (dCons (xMk "NotAWorkshop" "given" (dCons (xVar 0) dNil)) dNil))))) oAdd))
    (aRet (x2 (xVar 1) (xLst (dCons (xMk "UnknownName" "given" (dCons (xVar 0) dNil)) (dCons (xMk "TooMany" "given" (dCons (xVar 0) dNil)) dNil))) oAdd)))))))
abbrev n_l_by_name : List Str := ["_law_thing", "_law_found"]
abbrev Wp_l_by_name : Prop := ∀ ds P, F_l_by_name ds P → t_l_by_name { nx := fun _ => P (.d .none), rt := fun r _ => P r } (startS n_l_by_name ds)
theorem wp_l_by_name : Wp_l_by_name := by
  rintro _ P ⟨d, rfl, p⟩
  unfold t_l_by_name
  simp! only [xMk]
  exact p
def F_l_at_place : FP := fun ds P => ∃ d, ds = [d] ∧ P (.f (exIdx.map (ixn d)))
theorem len_l_at_place : ∀ ds P, F_l_at_place ds P → ds.length = 1 := by
  rintro _ _ ⟨d, rfl, _⟩
  rfl
def t_l_at_place : ATS :=
  (aSeq (aAsg 1 (xLst (dCons (xMk "InvalidBeginning" "index" (dCons (xVar 0) dNil)) (dCons (xMk "InvalidComings" "index" (dCons (xVar 0) dNil)) (dCons (xMk "InvalidBars" "index" (dCons (xVar 0) dNil)) (dCons (xMk "InvalidRow" "index" (dCons (xVar 0) dNil)) (dCons (xMk "InvalidMarks" "index" (dCons (xVar 0) dNil)) dNil)))))))
    (aRet (x2 (xVar 1) (xLst (dCons (xMk "InUse" "index" (dCons (xVar 0) dNil)) (dCons (xMk "Broken" "index" (dCons (xVar 0) dNil)) dNil))) oAdd)))
abbrev n_l_at_place : List Str := ["_law_thing", "_law_found"]
abbrev Wp_l_at_place : Prop := ∀ ds P, F_l_at_place ds P → t_l_at_place { nx := fun _ => P (.d .none), rt := fun r _ => P r } (startS n_l_at_place ds)
theorem wp_l_at_place : Wp_l_at_place := by
  rintro _ P ⟨d, rfl, p⟩
  unfold t_l_at_place
  simp! only [xMk]
  exact p
abbrev F_l_at_name : FP := F_l_at_place
theorem len_l_at_name : ∀ ds P, F_l_at_name ds P → ds.length = 1 := len_l_at_place
def t_l_at_name : ATS :=
  (aSeq (aAsg 1 (xLst (dCons (xMk "InvalidBeginning" "index" (dCons (xVar 0) dNil)) (dCons (xMk "InvalidComings" "index" (dCons (xVar 0) dNil)) (dCons (xMk "InvalidBars" "index" (dCons (xVar 0) dNil)) (dCons (xMk "InvalidRow" "index" (dCons (xVar 0) dNil)) dNil))))))
    (aRet (x2 (xVar 1) (xLst (dCons (xMk "InvalidMarks" "index" (dCons (xVar 0) dNil)) (dCons (xMk "InUse" "index" (dCons (xVar 0) dNil)) (dCons (xMk "Broken" "index" (dCons (xVar 0) dNil)) dNil)))) oAdd)))
abbrev n_l_at_name : List Str := ["_law_thing", "_law_found"]
abbrev Wp_l_at_name : Prop := ∀ ds P, F_l_at_name ds P → t_l_at_name { nx := fun _ => P (.d .none), rt := fun r _ => P r } (startS n_l_at_name ds)
theorem wp_l_at_name : Wp_l_at_name := by
  rintro _ P ⟨d, rfl, p⟩
  unfold t_l_at_name
  simp! only [xMk]
  exact p
/-! each is itself alone -/
def intY : PyData → Int
  | .int i => i
  | _ => 0
def aloneB (i : Nat) : Bool := match exAll[i]? with
  | some c => decide ((exAll.map fun x => excIs c x) = (List.range 32).map (fun k => k == i)) && decide (c ∈ exCs)
  | none => false
theorem alone_b : (List.range 32).all aloneB = true := by decide +kernel
theorem alone_all {i : Nat} (lt : i < 32) {c : Str} (e : exAll[i]? = some c) : (exAll.map fun x => excIs c x) = (List.range 32).map (fun k => k == i) ∧ c ∈ exCs := by
  have h := List.all_eq_true.mp alone_b i (List.mem_range.mpr lt)
  unfold aloneB at h
  rw [e] at h
  obtain ⟨h1, h2⟩ := Bool.and_eq_true_iff.mp h
  exact ⟨of_decide_eq_true h1, of_decide_eq_true h2⟩
def boolsAt (i : Nat) : PyData := .list (((List.range 32).map fun k => k == i).map PyData.bool)
def boolsB (i : Nat) : Bool := SeqAt.shaped (boolsAt i) && PyData.eqv (boolsAt i) (boolsAt i) && decide ((rngD 0 32).map (fun d => decide (intY d = (i : Int))) = (List.range 32).map fun k => k == i)
theorem bools_b : (List.range 32).all boolsB = true := by decide +kernel
theorem bools_ok {i : Nat} (lt : i < 32) : SeqAt.shaped (boolsAt i) = true ∧ PyData.eqv (boolsAt i) (boolsAt i) = true ∧ PyData.list ((rngD 0 32).map fun d => .bool (decide (intY d = (i : Int)))) = boolsAt i := by
  have h := List.all_eq_true.mp bools_b i (List.mem_range.mpr lt)
  unfold boolsB at h
  obtain ⟨h, h3⟩ := Bool.and_eq_true_iff.mp h
  obtain ⟨h1, h2⟩ := Bool.and_eq_true_iff.mp h
  refine ⟨h1, h2, ?_⟩
  unfold boolsAt
  rw [← of_decide_eq_true h3, List.map_map]
  rfl
theorem oNe_bools {i : Nat} (lt : i < 32) {k : Rv → Prop} : oNe (boolsAt i) (boolsAt i) k = k (.d (.bool false)) := by
  obtain ⟨h1, h2, _⟩ := bools_ok lt
  show (SeqAt.shaped (boolsAt i) = true ∧ SeqAt.shaped (boolsAt i) = true ∧ k (.d (.bool (!PyData.eqv (boolsAt i) (boolsAt i))))) = _
  rw [h1, h2]
  simp
theorem excIs_road {c : Str} : excIs c "RoadError" = true := by
  unfold excIs
  rw [show (("RoadError" : Str) == ("RoadError" : Str)) = true by decide +kernel]
  simp
def F_l_is_alone : FP := fun ds P => ∃ (c : Str) (d : PyData) (i : Nat), ds = [d, .int i] ∧ i < 32 ∧ exAll[i]? = some c ∧ IsExc c d ∧ P (.d (.bool true))
theorem len_l_is_alone : ∀ ds P, F_l_is_alone ds P → ds.length = 2 := by
  rintro _ _ ⟨c, d, i, rfl, _⟩
  rfl
def t_l_is_alone : ATS :=
  (aSeq (aIf (bOr (bV (x2 (xCall F_l_truths (dCons (xVar 0) dNil)) (xLc (wRng1 (xC (.int 32))) (.one 2) [2] bYes (x2 (xVar 2) (xVar 1) oEq)) oNe)) (bOr (bNot (bV (x1 (xVar 0) (oIsX exCs fun c => excIs c "RoadError")))) (bNot (bV (x1 (xVar 0) (oIsX exCs fun _ => true)))))) (aRet (xC (.bool false))) aNext)
    (aRet (xNot (x1 (xVar 0) (oIsX exCs fun _ => false)))))
abbrev n_l_is_alone : List Str := ["_law_e", "_law_at", "_law_k"]
abbrev Wp_l_is_alone : Prop := ∀ ds P, F_l_is_alone ds P → t_l_is_alone { nx := fun _ => P (.d .none), rt := fun r _ => P r } (startS n_l_is_alone ds)
theorem wp_l_is_alone : Wp_l_is_alone := by
  rintro _ P ⟨c, d, i, rfl, lt, e, h, p⟩
  obtain ⟨al, hc⟩ := alone_all lt e
  unfold t_l_is_alone
  simp! only [u_truths hc h, xLc_eq]
  refine ⟨⟨by decide, by decide⟩, lc_pure (fun d => .bool (decide (intY d = (i : Int)))) (by rw [rngD_len]; decide) (by simp [noM]) (fun d hd => ?_) ?_⟩
  · obtain ⟨j, hj⟩ := List.getElem?_of_mem hd
    obtain ⟨rfl, lt⟩ := rngD_get hj
    refine ⟨_, rfl, by simp, fun Q' q => ?_⟩
    simp only [putD, wipeS, List.set_cons_succ, List.set_cons_zero] at q
    simp! only []
    exact q
  · have e1 : PyData.list (tru1 exAll c) = boolsAt i := by
      unfold tru1 boolsAt
      rw [al]
    simp! only [oIsX_eq hc h, excIs_road, ifB_t, ifB_f]
    rw [e1, show Int.toNat 32 = 32 from rfl, (bools_ok lt).2.2, oNe_bools lt]
    simp! only [ifB_f]
    exact p
/-! four that are caught -/
def caughtD : PyData := .list [.list [.bool true, .bool false, .bool false], .list [.bool false, .bool true, .bool false], .list [.bool false, .bool false, .bool true], .list [.bool false, .bool false, .bool false]]
def caughtN : Nat → List PyData
  | 0 => []
  | 1 => [.list [.bool true, .bool false, .bool false]]
  | 2 => [.list [.bool true, .bool false, .bool false], .list [.bool false, .bool true, .bool false]]
  | 3 => [.list [.bool true, .bool false, .bool false], .list [.bool false, .bool true, .bool false], .list [.bool false, .bool false, .bool true]]
  | _ => [.list [.bool true, .bool false, .bool false], .list [.bool false, .bool true, .bool false], .list [.bool false, .bool false, .bool true], .list [.bool false, .bool false, .bool false]]
theorem catchOne {A : AEnds} {out : Ec → AS → Prop} {cl : Clause} {r : List Clause} {ec : Ec} {s : AS} (h : excIs ec.c cl.1 = true) (k : caughtBy cl A ec s) : catchR A out (cl :: r) ec s := by
  show (if excIs ec.c cl.1 = true then caughtBy cl A ec s else catchR A out r ec s)
  rw [if_pos h]
  exact k
theorem ex_a1 : excIs "InvalidScene" "InvalidScene" = true := by decide +kernel
theorem ex_a2 : excIs "InvalidScene" "InvalidBars" = false := by decide +kernel
theorem ex_a3 : excIs "InvalidScene" "NoneFits" = false := by decide +kernel
theorem ex_b1 : excIs "InvalidBars" "InvalidScene" = false := by decide +kernel
theorem ex_b2 : excIs "InvalidBars" "InvalidBars" = true := by decide +kernel
theorem ex_b3 : excIs "InvalidBars" "NoneFits" = false := by decide +kernel
theorem ex_c1 : excIs "NoneFits" "InvalidScene" = false := by decide +kernel
theorem ex_c2 : excIs "NoneFits" "InvalidBars" = false := by decide +kernel
theorem ex_c3 : excIs "NoneFits" "NoneFits" = true := by decide +kernel
theorem ex_d1 : excIs "RoadError" "InvalidScene" = false := by decide +kernel
theorem ex_d2 : excIs "RoadError" "InvalidBars" = false := by decide +kernel
theorem ex_d3 : excIs "RoadError" "NoneFits" = false := by decide +kernel
def F_l_caught : FP := fun ds P => ∃ d, ds = [d] ∧ P (.d (.list (caughtN 4)))
theorem len_l_caught : ∀ ds P, F_l_caught ds P → ds.length = 1 := by
  rintro _ _ ⟨d, rfl, _⟩
  rfl
def t_l_caught : XTS :=
  (xsSeq (xsB (aAsg 1 (xLst dNil)))
    (xsSeq (xsFor (wRng1 (xC (.int 4))) (gN 2) (xsSeq (xsB (aAsg 3 (xLst dNil)))
    (xsSeq (xsTry (xsOnly ["InvalidScene", "InvalidBars", "NoneFits", "RoadError"] (xsSeq (xsIf (bV (x2 (xVar 2) (xC (.int 0)) oEq)) (xsRaise "InvalidScene" "given" (dCons (xVar 0) dNil)) (xsB aNext))
    (xsSeq (xsIf (bV (x2 (xVar 2) (xC (.int 1)) oEq)) (xsRaise "InvalidBars" "index" (dCons (xVar 0) dNil)) (xsB aNext))
    (xsSeq (xsIf (bV (x2 (xVar 2) (xC (.int 2)) oEq)) (xsRaise0 "NoneFits") (xsB aNext))
    (xsRaise0 "RoadError"))))) [("RoadError", some 4, fun c a od => (aAsg 3 (xLst (dCons (xIsE c a od 4 (excIs c "InvalidScene")) (dCons (xIsE c a od 4 (excIs c "InvalidBars")) (dCons (xIsE c a od 4 (excIs c "NoneFits")) dNil))))))])
    (xsB (aApp (xVar 1) (xVar 3))))))
    (xsB (aRet (xVar 1)))))
abbrev n_l_caught : List Str := ["_law_thing", "_law_found", "_law_at", "_law_told", "_law_e"]
abbrev Wp_l_caught : Prop := ∀ ds P, F_l_caught ds P → t_l_caught { nx := fun _ => P (.d .none), rt := fun r _ => P r, ex := fun _ _ => False } (startS n_l_caught ds)
theorem wp_l_caught : Wp_l_caught := by
  rintro _ P ⟨d, rfl, p⟩
  unfold t_l_caught
  simp! only [xsFor]
  refine ⟨⟨by decide, by decide⟩, fun i s => i ≤ 4 ∧ ∃ a b, s = [Sl.d d, Sl.m false (caughtN i), a, b, Sl.no], ⟨by decide, _, _, rfl⟩, ?_, ?_⟩
  · rintro i _ _ e ⟨_, a, b, rfl⟩
    obtain ⟨rfl, lt⟩ := rngD_get e
    have lt : i < 4 := lt
    have ci : i = 0 ∨ i = 1 ∨ i = 2 ∨ i = 3 := by omega
    rcases ci with rfl | rfl | rfl | rfl
    · simp! only [xsTry, xsOnly, xsRaise0]
      show ifB true _ _
      rw [ifB_t]
      refine ⟨by show ("InvalidScene" : Str) ∈ _; decide +kernel, catchOne excIs_road ⟨by show 4 < 5; decide, fun a d => ?_⟩⟩
      simp! only [goneA, heldS]
      refine ⟨⟨_, rfl⟩, ?_⟩
      simp! only []
      refine ⟨⟨_, rfl⟩, ?_⟩
      simp! only []
      refine ⟨⟨_, rfl⟩, ?_⟩
      simp! only [ex_a1, ex_a2, ex_a3]
      exact ⟨Nat.le_of_ble_eq_true rfl, _, _, rfl⟩
    · simp! only [xsTry, xsOnly, xsRaise0]
      show ifB false _ (ifB true _ _)
      rw [ifB_f, ifB_t]
      refine ⟨by show ("InvalidBars" : Str) ∈ _; decide +kernel, catchOne excIs_road ⟨by show 4 < 5; decide, fun a d => ?_⟩⟩
      simp! only [goneA, heldS]
      refine ⟨⟨_, rfl⟩, ?_⟩
      simp! only []
      refine ⟨⟨_, rfl⟩, ?_⟩
      simp! only []
      refine ⟨⟨_, rfl⟩, ?_⟩
      simp! only [ex_b1, ex_b2, ex_b3]
      exact ⟨Nat.le_of_ble_eq_true rfl, _, _, rfl⟩
    · simp! only [xsTry, xsOnly, xsRaise0]
      show ifB false _ (ifB false _ (ifB true _ _))
      rw [ifB_f, ifB_f, ifB_t]
      refine ⟨by show ("NoneFits" : Str) ∈ _; decide +kernel, catchOne excIs_road ⟨by show 4 < 5; decide, fun a => ?_⟩⟩
      simp! only [goneA, heldS]
      refine ⟨⟨[], rfl, rfl⟩, ?_⟩
      simp! only []
      refine ⟨⟨[], rfl, rfl⟩, ?_⟩
      simp! only []
      refine ⟨⟨[], rfl, rfl⟩, ?_⟩
      simp! only [ex_c1, ex_c2, ex_c3]
      exact ⟨Nat.le_of_ble_eq_true rfl, _, _, rfl⟩
    · simp! only [xsTry, xsOnly, xsRaise0]
      show ifB false _ (ifB false _ (ifB false _ _))
      rw [ifB_f, ifB_f, ifB_f]
      refine ⟨by show ("RoadError" : Str) ∈ _; decide +kernel, catchOne excIs_road ⟨by show 4 < 5; decide, fun a => ?_⟩⟩
      simp! only [goneA, heldS]
      refine ⟨⟨[], rfl, rfl⟩, ?_⟩
      simp! only []
      refine ⟨⟨[], rfl, rfl⟩, ?_⟩
      simp! only []
      refine ⟨⟨[], rfl, rfl⟩, ?_⟩
      simp! only [ex_d1, ex_d2, ex_d3]
      exact ⟨Nat.le_of_ble_eq_true rfl, _, _, rfl⟩
  · rintro _ ⟨_, a, b, rfl⟩
    simp! only []
    exact p
end DL

namespace DL
open PySem PySem.Spec PyProof.Rows L2
local instance tbNYB : Tb := ⟨[], fun _ => ""⟩
/-! ### the law of errors -/
theorem u_by_place {d : PyData} {P : Rv → Prop} : F_l_by_place [d] P = P (.f (exFirst.map (gvn d))) := propext ⟨fun ⟨_, e, q⟩ => by cases e; exact q, fun q => ⟨d, rfl, q⟩⟩
theorem u_by_name {d : PyData} {P : Rv → Prop} : F_l_by_name [d] P = P (.f (exFirst.map (gvn d))) := u_by_place
theorem u_at_place {d : PyData} {P : Rv → Prop} : F_l_at_place [d] P = P (.f (exIdx.map (ixn d))) := propext ⟨fun ⟨_, e, q⟩ => by cases e; exact q, fun q => ⟨d, rfl, q⟩⟩
theorem u_at_name {d : PyData} {P : Rv → Prop} : F_l_at_name [d] P = P (.f (exIdx.map (ixn d))) := u_at_place
theorem u_caught {d : PyData} {P : Rv → Prop} : F_l_caught [d] P = P (.d (.list (caughtN 4))) := propext ⟨fun ⟨_, e, q⟩ => q, fun q => ⟨d, rfl, q⟩⟩
theorem u_alone {c : Str} {d : PyData} {i : Nat} {P : Rv → Prop} (lt : i < 32) (e : exAll[i]? = some c) (h : IsExc c d) : F_l_is_alone [d, .int i] P = P (.d (.bool true)) :=
  propext ⟨fun ⟨_, _, _, _, _, _, _, q⟩ => q, fun q => ⟨c, d, i, rfl, lt, e, h, q⟩⟩
theorem oAtt_eq {c n : Str} {g : PyData} {k : Rv → Prop} (hc : c ∈ exCs) : oAtt exCs n (exvD c [(.str n, g)]) k = k (.d g) := by
  have f : fldD n [(.str n, g)] = some g := by
    show (if n = n then some g else none) = some g
    rw [if_pos rfl]
  refine propext ⟨fun ⟨c', ds, g', _, e, hf, q⟩ => ?_, fun q => ⟨c, _, g, hc, rfl, f, q⟩⟩
  simp only [exvD, PyData.dict.injEq, List.cons.injEq, Prod.mk.injEq, PyData.tuple.injEq, PyData.str.injEq, and_true, true_and] at e
  rw [← e.2, f] at hf
  cases hf
  exact q
theorem oIx_at {xs : List PyData} {j : Nat} {x : PyData} {k : Rv → Prop} (h : xs[j]? = some x) : oIx (.list xs) (.int (j : Int)) k = k (.d x) := by
  rw [oIx_lO, ixD_n, h, onO_s]
theorem filt_no {l : List PyData} : (l.filter fun _ => false) = [] := by simp
def exBare : List Str := ("NoStep" : Str) :: ("NoneFits" : Str) :: ("NothingToUndo" : Str) :: []
/-- where each stands -/
def firstB (j : Nat) : Bool := match exFirst[j]? with
  | some c => decide (exAll[j]? = some c) && decide (c ∈ exCs)
  | none => false
def idxB (j : Nat) : Bool := match exIdx[j]? with
  | some c => decide (exAll[j + 22]? = some c) && decide (c ∈ exCs)
  | none => false
theorem first_b : (List.range 22).all firstB = true := by decide +kernel
theorem idx_b : (List.range 7).all idxB = true := by decide +kernel
theorem first_at {j : Nat} (lt : j < 22) : ∃ c, exFirst[j]? = some c ∧ exAll[j]? = some c ∧ c ∈ exCs := by
  have h := List.all_eq_true.mp first_b j (List.mem_range.mpr lt)
  unfold firstB at h
  split at h
  · next c e =>
    obtain ⟨h1, h2⟩ := Bool.and_eq_true_iff.mp h
    exact ⟨c, e, of_decide_eq_true h1, of_decide_eq_true h2⟩
  · cases h
theorem idx_at {j : Nat} (lt : j < 7) : ∃ c, exIdx[j]? = some c ∧ exAll[j + 22]? = some c ∧ c ∈ exCs := by
  have h := List.all_eq_true.mp idx_b j (List.mem_range.mpr lt)
  unfold idxB at h
  split at h
  · next c e =>
    obtain ⟨h1, h2⟩ := Bool.and_eq_true_iff.mp h
    exact ⟨c, e, of_decide_eq_true h1, of_decide_eq_true h2⟩
  · cases h
def bareB (j : Nat) : Bool := match exBare[j]? with
  | some c => decide (exAll[j + 29]? = some c) && decide (c ∈ exCs)
  | none => false
theorem bare_b : (List.range 3).all bareB = true := by decide +kernel
theorem bare_at {j : Nat} (lt : j < 3) : ∃ c, exBare[j]? = some c ∧ exAll[j + 29]? = some c ∧ c ∈ exCs := by
  have h := List.all_eq_true.mp bare_b j (List.mem_range.mpr lt)
  unfold bareB at h
  split at h
  · next c e =>
    obtain ⟨h1, h2⟩ := Bool.and_eq_true_iff.mp h
    exact ⟨c, e, of_decide_eq_true h1, of_decide_eq_true h2⟩
  · cases h
theorem road_in : ("RoadError" : Str) ∈ exCs := by decide +kernel
theorem road_no : ((exAll.map fun x => excIs "RoadError" x).any fun y => y == true) = false := by decide +kernel
theorem caught_eq : (SeqAt.shaped caughtD && PyData.eqv caughtD caughtD) = true := by decide +kernel
theorem oEq_caught {k : Rv → Prop} (h : k (.d (.bool true))) : oEq caughtD caughtD k := by
  obtain ⟨h1, h2⟩ := Bool.and_eq_true_iff.mp caught_eq
  refine ⟨h1, h1, ?_⟩
  rw [h2]
  exact h
def F_l_right : FM := fun xs ds P => ∃ m : Nat, Spr m xs ∧ ds = [] ∧ m ≤ 1000 ∧ ∀ ys, P (.d (.bool true)) ys
theorem len_l_right : ∀ xs ds P, F_l_right xs ds P → ds.length + 1 = 1 := by
  rintro _ _ _ ⟨m, _, rfl, _⟩
  rfl
def t_l_right : ATS :=
  (aSeq (aAsg 1 (xCallM F_l_pick (xVar 0) (dCons (xLst (dCons (xCallM F_l_odd (xVar 0) dNil) (dCons (xCallM F_l_fraction (xVar 0) dNil) (dCons (xCallM F_l_draw (xVar 0) (dCons (x2 (xC (.int 10)) (xC (.int 9)) oPow) dNil)) (dCons (xTup (dCons (xC (.str "a")) (dCons (xLst (dCons (xCallM F_l_odd (xVar 0) dNil) dNil)) dNil))) dNil))))) dNil)))
    (aSeq (aAsg 2 (x1 (xVar 1) oReprD))
    (aSeq (aFor (wSeq (xLst (dCons (xCall F_l_by_place (dCons (xVar 1) dNil)) (dCons (xCall F_l_by_name (dCons (xVar 1) dNil)) dNil)))) (gN 3) (aIf (bV (x2 (xLc (wRng1 (x1 (xVar 3) oLen)) (.one 4) [4] (bOr (bV (x2 (x1 (x1 (x2 (xVar 3) (xVar 4) oIx) (oAtt exCs "given")) oReprD) (xVar 2) oNe)) (bNot (bV (xCall F_l_is_alone (dCons (x2 (xVar 3) (xVar 4) oIx) (dCons (xVar 4) dNil)))))) (xVar 4)) (xLst dNil) oNeZ)) (aRet (xC (.bool false))) aNext))
    (aSeq (aFor (wSeq (xLst (dCons (xCall F_l_at_place (dCons (xVar 1) dNil)) (dCons (xCall F_l_at_name (dCons (xVar 1) dNil)) dNil)))) (gN 3) (aIf (bV (x2 (xLc (wRng1 (x1 (xVar 3) oLen)) (.one 4) [4] (bOr (bV (x2 (x1 (x1 (x2 (xVar 3) (xVar 4) oIx) (oAtt exCs "index")) oReprD) (xVar 2) oNe)) (bNot (bV (xCall F_l_is_alone (dCons (x2 (xVar 3) (xVar 4) oIx) (dCons (x2 (xVar 4) (xC (.int 22)) oAdd) dNil)))))) (xVar 4)) (xLst dNil) oNeZ)) (aRet (xC (.bool false))) aNext))
    (aSeq (aAsg 5 (xLst (dCons (xMk0 "NoStep") (dCons (xMk0 "NoneFits") (dCons (xMk0 "NothingToUndo") dNil)))))
    (aSeq (aIf (bOr (bV (x2 (xLc (wRng1 (xC (.int 3))) (.one 4) [4] (bNot (bV (xCall F_l_is_alone (dCons (x2 (xVar 5) (xVar 4) oIx) (dCons (x2 (xVar 4) (xC (.int 29)) oAdd) dNil))))) (xVar 4)) (xLst dNil) oNeZ)) (bV (x2 (xC (.bool true)) (xCall F_l_truths (dCons (xMk0 "RoadError") dNil)) oInB))) (aRet (xC (.bool false))) aNext)
    (aSeq (aAsg 6 (xLst (dCons (xLst (dCons (xC (.bool true)) (dCons (xC (.bool false)) (dCons (xC (.bool false)) dNil)))) (dCons (xLst (dCons (xC (.bool false)) (dCons (xC (.bool true)) (dCons (xC (.bool false)) dNil)))) (dCons (xLst (dCons (xC (.bool false)) (dCons (xC (.bool false)) (dCons (xC (.bool true)) dNil)))) (dCons (xLst (dCons (xC (.bool false)) (dCons (xC (.bool false)) (dCons (xC (.bool false)) dNil)))) dNil))))))
    (aRet (xAnd (x2 (xCall F_l_caught (dCons (xVar 1) dNil)) (xVar 6) oEq) (xAnd (x1 (xMk0 "RoadError") (oIsX exCs fun _ => true)) (x2 (x1 (xVar 1) oReprD) (xVar 2) oEq)))))))))))
abbrev n_l_right : List Str := ["_law_spring_here", "_law_thing", "_law_told", "_law_some", "_law_at", "_law_bare", "_law_due"]
abbrev Wp_l_right : Prop := ∀ xs ds P, F_l_right xs ds P → t_l_right { nx := fun s => ∃ ys, s[0]? = some (Sl.m true ys) ∧ P (.d .none) ys, rt := fun r s => ∃ ys, s[0]? = some (Sl.m true ys) ∧ P r ys } (startM n_l_right xs ds)
theorem wp_l_right : Wp_l_right := by
  rintro xs _ P ⟨m, spr, rfl, hm, h⟩
  unfold t_l_right
  refine seq_gen (fun s => ∃ (d : PyData) (ys : List PyData), s = [Sl.m true ys, .d d, .no, .no, .no, .no, .no] ∧ Nc 300 100 12 d) (fun R hR => ?_) ?_
  · simp! only []
    refine ⟨m, spr, rfl, by omega, fun d1 y1 n1 s1 => ?_⟩
    simp! only []
    refine ⟨m + 1, s1, rfl, by omega, fun q y2 sq _ s2 => ?_⟩
    simp! only []
    refine ⟨by decide, ?_⟩
    simp! only []
    refine u_draw s2 (by omega) (by decide) (by decide) fun r y3 r0 r1 s3 => ?_
    simp! only []
    refine ⟨_, s3, rfl, by omega, fun d4 y4 n4 s4 => ?_⟩
    simp! only []
    refine ⟨_, _, s4, Or.inl rfl, ⟨by omega, by simp, by simp⟩, fun z y5 hz s5 => ?_⟩
    simp! only []
    refine hR _ ⟨z, y5, rfl, ?_⟩
    have na : Nc 300 10 8 (.str "a") := ⟨by decide, by decide, by decide⟩
    have n2 : Nc 300 100 2 (fr q) := (Nc.fr (e := 1) (by omega)).mono (Nat.le_refl _) (by decide) (by decide)
    have r2 : r < 1000000000 := r1
    have n3 : Nc 300 100 2 (.int r) := (Nc.int (e := 2) (Nat.le_trans (sI_le (n := r) (k := 30) (by omega) (by decide)) (by decide))).mono (Nat.le_refl _) (by decide) (by decide)
    simp only [List.mem_cons, List.not_mem_nil, or_false] at hz
    rcases hz with rfl | rfl | rfl | rfl
    · exact n1.mono (by decide) (by decide) (by decide)
    · exact n2.mono (by decide) (by decide) (by decide)
    · exact n3.mono (by decide) (by decide) (by decide)
    · exact (NcL.cons na (NcL.cons (NcL.cons (n4.mono (b' := 300) (n' := 40) (e' := 7) (by decide) (by decide) (by decide)) (NcL.nil (n := 0))).list (NcL.nil (n := 0)))).tuple.mono (by decide) (by decide) (by decide)
  rintro _ ⟨d, ys, rfl, nd⟩
  have rp := nd.ok (by decide) (by decide) (by decide)
  refine seq_gen (fun s => s = [Sl.m true ys, .d d, .d (.str d.shown), .no, .no, .no, .no]) (fun R hR => ?_) ?_
  · simp! only []
    refine ⟨rp, ?_⟩
    simp! only []
    exact hR _ rfl
  rintro _ rfl
  refine seq_gen (fun s => ∃ a, s = [Sl.m true ys, .d d, .d (.str d.shown), a, .no, .no, .no]) (fun R hR => ?_) ?_
  · simp! only [aFor, u_by_place, u_by_name]
    refine ⟨fun _ s => ∃ a, s = [Sl.m true ys, .d d, .d (.str d.shown), a, .no, .no, .no], ⟨_, rfl⟩, ?_, ?_⟩
    · rintro i x _ hx ⟨a, rfl⟩
      have ex : x = .list (exFirst.map (gvn d)) := by
        have := List.mem_of_getElem? hx
        simpa using this
      subst ex
      have fl : ((exFirst.length : Nat) : Int) = 22 := by decide +kernel
      simp! only [xLc_eq]
      rw [fl]
      refine ⟨by decide, lc_filt (fun _ => false) (fun d => d) (by rw [rngD_len]; decide) (by simp [noM]) (fun x hx => ?_) ?_⟩
      · obtain ⟨j, hj⟩ := List.getElem?_of_mem hx
        obtain ⟨rfl, lt⟩ := rngD_get hj
        obtain ⟨c, c1, c2, c3⟩ := first_at (j := j) lt
        have hl : (exFirst.map (gvn d))[j]? = some (exvD c [(.str "given", d)]) := by
          rw [List.getElem?_map, c1]
          rfl
        refine ⟨_, rfl, by simp, fun R' q => ?_, fun z => nomatch z⟩
        simp only [putD, wipeS, List.set_cons_succ, List.set_cons_zero] at q
        rw [Int.zero_add] at q
        simp! only [Int.zero_add, oIx_at hl, oAtt_eq c3]
        refine ⟨rp, ?_⟩
        simp! only [oIx_at hl, u_alone (Nat.lt_trans lt (by decide)) c2 (Or.inr ⟨_, rfl⟩), decide_true, ifB_f]
        exact q
      · rw [filt_no]
        refine ⟨_, rfl, rfl, ?_⟩
        simp! only [ifB_f]
        exact ⟨_, rfl⟩
    · rintro _ ⟨a, rfl⟩
      exact hR _ ⟨a, rfl⟩
  rintro _ ⟨a, rfl⟩
  refine seq_gen (fun s => ∃ a, s = [Sl.m true ys, .d d, .d (.str d.shown), a, .no, .no, .no]) (fun R hR => ?_) ?_
  · simp! only [aFor, u_at_place, u_at_name]
    refine ⟨fun _ s => ∃ a, s = [Sl.m true ys, .d d, .d (.str d.shown), a, .no, .no, .no], ⟨_, rfl⟩, ?_, ?_⟩
    · rintro i x _ hx ⟨a, rfl⟩
      have ex : x = .list (exIdx.map (ixn d)) := by
        have := List.mem_of_getElem? hx
        simpa using this
      subst ex
      have fl : ((exIdx.length : Nat) : Int) = 7 := by decide +kernel
      simp! only [xLc_eq]
      rw [fl]
      refine ⟨by decide, lc_filt (fun _ => false) (fun d => d) (by rw [rngD_len]; decide) (by simp [noM]) (fun x hx => ?_) ?_⟩
      · obtain ⟨j, hj⟩ := List.getElem?_of_mem hx
        obtain ⟨rfl, lt⟩ := rngD_get hj
        obtain ⟨c, c1, c2, c3⟩ := idx_at (j := j) lt
        have hl : (exIdx.map (ixn d))[j]? = some (exvD c [(.str "index", d)]) := by
          rw [List.getElem?_map, c1]
          rfl
        have lt' : j < 7 := lt
        refine ⟨_, rfl, by simp, fun R' q => ?_, fun z => nomatch z⟩
        simp only [putD, wipeS, List.set_cons_succ, List.set_cons_zero] at q
        rw [Int.zero_add] at q
        simp! only [Int.zero_add, oIx_at hl, oAtt_eq c3]
        refine ⟨rp, ?_⟩
        have ea : ((j : Int) + 22) = ((j + 22 : Nat) : Int) := by omega
        simp! only [oIx_at hl, decide_true, ifB_f, ea, u_alone (show j + 22 < 32 by omega) c2 (Or.inr ⟨_, rfl⟩)]
        exact q
      · rw [filt_no]
        refine ⟨_, rfl, rfl, ?_⟩
        simp! only [ifB_f]
        exact ⟨_, rfl⟩
    · rintro _ ⟨a, rfl⟩
      exact hR _ ⟨a, rfl⟩
  rintro _ ⟨a, rfl⟩
  simp! only [xMk0, xLc_eq]
  refine ⟨by decide, lc_filt (fun _ => false) (fun d => d) (by rw [rngD_len]; decide) (by simp [noM]) (fun x hx => ?_) ?_⟩
  · obtain ⟨j, hj⟩ := List.getElem?_of_mem hx
    obtain ⟨rfl, lt⟩ := rngD_get hj
    obtain ⟨c, c1, c2, c3⟩ := bare_at (j := j) lt
    have hl : [exwD "NoStep", exwD "NoneFits", exwD "NothingToUndo"][j]? = some (exwD c) := by
      show (exBare.map exwD)[j]? = _
      rw [List.getElem?_map, c1]
      rfl
    have lt' : j < 3 := lt
    refine ⟨_, rfl, by simp, fun R' q => ?_, fun z => nomatch z⟩
    simp only [putD, wipeS, List.set_cons_succ, List.set_cons_zero] at q
    rw [Int.zero_add] at q
    have ea : ((j : Int) + 29) = ((j + 29 : Nat) : Int) := by omega
    simp! only [Int.zero_add, oIx_at hl, ea, u_alone (show j + 29 < 32 by omega) c2 (Or.inl rfl)]
    exact q
  · rw [filt_no]
    refine ⟨_, rfl, rfl, ?_⟩
    simp! only [ifB_f, u_truths road_in (Or.inl rfl)]
    refine ⟨true, _, rfl, rfl, ?_⟩
    rw [road_no]
    simp! only [ifB_f, u_caught]
    refine oEq_caught ?_
    simp! only [oIsX_eq road_in (Or.inl rfl)]
    refine ⟨rp, ?_⟩
    simp! only [decide_true]
    exact ⟨_, rfl, h _⟩
def F_p_law : FP := fun ds P => ∃ ns : List Int, ds = [scr ns] ∧ ns.length ≤ 63 ∧ P (.d (.bool true))
theorem len_p_law : ∀ ds P, F_p_law ds P → ds.length = 1 := by
  rintro _ _ ⟨ns, rfl, _⟩
  rfl
def t_p_law : ATS :=
  (aRet (x1 (xLc (wRng1 (x2 (xC (.int 3)) (x2 (x1 (xVar 0) oLen) (xC (.int 9)) oMin) oMax)) (.one 1) [1] bYes (xCallM F_l_right (xCall F_l_spring (dCons (xVar 0) (dCons (xVar 1) dNil))) dNil)) oAll))
abbrev n_p_law : List Str := ["_law_script", "_law_turn"]
abbrev Wp_p_law : Prop := ∀ ds P, F_p_law ds P → t_p_law { nx := fun _ => P (.d .none), rt := fun r _ => P r } (startS n_p_law ds)
theorem wp_p_law : Wp_p_law := by
  rintro _ P ⟨ns, rfl, few, h⟩
  unfold t_p_law
  simp! only [xLc_eq, scr]
  have b : (3 : Int) ≤ (if (if (9 : Int) < (ns.length : Int) then (9 : Int) else (ns.length : Int)) > 3 then (if (9 : Int) < (ns.length : Int) then (9 : Int) else (ns.length : Int)) else 3) ∧ (if (if (9 : Int) < (ns.length : Int) then (9 : Int) else (ns.length : Int)) > 3 then (if (9 : Int) < (ns.length : Int) then (9 : Int) else (ns.length : Int)) else 3) ≤ 9 := by
    split <;> split <;> omega
  generalize (if (if (9 : Int) < (ns.length : Int) then (9 : Int) else (ns.length : Int)) > 3 then (if (9 : Int) < (ns.length : Int) then (9 : Int) else (ns.length : Int)) else 3) = n at b
  refine ⟨⟨by omega, by omega⟩, lc_pure (fun _ => .bool true) (by rw [rngD_len]; omega) (by simp [noM]) (fun d hd => ?_) ?_⟩
  · obtain ⟨i, hi⟩ := List.getElem?_of_mem hd
    obtain ⟨rfl, lt⟩ := rngD_get hi
    refine ⟨_, rfl, by simp, fun Q' q => ?_⟩
    simp only [putD, wipeS, List.set_cons_succ, List.set_cons_zero] at q
    simp! only []
    refine u_l_spring (ns := ns) ⟨few, by omega, by omega⟩ fun xs sp => ?_
    simp! only []
    refine ⟨0, sp, rfl, by decide, fun ys => ?_⟩
    simp! only []
    exact q
  · simp! only []
    refine oAll_b (f := fun _ => true) ?_
    simp! only []
    rw [show (rngD 0 n.toNat).all (fun _ => true) = true by rw [List.all_eq_true]; intros; rfl]
    exact h
end DL

namespace DL
open PySem PySem.Spec PyProof.Rows L2
variable [Tb]
/-! ### the end -/
section
variable {P : Program} {w : World} {K : PySem.W.Frag} {h : Heap} {mg : Str → Option Value} {x : Str}
theorem defK_mk {st : Stmt} {f : Addr} {od an : Option Addr} {sl : Array (Option Value)} {oc kV dc pm cd ct : Value} (a : PySem.W.nsIn K mainGlobals x = some (some (.ref f))) (l : K.lookup f = some ⟨oc, od, .func (PySem.W.fnOf x x (defArgs st) (defBody st) (defScope st) .none kV dc pm an cd ct), sl⟩) (c : PySem.W.codeIn K cd x = true) (k : PySem.W.keepIn K (.ref f) = true) : DefK K x st := ⟨f, od, an, sl, oc, kV, dc, pm, cd, ct, a, l, c, k⟩
theorem HasP.fin {st : Stmt} {F : FP} {k : Nat} {fa : Addr} {y : Str} (D : DefK K x st) (X : K.In h) (G : h.Ns mainGlobals mg) (hmg : mg x = some (.ref fa)) {Cd : Heap → Prop} (H : ∀ base, Cd base → HasP P w K mg base k x [y] F) (b : BindsAll x st [y]) :
    ∃ fd : FuncData, (∀ (s : Shared) (u : Value), BindsTo s fd ⟨[u], []⟩ [(y, u)]) ∧ ∀ base : Heap, K.In base → base.Ns mainGlobals mg → Cd base → FnG P w K mg base CX0 k fa fd [y] (SpP K F) := by
  obtain ⟨f', od, an, sl, oc, kV, dc, pm, cd, ct, e1, e2, e3, e4⟩ := D
  have e5 := PySem.W.mg_of X G e1
  rw [hmg] at e5
  cases e5
  refine ⟨_, fun s u => BindsTo.of_eq (b kV dc pm an cd ct [u] rfl), fun base _ _ cd' => ?_⟩
  obtain ⟨f, fd, G1, h1, h2, h3, q, s2, FF⟩ := H base cd'
  rw [hmg] at h1
  cases h1
  obtain ⟨oc2, od2, kV2, doc2, pm2, an2, cdv2, ct2, osl2, z1, z2, z3⟩ := FF.ex
  rw [e2] at z2
  obtain rfl : PySem.W.fnOf x x (defArgs st) (defBody st) (defScope st) .none kV dc pm an cd ct = fd := by
    have := congrArg Obj.data (Option.some.inj z2)
    exact PySem.Data.func.inj this
  exact G1
theorem law_sp {F : FP} {H : Hp} {a : Addr} {ns : List Int} (ts : ∀ P ∈ Tb.ts, H P = some (.tbl #[])) (S : SqL K H a (ns.map V.int)) (hF : ∀ P : Rv → Prop, P (.d (.bool true)) → F [scr ns] P) : SpP K F [.ref a] H (fun v _ => v = .bl true) fun _ _ _ => False :=
  ⟨H, [scr ns], fun r => r = .d (.bool true), Sub.strict (fun P m => LamX.TabS.nil (ts P m)) (fun _ _ e => e), .cons (.scr S) .nil, hF _ rfl, fun r v B' H' e nw => by
    subst e
    cases nw.2
    rfl⟩
end
end DL

namespace DL
open PySem PySem.Spec PyProof.Rows L2
/-! ### the text of the program -/
def topS (i : Nat) : Stmt := PySem.Challenge.pw_roadwaves_k01_errors_each_of_its_own.main.body.getD i (.Pass ⟨0, 0, 0, 0⟩)
section
variable [Tb]
variable {P : Program} {w : World} {K : PySem.W.Frag} {h : Heap} {mg : Str → Option Value} {base : Heap}
abbrev s_l_spring : Stmt := topS 35
theorem sc_l_spring : FnScope ["_law_script", "_law_turn", "_law_own", "_law_stirred", "_law_cell"] ["_law_script", "_law_turn"] (defScope s_l_spring) := ⟨rfl, rfl, rfl, by decide +kernel, rfl, by decide +kernel, by decide +kernel⟩
theorem h_l_spring (D : DefK K "_law_spring" s_l_spring) (X : K.In h) (G : h.Ns mainGlobals mg) (z_len : mg "len" = none) (z_int : mg "int" = none) (z_sum : mg "sum" = none) (z_abs : mg "abs" = none) :
    HasP P w K mg base 1 "_law_spring" ["_law_script", "_law_turn"] F_l_spring :=
  HasP.of (N := ["_law_script", "_law_turn", "_law_own", "_law_stirred", "_law_cell"]) (t := t_l_spring) D X G (fun _ _ _ _ _ _ us hl => match us, hl with | [_, _], _ => rfl) sc_l_spring len_l_spring (fun f cdv A outer s H E room => (as_cons (as_set (i := 2) sc_l_spring.nd rfl (by first | exact Or.inl rfl | exact Or.inr rfl) (ae_if (ab_cmpC c_lt (av 1) (ae_len (by rfl) z_len (av 0))) (ae_callint (by rfl) z_int (ae_ix (av 0) (av 1))) (ae_add (ae_add (ae_mul ae_int (av 1)) ae_int) (ae_mod (ae_callint (by rfl) z_int (ae_sum rfl (by rfl) z_sum (ae_sl (av 0) ao_no (ao_so ae_int)))) ae_int))))
    (as_cons (as_set (i := 3) sc_l_spring.nd rfl (by first | exact Or.inl rfl | exact Or.inr rfl) (ae_add ae_int (ae_mul ae_int (av 1))))
    (as_cons (as_for PassesOwn.never rfl (ai_seq (ae_add (ae_sl (av 0) ao_no (ao_so ae_int)) (ae_lst (ad_cons (av 2) ad_nil)))) (ag_name sc_l_spring.nd rfl (by first | exact Or.inl rfl | exact Or.inr rfl)) (as_one (as_set (i := 3) sc_l_spring.nd rfl (by first | exact Or.inl rfl | exact Or.inr rfl) (ae_mod (ae_callint (by rfl) z_int (ae_add (ae_add (ae_mul (av 3) ae_int) (ae_mod (ae_callint (by rfl) z_int (av 4)) ae_int)) ae_int)) ae_int))))
    (as_one (as_ret (ae_lst (ad_cons (ae_if (ab_w (aw_or (ab_cmpC c_lt (av 2) ae_int) (aw_or1 (ab_cmpC c_ge (av 2) (ae_pow ae_int ae_int))))) (ae_abs (by rfl) z_abs (av 2)) ae_int) (ad_cons (av 3) (ad_cons ae_int ad_nil)))))))))) wp_l_spring
abbrev s_l_draw : Stmt := topS 36
theorem sc_l_draw : FnScope ["_law_spring_here", "_law_many", "_law_digit"] ["_law_spring_here", "_law_many"] (defScope s_l_draw) := ⟨rfl, rfl, rfl, by decide +kernel, rfl, by decide +kernel, by decide +kernel⟩
theorem h_l_draw (D : DefK K "_law_draw" s_l_draw) (X : K.In h) (G : h.Ns mainGlobals mg) (z_int : mg "int" = none) :
    HasM P w K mg base 1 "_law_draw" ["_law_spring_here", "_law_many"] F_l_draw :=
  HasM.of (N := ["_law_spring_here", "_law_many", "_law_digit"]) (t := t_l_draw) D X G (fun _ _ _ _ _ _ us hl => match us, hl with | [_, _], _ => rfl) sc_l_draw len_l_draw (fun f cdv A outer s H E room => (as_cons (as_if (ab_cmpC c_gt (ae_ix (av 0) ae_int) ae_int) (as_cons (as_set (i := 2) sc_l_draw.nd rfl (by first | exact Or.inl rfl | exact Or.inr rfl) (ae_mod (ae_callint (by rfl) z_int (ae_ix (av 0) ae_int)) (av 1)))
    (as_cons (as_sub (ae_div (ae_callint (by rfl) z_int (ae_ix (av 0) ae_int)) (av 1)) (pg_sub (av 0) ae_int set_list))
    (as_one (as_ret (av 2))))) as_nil)
    (as_cons (as_sub (ae_add (ae_ix (av 0) ae_int) ae_int) (pg_sub (av 0) ae_int set_list))
    (as_cons (as_sub (ae_mod (ae_callint (by rfl) z_int (ae_add (ae_add (ae_mul (ae_ix (av 0) ae_int) (ae_add ae_int (ae_mul ae_int (ae_ix (av 0) ae_int)))) (ae_mul ae_int (ae_ix (av 0) ae_int))) ae_int)) ae_int) (pg_sub (av 0) ae_int set_list))
    (as_one (as_ret (ae_mod (ae_callint (by rfl) z_int (ae_div (ae_ix (av 0) ae_int) ae_int)) (av 1)))))))) wp_l_draw
abbrev s_l_pick : Stmt := topS 37
theorem sc_l_pick : FnScope ["_law_spring_here", "_law_some"] ["_law_spring_here", "_law_some"] (defScope s_l_pick) := ⟨rfl, rfl, rfl, by decide +kernel, rfl, by decide +kernel, by decide +kernel⟩
theorem h_l_pick (D : DefK K "_law_pick" s_l_pick) (X : K.In h) (G : h.Ns mainGlobals mg) (h_l_draw : HasM P w K mg base 1 "_law_draw" ["_law_spring_here", "_law_many"] F_l_draw) (z_len : mg "len" = none) :
    HasM P w K mg base 2 "_law_pick" ["_law_spring_here", "_law_some"] F_l_pick :=
  HasM.of (N := ["_law_spring_here", "_law_some"]) (t := t_l_pick) D X G (fun _ _ _ _ _ _ us hl => match us, hl with | [_, _], _ => rfl) sc_l_pick len_l_pick (fun f cdv A outer s H E room => (as_one (as_ret (ae_ix (av 1) (acM h_l_draw (room.mono (by decide)) (av 0) (ad_cons (ae_len (by rfl) z_len (av 1)) ad_nil)))))) wp_l_pick
abbrev s_l_shared1 : Stmt := topS 38
theorem sc_l_shared1 : FnScope ["_law_one", "_law_two", "_law_big", "_law_small"] ["_law_one", "_law_two"] (defScope s_l_shared1) := ⟨rfl, rfl, rfl, by decide +kernel, rfl, by decide +kernel, by decide +kernel⟩
theorem h_l_shared1 (D : DefK K "_law_shared" s_l_shared1) (X : K.In h) (G : h.Ns mainGlobals mg) (z_abs : mg "abs" = none) (z_int : mg "int" = none) :
    HasP P w K mg base 1 "_law_shared" ["_law_one", "_law_two"] F_l_shared1 :=
  HasP.of (N := ["_law_one", "_law_two", "_law_big", "_law_small"]) (t := t_l_shared1) D X G (fun _ _ _ _ _ _ us hl => match us, hl with | [_, _], _ => rfl) sc_l_shared1 len_l_shared1 (fun f cdv A outer s H E room => (as_cons (as_par (i := 2) (j := 3) rfl sc_l_shared1.nd rfl rfl (by decide) rfl rfl (ae_abs (by rfl) z_abs (av 0)) (ae_abs (by rfl) z_abs (av 1)) (by rfl))
    (as_cons (as_while PassesOwn.never (ab_cmpC (c_ne room.room.units) (av 3) ae_int) (as_one (as_par (i := 2) (j := 3) rfl sc_l_shared1.nd rfl rfl (by decide) rfl rfl (av 3) (ae_mod (ae_callint (by rfl) z_int (av 2)) (av 3)) (by rfl))))
    (as_one (as_ret (av 2)))))) wp_l_shared1
abbrev s_l_frac1 : Stmt := topS 39
theorem sc_l_frac1 : FnScope ["_law_top", "_law_under", "_law_part"] ["_law_top", "_law_under"] (defScope s_l_frac1) := ⟨rfl, rfl, rfl, by decide +kernel, rfl, by decide +kernel, by decide +kernel⟩
theorem h_l_frac1 (D : DefK K "_law_frac" s_l_frac1) (X : K.In h) (G : h.Ns mainGlobals mg) (h_l_shared1 : HasP P w K mg base 1 "_law_shared" ["_law_one", "_law_two"] F_l_shared1) :
    HasP P w K mg base 2 "_law_frac" ["_law_top", "_law_under"] F_l_frac1 :=
  HasP.of (N := ["_law_top", "_law_under", "_law_part"]) (t := t_l_frac1) D X G (fun _ _ _ _ _ _ us hl => match us, hl with | [_, _], _ => rfl) sc_l_frac1 len_l_frac1 (fun f cdv A outer s H E room => (as_cons (as_set (i := 2) sc_l_frac1.nd rfl (by first | exact Or.inl rfl | exact Or.inr rfl) (ac h_l_shared1 (room.mono (by decide)) (ad_cons (av 0) (ad_cons (av 1) ad_nil))))
    (as_cons (as_set (i := 2) sc_l_frac1.nd rfl (by first | exact Or.inl rfl | exact Or.inr rfl) (ae_if (ab_cmpC c_gt (av 1) ae_int) (av 2) (ae_sub ae_int (av 2))))
    (as_one (as_ret (ae_tup (ad_cons (ae_div (av 0) (av 2)) (ad_cons (ae_div (av 1) (av 2)) ad_nil)))))))) wp_l_frac1
abbrev s_l_odd : Stmt := topS 40
theorem sc_l_odd : FnScope ["_law_spring_here", "_law_plain", "_law_pairs", "_law_deep"] ["_law_spring_here"] (defScope s_l_odd) := ⟨rfl, rfl, rfl, by decide +kernel, rfl, by decide +kernel, by decide +kernel⟩
theorem h_l_odd (D : DefK K "_law_odd" s_l_odd) (X : K.In h) (G : h.Ns mainGlobals mg) (h_l_pick : HasM P w K mg base 2 "_law_pick" ["_law_spring_here", "_law_some"] F_l_pick) :
    HasM P w K mg base 3 "_law_odd" ["_law_spring_here"] F_l_odd :=
  HasM.of (N := ["_law_spring_here", "_law_plain", "_law_pairs", "_law_deep"]) (t := t_l_odd) D X G (fun _ _ _ _ _ _ us hl => match us, hl with | [_], _ => rfl) sc_l_odd len_l_odd (fun f cdv A outer s H E room => (as_cons (as_set (i := 1) sc_l_odd.nd rfl (by first | exact Or.inl rfl | exact Or.inr rfl) (ae_lst (ad_cons ae_non (ad_cons ae_bl (ad_cons ae_bl (ad_cons ae_int (ad_cons ae_int (ad_cons (ae_neg ae_int) (ad_cons ae_int (ad_cons (ae_pow ae_int ae_int) (ad_cons ae_str (ad_cons ae_str (ad_cons ae_str (ad_cons ae_dct0 (ad_cons ae_dct1 (ad_cons (ae_lst (ad_cons ae_int (ad_cons ae_int ad_nil))) (ad_cons (ae_lst (ad_cons ae_int (ad_cons ae_int ad_nil))) (ad_cons (ae_lst (ad_cons (ae_tup (ad_cons ae_int (ad_cons ae_int ad_nil))) (ad_cons (ae_tup (ad_cons ae_int (ad_cons ae_int ad_nil))) ad_nil))) ad_nil))))))))))))))))))
    (as_cons (as_set (i := 2) sc_l_odd.nd rfl (by first | exact Or.inl rfl | exact Or.inr rfl) (ae_lst (ad_cons (ae_tup (ad_cons ae_int (ad_cons ae_int ad_nil))) (ad_cons (ae_tup (ad_cons ae_int (ad_cons ae_int ad_nil))) (ad_cons (ae_tup (ad_cons (ae_neg ae_int) (ad_cons ae_int ad_nil))) (ad_cons (ae_tup (ad_cons ae_int (ad_cons ae_int ad_nil))) (ad_cons (ae_tup (ad_cons ae_int (ad_cons ae_int ad_nil))) (ad_cons (ae_tup (ad_cons ae_int (ad_cons (ae_neg ae_int) ad_nil))) (ad_cons (ae_tup (ad_cons ae_int (ad_cons ae_int ad_nil))) (ad_cons (ae_tup (ad_cons ae_bl (ad_cons ae_int ad_nil))) (ad_cons (ae_tup (ad_cons ae_int (ad_cons ae_bl ad_nil))) (ad_cons (ae_tup (ad_cons ae_int (ad_cons ae_int (ad_cons ae_int ad_nil)))) (ad_cons (ae_tup ad_nil) (ad_cons (ae_tup (ad_cons ae_int ad_nil)) (ad_cons (ae_tup (ad_cons ae_non (ad_cons ae_non ad_nil))) ad_nil)))))))))))))))
    (as_cons (as_set (i := 3) sc_l_odd.nd rfl (by first | exact Or.inl rfl | exact Or.inr rfl) (ae_lst (ad_cons (ae_tup (ad_cons (ae_tup (ad_cons ae_int (ad_cons ae_int ad_nil))) (ad_cons (ae_tup (ad_cons ae_int (ad_cons ae_int ad_nil))) ad_nil))) (ad_cons (ae_tup (ad_cons (ae_tup (ad_cons (ae_tup (ad_cons ae_int (ad_cons ae_int ad_nil))) (ad_cons (ae_tup (ad_cons ae_int (ad_cons ae_int ad_nil))) ad_nil))) ad_nil)) (ad_cons (ae_tup (ad_cons (ae_tup (ad_cons ae_str (ad_cons ae_int ad_nil))) (ad_cons ae_int ad_nil))) (ad_cons (ae_tup (ad_cons ae_str (ad_cons (ae_tup (ad_cons ae_int (ad_cons ae_int ad_nil))) (ad_cons (ae_tup (ad_cons ae_int (ad_cons ae_int ad_nil))) ad_nil)))) (ad_cons (ae_tup (ad_cons (ae_tup (ad_cons (ae_tup (ad_cons (ae_tup (ad_cons ae_int (ad_cons ae_int ad_nil))) ad_nil)) ad_nil)) ad_nil)) ad_nil)))))))
    (as_one (as_ret (acM h_l_pick (room.mono (by decide)) (av 0) (ad_cons (ae_add (ae_add (av 1) (av 2)) (av 3)) ad_nil)))))))) wp_l_odd
abbrev s_l_fraction : Stmt := topS 41
theorem sc_l_fraction : FnScope ["_law_spring_here"] ["_law_spring_here"] (defScope s_l_fraction) := ⟨rfl, rfl, rfl, by decide +kernel, rfl, by decide +kernel, by decide +kernel⟩
theorem h_l_fraction (D : DefK K "_law_fraction" s_l_fraction) (X : K.In h) (G : h.Ns mainGlobals mg) (h_l_frac1 : HasP P w K mg base 2 "_law_frac" ["_law_top", "_law_under"] F_l_frac1) (h_l_draw : HasM P w K mg base 1 "_law_draw" ["_law_spring_here", "_law_many"] F_l_draw) (h_l_pick : HasM P w K mg base 2 "_law_pick" ["_law_spring_here", "_law_some"] F_l_pick) :
    HasM P w K mg base 3 "_law_fraction" ["_law_spring_here"] F_l_fraction :=
  HasM.of (N := ["_law_spring_here"]) (t := t_l_fraction) D X G (fun _ _ _ _ _ _ us hl => match us, hl with | [_], _ => rfl) sc_l_fraction len_l_fraction (fun f cdv A outer s H E room => (as_one (as_ret (ac h_l_frac1 (room.mono (by decide)) (ad_cons (ae_sub (acM h_l_draw (room.mono (by decide)) (av 0) (ad_cons ae_int ad_nil)) ae_int) (ad_cons (ae_add ae_int (acM h_l_draw (room.mono (by decide)) (av 0) (ad_cons (acM h_l_pick (room.mono (by decide)) (av 0) (ad_cons (ae_lst (ad_cons ae_int (ad_cons ae_int (ad_cons ae_int ad_nil)))) ad_nil)) ad_nil))) ad_nil)))))) wp_l_fraction
abbrev s_l_first_truths : Stmt := topS 42
theorem sc_l_first_truths : FnScope ["_law_e", "_law_found"] ["_law_e"] (defScope s_l_first_truths) := ⟨rfl, rfl, rfl, by decide +kernel, rfl, by decide +kernel, by decide +kernel⟩
theorem h_l_first_truths (D : DefK K "_law_first_truths" s_l_first_truths) (X : K.In h) (G : h.Ns mainGlobals mg) (z_isinstance : mg "isinstance" = none) (y_InvalidFraction : ClsK K mg "InvalidFraction" C_InvalidFraction) (tX : ExTab K exCs) (y_InvalidAmount : ClsK K mg "InvalidAmount" C_InvalidAmount) (y_InvalidContent : ClsK K mg "InvalidContent" C_InvalidContent) (y_InvalidNumber : ClsK K mg "InvalidNumber" C_InvalidNumber) (y_InvalidIndex : ClsK K mg "InvalidIndex" C_InvalidIndex) (y_InvalidKind : ClsK K mg "InvalidKind" C_InvalidKind) (y_InvalidDensity : ClsK K mg "InvalidDensity" C_InvalidDensity) (y_InvalidFlow : ClsK K mg "InvalidFlow" C_InvalidFlow) (y_InvalidPlace : ClsK K mg "InvalidPlace" C_InvalidPlace) (y_InvalidMoment : ClsK K mg "InvalidMoment" C_InvalidMoment) (y_InvalidSpeed : ClsK K mg "InvalidSpeed" C_InvalidSpeed) (y_InvalidWay : ClsK K mg "InvalidWay" C_InvalidWay) (y_InvalidScene : ClsK K mg "InvalidScene" C_InvalidScene) (y_InvalidCounts : ClsK K mg "InvalidCounts" C_InvalidCounts) (y_InvalidRims : ClsK K mg "InvalidRims" C_InvalidRims) (y_InvalidBook : ClsK K mg "InvalidBook" C_InvalidBook) (y_InvalidName : ClsK K mg "InvalidName" C_InvalidName) (y_InvalidWish : ClsK K mg "InvalidWish" C_InvalidWish) (y_InvalidPhrase : ClsK K mg "InvalidPhrase" C_InvalidPhrase) (y_NotAWorkshop : ClsK K mg "NotAWorkshop" C_NotAWorkshop) (y_UnknownName : ClsK K mg "UnknownName" C_UnknownName) (y_TooMany : ClsK K mg "TooMany" C_TooMany) :
    HasP P w K mg base 1 "_law_first_truths" ["_law_e"] F_l_first_truths :=
  HasP.of (N := ["_law_e", "_law_found"]) (t := t_l_first_truths) D X G (fun _ _ _ _ _ _ us hl => match us, hl with | [_], _ => rfl) sc_l_first_truths len_l_first_truths (fun f cdv A outer s H E room => (as_cons (as_set (i := 1) sc_l_first_truths.nd rfl (by first | exact Or.inl rfl | exact Or.inr rfl) (ae_lst (ad_cons (ae_isV tX z_isinstance (av 0) (pe_glob (v := .ref C_InvalidFraction) rfl y_InvalidFraction.g rfl) y_InvalidFraction.ns (by decide +kernel)) (ad_cons (ae_isV tX z_isinstance (av 0) (pe_glob (v := .ref C_InvalidAmount) rfl y_InvalidAmount.g rfl) y_InvalidAmount.ns (by decide +kernel)) (ad_cons (ae_isV tX z_isinstance (av 0) (pe_glob (v := .ref C_InvalidContent) rfl y_InvalidContent.g rfl) y_InvalidContent.ns (by decide +kernel)) (ad_cons (ae_isV tX z_isinstance (av 0) (pe_glob (v := .ref C_InvalidNumber) rfl y_InvalidNumber.g rfl) y_InvalidNumber.ns (by decide +kernel)) ad_nil))))))
    (as_cons (as_set (i := 1) sc_l_first_truths.nd rfl (by first | exact Or.inl rfl | exact Or.inr rfl) (ae_add (av 1) (ae_lst (ad_cons (ae_isV tX z_isinstance (av 0) (pe_glob (v := .ref C_InvalidIndex) rfl y_InvalidIndex.g rfl) y_InvalidIndex.ns (by decide +kernel)) (ad_cons (ae_isV tX z_isinstance (av 0) (pe_glob (v := .ref C_InvalidKind) rfl y_InvalidKind.g rfl) y_InvalidKind.ns (by decide +kernel)) (ad_cons (ae_isV tX z_isinstance (av 0) (pe_glob (v := .ref C_InvalidDensity) rfl y_InvalidDensity.g rfl) y_InvalidDensity.ns (by decide +kernel)) (ad_cons (ae_isV tX z_isinstance (av 0) (pe_glob (v := .ref C_InvalidFlow) rfl y_InvalidFlow.g rfl) y_InvalidFlow.ns (by decide +kernel)) ad_nil)))))))
    (as_cons (as_set (i := 1) sc_l_first_truths.nd rfl (by first | exact Or.inl rfl | exact Or.inr rfl) (ae_add (av 1) (ae_lst (ad_cons (ae_isV tX z_isinstance (av 0) (pe_glob (v := .ref C_InvalidPlace) rfl y_InvalidPlace.g rfl) y_InvalidPlace.ns (by decide +kernel)) (ad_cons (ae_isV tX z_isinstance (av 0) (pe_glob (v := .ref C_InvalidMoment) rfl y_InvalidMoment.g rfl) y_InvalidMoment.ns (by decide +kernel)) (ad_cons (ae_isV tX z_isinstance (av 0) (pe_glob (v := .ref C_InvalidSpeed) rfl y_InvalidSpeed.g rfl) y_InvalidSpeed.ns (by decide +kernel)) (ad_cons (ae_isV tX z_isinstance (av 0) (pe_glob (v := .ref C_InvalidWay) rfl y_InvalidWay.g rfl) y_InvalidWay.ns (by decide +kernel)) ad_nil)))))))
    (as_cons (as_set (i := 1) sc_l_first_truths.nd rfl (by first | exact Or.inl rfl | exact Or.inr rfl) (ae_add (av 1) (ae_lst (ad_cons (ae_isV tX z_isinstance (av 0) (pe_glob (v := .ref C_InvalidScene) rfl y_InvalidScene.g rfl) y_InvalidScene.ns (by decide +kernel)) (ad_cons (ae_isV tX z_isinstance (av 0) (pe_glob (v := .ref C_InvalidCounts) rfl y_InvalidCounts.g rfl) y_InvalidCounts.ns (by decide +kernel)) (ad_cons (ae_isV tX z_isinstance (av 0) (pe_glob (v := .ref C_InvalidRims) rfl y_InvalidRims.g rfl) y_InvalidRims.ns (by decide +kernel)) (ad_cons (ae_isV tX z_isinstance (av 0) (pe_glob (v := .ref C_InvalidBook) rfl y_InvalidBook.g rfl) y_InvalidBook.ns (by decide +kernel)) ad_nil)))))))
    (as_cons (as_set (i := 1) sc_l_first_truths.nd rfl (by first | exact Or.inl rfl | exact Or.inr rfl) (ae_add (av 1) (ae_lst (ad_cons (ae_isV tX z_isinstance (av 0) (pe_glob (v := .ref C_InvalidName) rfl y_InvalidName.g rfl) y_InvalidName.ns (by decide +kernel)) (ad_cons (ae_isV tX z_isinstance (av 0) (pe_glob (v := .ref C_InvalidWish) rfl y_InvalidWish.g rfl) y_InvalidWish.ns (by decide +kernel)) (ad_cons (ae_isV tX z_isinstance (av 0) (pe_glob (v := .ref C_InvalidPhrase) rfl y_InvalidPhrase.g rfl) y_InvalidPhrase.ns (by decide +kernel)) (ad_cons (ae_isV tX z_isinstance (av 0) (pe_glob (v := .ref C_NotAWorkshop) rfl y_NotAWorkshop.g rfl) y_NotAWorkshop.ns (by decide +kernel)) ad_nil)))))))
    (as_one (as_ret (ae_add (av 1) (ae_lst (ad_cons (ae_isV tX z_isinstance (av 0) (pe_glob (v := .ref C_UnknownName) rfl y_UnknownName.g rfl) y_UnknownName.ns (by decide +kernel)) (ad_cons (ae_isV tX z_isinstance (av 0) (pe_glob (v := .ref C_TooMany) rfl y_TooMany.g rfl) y_TooMany.ns (by decide +kernel)) ad_nil)))))))))))) wp_l_first_truths
abbrev s_l_truths : Stmt := topS 43
theorem sc_l_truths : FnScope ["_law_e", "_law_found"] ["_law_e"] (defScope s_l_truths) := ⟨rfl, rfl, rfl, by decide +kernel, rfl, by decide +kernel, by decide +kernel⟩
theorem h_l_truths (D : DefK K "_law_truths" s_l_truths) (X : K.In h) (G : h.Ns mainGlobals mg) (h_l_first_truths : HasP P w K mg base 1 "_law_first_truths" ["_law_e"] F_l_first_truths) (z_isinstance : mg "isinstance" = none) (y_InvalidBeginning : ClsK K mg "InvalidBeginning" C_InvalidBeginning) (tX : ExTab K exCs) (y_InvalidComings : ClsK K mg "InvalidComings" C_InvalidComings) (y_InvalidBars : ClsK K mg "InvalidBars" C_InvalidBars) (y_InvalidRow : ClsK K mg "InvalidRow" C_InvalidRow) (y_InvalidMarks : ClsK K mg "InvalidMarks" C_InvalidMarks) (y_InUse : ClsK K mg "InUse" C_InUse) (y_Broken : ClsK K mg "Broken" C_Broken) (y_NoStep : ClsK K mg "NoStep" C_NoStep) (y_NoneFits : ClsK K mg "NoneFits" C_NoneFits) (y_NothingToUndo : ClsK K mg "NothingToUndo" C_NothingToUndo) :
    HasP P w K mg base 2 "_law_truths" ["_law_e"] F_l_truths :=
  HasP.of (N := ["_law_e", "_law_found"]) (t := t_l_truths) D X G (fun _ _ _ _ _ _ us hl => match us, hl with | [_], _ => rfl) sc_l_truths len_l_truths (fun f cdv A outer s H E room => (as_cons (as_set (i := 1) sc_l_truths.nd rfl (by first | exact Or.inl rfl | exact Or.inr rfl) (ae_add (ac h_l_first_truths (room.mono (by decide)) (ad_cons (av 0) ad_nil)) (ae_lst (ad_cons (ae_isV tX z_isinstance (av 0) (pe_glob (v := .ref C_InvalidBeginning) rfl y_InvalidBeginning.g rfl) y_InvalidBeginning.ns (by decide +kernel)) (ad_cons (ae_isV tX z_isinstance (av 0) (pe_glob (v := .ref C_InvalidComings) rfl y_InvalidComings.g rfl) y_InvalidComings.ns (by decide +kernel)) (ad_cons (ae_isV tX z_isinstance (av 0) (pe_glob (v := .ref C_InvalidBars) rfl y_InvalidBars.g rfl) y_InvalidBars.ns (by decide +kernel)) ad_nil))))))
    (as_cons (as_set (i := 1) sc_l_truths.nd rfl (by first | exact Or.inl rfl | exact Or.inr rfl) (ae_add (av 1) (ae_lst (ad_cons (ae_isV tX z_isinstance (av 0) (pe_glob (v := .ref C_InvalidRow) rfl y_InvalidRow.g rfl) y_InvalidRow.ns (by decide +kernel)) (ad_cons (ae_isV tX z_isinstance (av 0) (pe_glob (v := .ref C_InvalidMarks) rfl y_InvalidMarks.g rfl) y_InvalidMarks.ns (by decide +kernel)) (ad_cons (ae_isV tX z_isinstance (av 0) (pe_glob (v := .ref C_InUse) rfl y_InUse.g rfl) y_InUse.ns (by decide +kernel)) (ad_cons (ae_isV tX z_isinstance (av 0) (pe_glob (v := .ref C_Broken) rfl y_Broken.g rfl) y_Broken.ns (by decide +kernel)) ad_nil)))))))
    (as_one (as_ret (ae_add (av 1) (ae_lst (ad_cons (ae_isV tX z_isinstance (av 0) (pe_glob (v := .ref C_NoStep) rfl y_NoStep.g rfl) y_NoStep.ns (by decide +kernel)) (ad_cons (ae_isV tX z_isinstance (av 0) (pe_glob (v := .ref C_NoneFits) rfl y_NoneFits.g rfl) y_NoneFits.ns (by decide +kernel)) (ad_cons (ae_isV tX z_isinstance (av 0) (pe_glob (v := .ref C_NothingToUndo) rfl y_NothingToUndo.g rfl) y_NothingToUndo.ns (by decide +kernel)) ad_nil)))))))))) wp_l_truths
abbrev s_l_by_place : Stmt := topS 44
theorem sc_l_by_place : FnScope ["_law_thing", "_law_found"] ["_law_thing"] (defScope s_l_by_place) := ⟨rfl, rfl, rfl, by decide +kernel, rfl, by decide +kernel, by decide +kernel⟩
theorem h_l_by_place (D : DefK K "_law_by_place" s_l_by_place) (X : K.In h) (G : h.Ns mainGlobals mg) (e_InvalidFraction : Ex1 "given" P K mg "InvalidFraction" C_InvalidFraction fI_InvalidFraction) (e_InvalidAmount : Ex1 "given" P K mg "InvalidAmount" C_InvalidAmount fI_InvalidAmount) (e_InvalidContent : Ex1 "given" P K mg "InvalidContent" C_InvalidContent fI_InvalidContent) (e_InvalidNumber : Ex1 "given" P K mg "InvalidNumber" C_InvalidNumber fI_InvalidNumber) (e_InvalidIndex : Ex1 "given" P K mg "InvalidIndex" C_InvalidIndex fI_InvalidIndex) (e_InvalidKind : Ex1 "given" P K mg "InvalidKind" C_InvalidKind fI_InvalidKind) (e_InvalidDensity : Ex1 "given" P K mg "InvalidDensity" C_InvalidDensity fI_InvalidDensity) (e_InvalidFlow : Ex1 "given" P K mg "InvalidFlow" C_InvalidFlow fI_InvalidFlow) (e_InvalidPlace : Ex1 "given" P K mg "InvalidPlace" C_InvalidPlace fI_InvalidPlace) (e_InvalidMoment : Ex1 "given" P K mg "InvalidMoment" C_InvalidMoment fI_InvalidMoment) (e_InvalidSpeed : Ex1 "given" P K mg "InvalidSpeed" C_InvalidSpeed fI_InvalidSpeed) (e_InvalidWay : Ex1 "given" P K mg "InvalidWay" C_InvalidWay fI_InvalidWay) (e_InvalidScene : Ex1 "given" P K mg "InvalidScene" C_InvalidScene fI_InvalidScene) (e_InvalidCounts : Ex1 "given" P K mg "InvalidCounts" C_InvalidCounts fI_InvalidCounts) (e_InvalidRims : Ex1 "given" P K mg "InvalidRims" C_InvalidRims fI_InvalidRims) (e_InvalidBook : Ex1 "given" P K mg "InvalidBook" C_InvalidBook fI_InvalidBook) (e_InvalidName : Ex1 "given" P K mg "InvalidName" C_InvalidName fI_InvalidName) (e_InvalidWish : Ex1 "given" P K mg "InvalidWish" C_InvalidWish fI_InvalidWish) (e_InvalidPhrase : Ex1 "given" P K mg "InvalidPhrase" C_InvalidPhrase fI_InvalidPhrase) (e_NotAWorkshop : Ex1 "given" P K mg "NotAWorkshop" C_NotAWorkshop fI_NotAWorkshop) (e_UnknownName : Ex1 "given" P K mg "UnknownName" C_UnknownName fI_UnknownName) (e_TooMany : Ex1 "given" P K mg "TooMany" C_TooMany fI_TooMany) :
    HasP P w K mg base 2 "_law_by_place" ["_law_thing"] F_l_by_place :=
  HasP.of (N := ["_law_thing", "_law_found"]) (t := t_l_by_place) D X G (fun _ _ _ _ _ _ us hl => match us, hl with | [_], _ => rfl) sc_l_by_place len_l_by_place (fun f cdv A outer s H E room => (as_cons (as_set (i := 1) sc_l_by_place.nd rfl (by first | exact Or.inl rfl | exact Or.inr rfl) (ae_lst (ad_cons (ae_mk (k := 0) e_InvalidFraction (room.room.mono (by decide)) (ad_cons (av 0) ad_nil)) (ad_cons (ae_mk (k := 0) e_InvalidAmount (room.room.mono (by decide)) (ad_cons (av 0) ad_nil)) (ad_cons (ae_mk (k := 0) e_InvalidContent (room.room.mono (by decide)) (ad_cons (av 0) ad_nil)) (ad_cons (ae_mk (k := 0) e_InvalidNumber (room.room.mono (by decide)) (ad_cons (av 0) ad_nil)) (ad_cons (ae_mk (k := 0) e_InvalidIndex (room.room.mono (by decide)) (ad_cons (av 0) ad_nil)) (ad_cons (ae_mk (k := 0) e_InvalidKind (room.room.mono (by decide)) (ad_cons (av 0) ad_nil)) ad_nil))))))))
    (as_cons (as_set (i := 1) sc_l_by_place.nd rfl (by first | exact Or.inl rfl | exact Or.inr rfl) (ae_add (av 1) (ae_lst (ad_cons (ae_mk (k := 0) e_InvalidDensity (room.room.mono (by decide)) (ad_cons (av 0) ad_nil)) (ad_cons (ae_mk (k := 0) e_InvalidFlow (room.room.mono (by decide)) (ad_cons (av 0) ad_nil)) (ad_cons (ae_mk (k := 0) e_InvalidPlace (room.room.mono (by decide)) (ad_cons (av 0) ad_nil)) (ad_cons (ae_mk (k := 0) e_InvalidMoment (room.room.mono (by decide)) (ad_cons (av 0) ad_nil)) (ad_cons (ae_mk (k := 0) e_InvalidSpeed (room.room.mono (by decide)) (ad_cons (av 0) ad_nil)) (ad_cons (ae_mk (k := 0) e_InvalidWay (room.room.mono (by decide)) (ad_cons (av 0) ad_nil)) ad_nil)))))))))
    (as_cons (as_set (i := 1) sc_l_by_place.nd rfl (by first | exact Or.inl rfl | exact Or.inr rfl) (ae_add (av 1) (ae_lst (ad_cons (ae_mk (k := 0) e_InvalidScene (room.room.mono (by decide)) (ad_cons (av 0) ad_nil)) (ad_cons (ae_mk (k := 0) e_InvalidCounts (room.room.mono (by decide)) (ad_cons (av 0) ad_nil)) (ad_cons (ae_mk (k := 0) e_InvalidRims (room.room.mono (by decide)) (ad_cons (av 0) ad_nil)) (ad_cons (ae_mk (k := 0) e_InvalidBook (room.room.mono (by decide)) (ad_cons (av 0) ad_nil)) (ad_cons (ae_mk (k := 0) e_InvalidName (room.room.mono (by decide)) (ad_cons (av 0) ad_nil)) (ad_cons (ae_mk (k := 0) e_InvalidWish (room.room.mono (by decide)) (ad_cons (av 0) ad_nil)) ad_nil)))))))))
    (as_one (as_ret (ae_add (av 1) (ae_lst (ad_cons (ae_mk (k := 0) e_InvalidPhrase (room.room.mono (by decide)) (ad_cons (av 0) ad_nil)) (ad_cons (ae_mk (k := 0) e_NotAWorkshop (room.room.mono (by decide)) (ad_cons (av 0) ad_nil)) (ad_cons (ae_mk (k := 0) e_UnknownName (room.room.mono (by decide)) (ad_cons (av 0) ad_nil)) (ad_cons (ae_mk (k := 0) e_TooMany (room.room.mono (by decide)) (ad_cons (av 0) ad_nil)) ad_nil)))))))))))) wp_l_by_place
abbrev s_l_by_name : Stmt := topS 45
theorem sc_l_by_name : FnScope ["_law_thing", "_law_found"] ["_law_thing"] (defScope s_l_by_name) := ⟨rfl, rfl, rfl, by decide +kernel, rfl, by decide +kernel, by decide +kernel⟩
theorem h_l_by_name (D : DefK K "_law_by_name" s_l_by_name) (X : K.In h) (G : h.Ns mainGlobals mg) (e_InvalidFraction : Ex1 "given" P K mg "InvalidFraction" C_InvalidFraction fI_InvalidFraction) (e_InvalidAmount : Ex1 "given" P K mg "InvalidAmount" C_InvalidAmount fI_InvalidAmount) (e_InvalidContent : Ex1 "given" P K mg "InvalidContent" C_InvalidContent fI_InvalidContent) (e_InvalidNumber : Ex1 "given" P K mg "InvalidNumber" C_InvalidNumber fI_InvalidNumber) (e_InvalidIndex : Ex1 "given" P K mg "InvalidIndex" C_InvalidIndex fI_InvalidIndex) (e_InvalidKind : Ex1 "given" P K mg "InvalidKind" C_InvalidKind fI_InvalidKind) (e_InvalidDensity : Ex1 "given" P K mg "InvalidDensity" C_InvalidDensity fI_InvalidDensity) (e_InvalidFlow : Ex1 "given" P K mg "InvalidFlow" C_InvalidFlow fI_InvalidFlow) (e_InvalidPlace : Ex1 "given" P K mg "InvalidPlace" C_InvalidPlace fI_InvalidPlace) (e_InvalidMoment : Ex1 "given" P K mg "InvalidMoment" C_InvalidMoment fI_InvalidMoment) (e_InvalidSpeed : Ex1 "given" P K mg "InvalidSpeed" C_InvalidSpeed fI_InvalidSpeed) (e_InvalidWay : Ex1 "given" P K mg "InvalidWay" C_InvalidWay fI_InvalidWay) (e_InvalidScene : Ex1 "given" P K mg "InvalidScene" C_InvalidScene fI_InvalidScene) (e_InvalidCounts : Ex1 "given" P K mg "InvalidCounts" C_InvalidCounts fI_InvalidCounts) (e_InvalidRims : Ex1 "given" P K mg "InvalidRims" C_InvalidRims fI_InvalidRims) (e_InvalidBook : Ex1 "given" P K mg "InvalidBook" C_InvalidBook fI_InvalidBook) (e_InvalidName : Ex1 "given" P K mg "InvalidName" C_InvalidName fI_InvalidName) (e_InvalidWish : Ex1 "given" P K mg "InvalidWish" C_InvalidWish fI_InvalidWish) (e_InvalidPhrase : Ex1 "given" P K mg "InvalidPhrase" C_InvalidPhrase fI_InvalidPhrase) (e_NotAWorkshop : Ex1 "given" P K mg "NotAWorkshop" C_NotAWorkshop fI_NotAWorkshop) (e_UnknownName : Ex1 "given" P K mg "UnknownName" C_UnknownName fI_UnknownName) (e_TooMany : Ex1 "given" P K mg "TooMany" C_TooMany fI_TooMany) :
    HasP P w K mg base 2 "_law_by_name" ["_law_thing"] F_l_by_name :=
  HasP.of (N := ["_law_thing", "_law_found"]) (t := t_l_by_name) D X G (fun _ _ _ _ _ _ us hl => match us, hl with | [_], _ => rfl) sc_l_by_name len_l_by_name (fun f cdv A outer s H E room => (as_cons (as_set (i := 1) sc_l_by_name.nd rfl (by first | exact Or.inl rfl | exact Or.inr rfl) (ae_lst (ad_cons (ae_mkK (k := 0) e_InvalidFraction (room.room.mono (by decide)) (ak_cons (av 0) ak_nil)) (ad_cons (ae_mkK (k := 0) e_InvalidAmount (room.room.mono (by decide)) (ak_cons (av 0) ak_nil)) (ad_cons (ae_mkK (k := 0) e_InvalidContent (room.room.mono (by decide)) (ak_cons (av 0) ak_nil)) (ad_cons (ae_mkK (k := 0) e_InvalidNumber (room.room.mono (by decide)) (ak_cons (av 0) ak_nil)) ad_nil))))))
    (as_cons (as_set (i := 1) sc_l_by_name.nd rfl (by first | exact Or.inl rfl | exact Or.inr rfl) (ae_add (av 1) (ae_lst (ad_cons (ae_mkK (k := 0) e_InvalidIndex (room.room.mono (by decide)) (ak_cons (av 0) ak_nil)) (ad_cons (ae_mkK (k := 0) e_InvalidKind (room.room.mono (by decide)) (ak_cons (av 0) ak_nil)) (ad_cons (ae_mkK (k := 0) e_InvalidDensity (room.room.mono (by decide)) (ak_cons (av 0) ak_nil)) (ad_cons (ae_mkK (k := 0) e_InvalidFlow (room.room.mono (by decide)) (ak_cons (av 0) ak_nil)) ad_nil)))))))
    (as_cons (as_set (i := 1) sc_l_by_name.nd rfl (by first | exact Or.inl rfl | exact Or.inr rfl) (ae_add (av 1) (ae_lst (ad_cons (ae_mkK (k := 0) e_InvalidPlace (room.room.mono (by decide)) (ak_cons (av 0) ak_nil)) (ad_cons (ae_mkK (k := 0) e_InvalidMoment (room.room.mono (by decide)) (ak_cons (av 0) ak_nil)) (ad_cons (ae_mkK (k := 0) e_InvalidSpeed (room.room.mono (by decide)) (ak_cons (av 0) ak_nil)) (ad_cons (ae_mkK (k := 0) e_InvalidWay (room.room.mono (by decide)) (ak_cons (av 0) ak_nil)) ad_nil)))))))
    (as_cons (as_set (i := 1) sc_l_by_name.nd rfl (by first | exact Or.inl rfl | exact Or.inr rfl) (ae_add (av 1) (ae_lst (ad_cons (ae_mkK (k := 0) e_InvalidScene (room.room.mono (by decide)) (ak_cons (av 0) ak_nil)) (ad_cons (ae_mkK (k := 0) e_InvalidCounts (room.room.mono (by decide)) (ak_cons (av 0) ak_nil)) (ad_cons (ae_mkK (k := 0) e_InvalidRims (room.room.mono (by decide)) (ak_cons (av 0) ak_nil)) (ad_cons (ae_mkK (k := 0) e_InvalidBook (room.room.mono (by decide)) (ak_cons (av 0) ak_nil)) ad_nil)))))))
    (as_cons (as_set (i := 1) sc_l_by_name.nd rfl (by first | exact Or.inl rfl | exact Or.inr rfl) (ae_add (av 1) (ae_lst (ad_cons (ae_mkK (k := 0) e_InvalidName (room.room.mono (by decide)) (ak_cons (av 0) ak_nil)) (ad_cons (ae_mkK (k := 0) e_InvalidWish (room.room.mono (by decide)) (ak_cons (av 0) ak_nil)) (ad_cons (ae_mkK (k := 0) e_InvalidPhrase (room.room.mono (by decide)) (ak_cons (av 0) ak_nil)) (ad_cons (ae_mkK (k := 0) e_NotAWorkshop (room.room.mono (by decide)) (ak_cons (av 0) ak_nil)) ad_nil)))))))
    (as_one (as_ret (ae_add (av 1) (ae_lst (ad_cons (ae_mkK (k := 0) e_UnknownName (room.room.mono (by decide)) (ak_cons (av 0) ak_nil)) (ad_cons (ae_mkK (k := 0) e_TooMany (room.room.mono (by decide)) (ak_cons (av 0) ak_nil)) ad_nil)))))))))))) wp_l_by_name
abbrev s_l_at_place : Stmt := topS 46
theorem sc_l_at_place : FnScope ["_law_thing", "_law_found"] ["_law_thing"] (defScope s_l_at_place) := ⟨rfl, rfl, rfl, by decide +kernel, rfl, by decide +kernel, by decide +kernel⟩
theorem h_l_at_place (D : DefK K "_law_at_place" s_l_at_place) (X : K.In h) (G : h.Ns mainGlobals mg) (e_InvalidBeginning : Ex1 "index" P K mg "InvalidBeginning" C_InvalidBeginning fI_InvalidBeginning) (e_InvalidComings : Ex1 "index" P K mg "InvalidComings" C_InvalidComings fI_InvalidComings) (e_InvalidBars : Ex1 "index" P K mg "InvalidBars" C_InvalidBars fI_InvalidBars) (e_InvalidRow : Ex1 "index" P K mg "InvalidRow" C_InvalidRow fI_InvalidRow) (e_InvalidMarks : Ex1 "index" P K mg "InvalidMarks" C_InvalidMarks fI_InvalidMarks) (e_InUse : Ex1 "index" P K mg "InUse" C_InUse fI_InUse) (e_Broken : Ex1 "index" P K mg "Broken" C_Broken fI_Broken) :
    HasP P w K mg base 2 "_law_at_place" ["_law_thing"] F_l_at_place :=
  HasP.of (N := ["_law_thing", "_law_found"]) (t := t_l_at_place) D X G (fun _ _ _ _ _ _ us hl => match us, hl with | [_], _ => rfl) sc_l_at_place len_l_at_place (fun f cdv A outer s H E room => (as_cons (as_set (i := 1) sc_l_at_place.nd rfl (by first | exact Or.inl rfl | exact Or.inr rfl) (ae_lst (ad_cons (ae_mk (k := 0) e_InvalidBeginning (room.room.mono (by decide)) (ad_cons (av 0) ad_nil)) (ad_cons (ae_mk (k := 0) e_InvalidComings (room.room.mono (by decide)) (ad_cons (av 0) ad_nil)) (ad_cons (ae_mk (k := 0) e_InvalidBars (room.room.mono (by decide)) (ad_cons (av 0) ad_nil)) (ad_cons (ae_mk (k := 0) e_InvalidRow (room.room.mono (by decide)) (ad_cons (av 0) ad_nil)) (ad_cons (ae_mk (k := 0) e_InvalidMarks (room.room.mono (by decide)) (ad_cons (av 0) ad_nil)) ad_nil)))))))
    (as_one (as_ret (ae_add (av 1) (ae_lst (ad_cons (ae_mk (k := 0) e_InUse (room.room.mono (by decide)) (ad_cons (av 0) ad_nil)) (ad_cons (ae_mk (k := 0) e_Broken (room.room.mono (by decide)) (ad_cons (av 0) ad_nil)) ad_nil)))))))) wp_l_at_place
abbrev s_l_at_name : Stmt := topS 47
theorem sc_l_at_name : FnScope ["_law_thing", "_law_found"] ["_law_thing"] (defScope s_l_at_name) := ⟨rfl, rfl, rfl, by decide +kernel, rfl, by decide +kernel, by decide +kernel⟩
theorem h_l_at_name (D : DefK K "_law_at_name" s_l_at_name) (X : K.In h) (G : h.Ns mainGlobals mg) (e_InvalidBeginning : Ex1 "index" P K mg "InvalidBeginning" C_InvalidBeginning fI_InvalidBeginning) (e_InvalidComings : Ex1 "index" P K mg "InvalidComings" C_InvalidComings fI_InvalidComings) (e_InvalidBars : Ex1 "index" P K mg "InvalidBars" C_InvalidBars fI_InvalidBars) (e_InvalidRow : Ex1 "index" P K mg "InvalidRow" C_InvalidRow fI_InvalidRow) (e_InvalidMarks : Ex1 "index" P K mg "InvalidMarks" C_InvalidMarks fI_InvalidMarks) (e_InUse : Ex1 "index" P K mg "InUse" C_InUse fI_InUse) (e_Broken : Ex1 "index" P K mg "Broken" C_Broken fI_Broken) :
    HasP P w K mg base 2 "_law_at_name" ["_law_thing"] F_l_at_name :=
  HasP.of (N := ["_law_thing", "_law_found"]) (t := t_l_at_name) D X G (fun _ _ _ _ _ _ us hl => match us, hl with | [_], _ => rfl) sc_l_at_name len_l_at_name (fun f cdv A outer s H E room => (as_cons (as_set (i := 1) sc_l_at_name.nd rfl (by first | exact Or.inl rfl | exact Or.inr rfl) (ae_lst (ad_cons (ae_mkK (k := 0) e_InvalidBeginning (room.room.mono (by decide)) (ak_cons (av 0) ak_nil)) (ad_cons (ae_mkK (k := 0) e_InvalidComings (room.room.mono (by decide)) (ak_cons (av 0) ak_nil)) (ad_cons (ae_mkK (k := 0) e_InvalidBars (room.room.mono (by decide)) (ak_cons (av 0) ak_nil)) (ad_cons (ae_mkK (k := 0) e_InvalidRow (room.room.mono (by decide)) (ak_cons (av 0) ak_nil)) ad_nil))))))
    (as_one (as_ret (ae_add (av 1) (ae_lst (ad_cons (ae_mkK (k := 0) e_InvalidMarks (room.room.mono (by decide)) (ak_cons (av 0) ak_nil)) (ad_cons (ae_mkK (k := 0) e_InUse (room.room.mono (by decide)) (ak_cons (av 0) ak_nil)) (ad_cons (ae_mkK (k := 0) e_Broken (room.room.mono (by decide)) (ak_cons (av 0) ak_nil)) ad_nil))))))))) wp_l_at_name
abbrev s_l_is_alone : Stmt := topS 48
theorem sc_l_is_alone : FnScope ["_law_e", "_law_at", "_law_k"] ["_law_e", "_law_at"] (defScope s_l_is_alone) := ⟨rfl, rfl, rfl, by decide +kernel, rfl, by decide +kernel, by decide +kernel⟩
theorem h_l_is_alone (D : DefK K "_law_is_alone" s_l_is_alone) (X : K.In h) (G : h.Ns mainGlobals mg) (h_l_truths : HasP P w K mg base 2 "_law_truths" ["_law_e"] F_l_truths) (z_range : mg "range" = none) (z_isinstance : mg "isinstance" = none) (z_ValueError : mg "ValueError" = none) (z_LookupError : mg "LookupError" = none) (z_TypeError : mg "TypeError" = none) (z_ArithmeticError : mg "ArithmeticError" = none) (y_RoadError : ClsK K mg "RoadError" C_RoadError) (tX : ExTab K exCs) :
    HasP P w K mg base 3 "_law_is_alone" ["_law_e", "_law_at"] F_l_is_alone :=
  HasP.of (N := ["_law_e", "_law_at", "_law_k"]) (t := t_l_is_alone) D X G (fun _ _ _ _ _ _ us hl => match us, hl with | [_, _], _ => rfl) sc_l_is_alone len_l_is_alone (fun f cdv A outer s H E room => (as_cons (as_if (ab_w (aw_or (ab_cmpC (c_ne room.room.units) (ac h_l_truths (room.mono (by decide)) (ad_cons (av 0) ad_nil)) (ae_lc (own := [("_law_k", 2)]) (G := (.one 2)) rfl sc_l_is_alone.nd (ai_rng1 (by rfl) z_range ae_int) (blkOk_by (sc := defScope s_l_is_alone) (own := [("_law_k", 2)]) (N := ["_law_e", "_law_at", "_law_k"]) (by decide +kernel)) (fun _ _ _ _ _ => pgo_one sc_l_is_alone.nd rfl (by first | exact Or.inl rfl | exact Or.inr rfl)) (fun _ _ _ _ _ => abs_nil) (fun _ _ _ _ _ => (ae_cmpC (c_eq room.room.units) (av 2) (av 1))))) (aw_or (ab_not (ab_val (ae_isV tX z_isinstance (av 0) (pe_glob (v := .ref C_RoadError) rfl y_RoadError.g rfl) y_RoadError.ns (by decide +kernel)))) (aw_or1 (ab_not (ab_val (ae_isVV tX z_isinstance z_ValueError (av 0)))))))) (as_one (as_ret ae_bl)) as_nil)
    (as_one (as_ret (ae_not (ae_isVN tX z_isinstance z_LookupError z_TypeError z_ArithmeticError (av 0))))))) wp_l_is_alone
abbrev s_l_caught : Stmt := topS 49
theorem sc_l_caught : FnScope ["_law_thing", "_law_found", "_law_at", "_law_told", "_law_e"] ["_law_thing"] (defScope s_l_caught) := ⟨rfl, rfl, rfl, by decide +kernel, rfl, by decide +kernel, by decide +kernel⟩
theorem h_l_caught {C_InvalidScene fI_InvalidScene C_InvalidBars fI_InvalidBars C_NoneFits C_RoadError : Addr} (D : DefK K "_law_caught" s_l_caught) (X : K.In h) (G : h.Ns mainGlobals mg) (z_range : mg "range" = none) (z_isinstance : mg "isinstance" = none) (e_InvalidScene : Ex1 "given" P K mg "InvalidScene" C_InvalidScene fI_InvalidScene) (e_InvalidBars : Ex1 "index" P K mg "InvalidBars" C_InvalidBars fI_InvalidBars) (e_NoneFits : Ex0 K mg "NoneFits" C_NoneFits) (e_RoadError : Ex0 K mg "RoadError" C_RoadError) (y_RoadError : ClsK K mg "RoadError" C_RoadError) (tX : ExTab K exCs) (y_InvalidScene : ClsK K mg "InvalidScene" C_InvalidScene) (y_InvalidBars : ClsK K mg "InvalidBars" C_InvalidBars) (y_NoneFits : ClsK K mg "NoneFits" C_NoneFits) :
    HasP P w K mg base 2 "_law_caught" ["_law_thing"] F_l_caught :=
  HasP.ofC (N := ["_law_thing", "_law_found", "_law_at", "_law_told", "_law_e"]) (t := t_l_caught) D X G (fun _ _ _ _ _ _ us hl => match us, hl with | [_], _ => rfl) sc_l_caught len_l_caught (fun f cdv A outer s H E room => (axs_cons (ax_b (as_set (i := 1) sc_l_caught.nd rfl (by first | exact Or.inl rfl | exact Or.inr rfl) (ae_lst ad_nil)))
    (axs_cons (ax_for (passes_of rfl) rfl (ai_rng1X (by rfl) z_range ae_int) (ag_name sc_l_caught.nd rfl (by first | exact Or.inl rfl | exact Or.inr rfl)) (axs_cons (ax_b (as_set (i := 3) sc_l_caught.nd rfl (by first | exact Or.inl rfl | exact Or.inr rfl) (ae_lst ad_nil)))
    (axs_cons (ax_try (cs := ["InvalidScene", "InvalidBars", "NoneFits", "RoadError"]) rfl rfl sc_l_caught.nd takes_none5 (fun W pn xe tk po => (axs_cons (ax_if (ab_cmpC (c_eq room.room.units) (av 2) ae_int) (axs_one (ax_raise (k := 0) rfl e_InvalidScene (room.room.mono (by decide)) tk (ad_cons (av 0) ad_nil))) (axs_b as_nil))
    (axs_cons (ax_if (ab_cmpC (c_eq room.room.units) (av 2) ae_int) (axs_one (ax_raiseK (k := 0) rfl e_InvalidBars (room.room.mono (by decide)) tk (ak_cons (av 0) ak_nil))) (axs_b as_nil))
    (axs_cons (ax_if (ab_cmpC (c_eq room.room.units) (av 2) ae_int) (axs_one (ax_raise0 rfl e_NoneFits tk)) (axs_b as_nil))
    (axs_one (ax_raise0 rfl e_RoadError tk))))))
      (Suites.cons (oi := some 4) rfl (by decide) y_RoadError.g y_RoadError.ns ⟨rfl, rfl⟩ (cf_tab tX (by decide +kernel) (by decide +kernel)) (fun c C a oe od pn hc hx ns hz hf => by have exSub : ∀ {c : Str}, c ∈ (["InvalidScene", "InvalidBars", "NoneFits", "RoadError"] : List Str) → c ∈ exCs := fun {c} m => (by decide +kernel : ∀ c ∈ (["InvalidScene", "InvalidBars", "NoneFits", "RoadError"] : List Str), c ∈ exCs) c m; exact (as_one (as_set (i := 3) sc_l_caught.nd rfl (by first | exact Or.inl rfl | exact Or.inr rfl) (ae_lst (ad_cons (by exact (ae_isE (i := 4) (tX.c c (exSub hc) C ns).1 hz hf z_isinstance (pe_glob (v := .ref C_InvalidScene) rfl y_InvalidScene.g rfl) (fun u r => by cases r; rfl) (tX.i c (exSub hc) "InvalidScene" (by decide +kernel) C C_InvalidScene ns y_InvalidScene.ns))) (ad_cons (by exact (ae_isE (i := 4) (tX.c c (exSub hc) C ns).1 hz hf z_isinstance (pe_glob (v := .ref C_InvalidBars) rfl y_InvalidBars.g rfl) (fun u r => by cases r; rfl) (tX.i c (exSub hc) "InvalidBars" (by decide +kernel) C C_InvalidBars ns y_InvalidBars.ns))) (ad_cons (by exact (ae_isE (i := 4) (tX.c c (exSub hc) C ns).1 hz hf z_isinstance (pe_glob (v := .ref C_NoneFits) rfl y_NoneFits.g rfl) (fun u r => by cases r; rfl) (tX.i c (exSub hc) "NoneFits" (by decide +kernel) C C_NoneFits ns y_NoneFits.ns))) ad_nil)))))))
      Suites.nil))
    (axs_b (as_one (as_app (av 1) (av 3)))))))
    (axs_b (as_one (as_ret (av 1))))))) wp_l_caught
abbrev s_l_right : Stmt := topS 50
theorem sc_l_right : FnScope ["_law_spring_here", "_law_thing", "_law_told", "_law_some", "_law_at", "_law_bare", "_law_due"] ["_law_spring_here"] (defScope s_l_right) := ⟨rfl, rfl, rfl, by decide +kernel, rfl, by decide +kernel, by decide +kernel⟩
theorem h_l_right (D : DefK K "_law_right" s_l_right) (X : K.In h) (G : h.Ns mainGlobals mg) (h_l_pick : HasM P w K mg base 2 "_law_pick" ["_law_spring_here", "_law_some"] F_l_pick) (h_l_odd : HasM P w K mg base 3 "_law_odd" ["_law_spring_here"] F_l_odd) (h_l_fraction : HasM P w K mg base 3 "_law_fraction" ["_law_spring_here"] F_l_fraction) (h_l_draw : HasM P w K mg base 1 "_law_draw" ["_law_spring_here", "_law_many"] F_l_draw) (h_l_by_place : HasP P w K mg base 2 "_law_by_place" ["_law_thing"] F_l_by_place) (h_l_by_name : HasP P w K mg base 2 "_law_by_name" ["_law_thing"] F_l_by_name) (h_l_is_alone : HasP P w K mg base 3 "_law_is_alone" ["_law_e", "_law_at"] F_l_is_alone) (h_l_at_place : HasP P w K mg base 2 "_law_at_place" ["_law_thing"] F_l_at_place) (h_l_at_name : HasP P w K mg base 2 "_law_at_name" ["_law_thing"] F_l_at_name) (h_l_truths : HasP P w K mg base 2 "_law_truths" ["_law_e"] F_l_truths) (h_l_caught : HasP P w K mg base 2 "_law_caught" ["_law_thing"] F_l_caught) (z_repr : mg "repr" = none) (z_len : mg "len" = none) (z_range : mg "range" = none) (z_isinstance : mg "isinstance" = none) (z_ValueError : mg "ValueError" = none) (tX : ExTab K exCs) (e_NoStep : Ex0 K mg "NoStep" C_NoStep) (e_NoneFits : Ex0 K mg "NoneFits" C_NoneFits) (e_NothingToUndo : Ex0 K mg "NothingToUndo" C_NothingToUndo) (e_RoadError : Ex0 K mg "RoadError" C_RoadError) :
    HasM P w K mg base 4 "_law_right" ["_law_spring_here"] F_l_right :=
  HasM.of (N := ["_law_spring_here", "_law_thing", "_law_told", "_law_some", "_law_at", "_law_bare", "_law_due"]) (t := t_l_right) D X G (fun _ _ _ _ _ _ us hl => match us, hl with | [_], _ => rfl) sc_l_right len_l_right (fun f cdv A outer s H E room => (as_cons (as_set (i := 1) sc_l_right.nd rfl (by first | exact Or.inl rfl | exact Or.inr rfl) (acM h_l_pick (room.mono (by decide)) (av 0) (ad_cons (ae_lst (ad_cons (acM h_l_odd (room.mono (by decide)) (av 0) ad_nil) (ad_cons (acM h_l_fraction (room.mono (by decide)) (av 0) ad_nil) (ad_cons (acM h_l_draw (room.mono (by decide)) (av 0) (ad_cons (ae_pow ae_int ae_int) ad_nil)) (ad_cons (ae_tup (ad_cons ae_str (ad_cons (ae_lst (ad_cons (acM h_l_odd (room.mono (by decide)) (av 0) ad_nil) ad_nil)) ad_nil))) ad_nil))))) ad_nil)))
    (as_cons (as_set (i := 2) sc_l_right.nd rfl (by first | exact Or.inl rfl | exact Or.inr rfl) (ae_reprD room.gd room.room.units (by rfl) z_repr (av 1)))
    (as_cons (as_for PassesOwn.never rfl (ai_seq (ae_lst (ad_cons (ac h_l_by_place (room.mono (by decide)) (ad_cons (av 1) ad_nil)) (ad_cons (ac h_l_by_name (room.mono (by decide)) (ad_cons (av 1) ad_nil)) ad_nil)))) (ag_name sc_l_right.nd rfl (by first | exact Or.inl rfl | exact Or.inr rfl)) (as_one (as_if (ab_cmpC (c_neZ room.room.units) (ae_lc (own := [("_law_at", 4)]) (G := (.one 4)) rfl sc_l_right.nd (ai_rng1 (by rfl) z_range (ae_len (by rfl) z_len (av 3))) (blkOk_by (sc := defScope s_l_right) (own := [("_law_at", 4)]) (N := ["_law_spring_here", "_law_thing", "_law_told", "_law_some", "_law_at", "_law_bare", "_law_due"]) (by decide +kernel)) (fun _ _ _ _ _ => pgo_one sc_l_right.nd rfl (by first | exact Or.inl rfl | exact Or.inr rfl)) (fun _ _ _ _ _ => abs_one (ab_w (aw_or (ab_cmpC (c_ne room.room.units) (ae_reprD room.gd room.room.units (by rfl) z_repr (ae_attV tX (by exact Or.inl rfl) (ae_ix (av 3) (av 4)))) (av 2)) (aw_or1 (ab_not (ab_val (ac h_l_is_alone (room.mono (by decide)) (ad_cons (ae_ix (av 3) (av 4)) (ad_cons (av 4) ad_nil))))))))) (fun _ _ _ _ _ => (av 4))) (ae_lst ad_nil)) (as_one (as_ret ae_bl)) as_nil)))
    (as_cons (as_for PassesOwn.never rfl (ai_seq (ae_lst (ad_cons (ac h_l_at_place (room.mono (by decide)) (ad_cons (av 1) ad_nil)) (ad_cons (ac h_l_at_name (room.mono (by decide)) (ad_cons (av 1) ad_nil)) ad_nil)))) (ag_name sc_l_right.nd rfl (by first | exact Or.inl rfl | exact Or.inr rfl)) (as_one (as_if (ab_cmpC (c_neZ room.room.units) (ae_lc (own := [("_law_at", 4)]) (G := (.one 4)) rfl sc_l_right.nd (ai_rng1 (by rfl) z_range (ae_len (by rfl) z_len (av 3))) (blkOk_by (sc := defScope s_l_right) (own := [("_law_at", 4)]) (N := ["_law_spring_here", "_law_thing", "_law_told", "_law_some", "_law_at", "_law_bare", "_law_due"]) (by decide +kernel)) (fun _ _ _ _ _ => pgo_one sc_l_right.nd rfl (by first | exact Or.inl rfl | exact Or.inr rfl)) (fun _ _ _ _ _ => abs_one (ab_w (aw_or (ab_cmpC (c_ne room.room.units) (ae_reprD room.gd room.room.units (by rfl) z_repr (ae_attV tX (by exact Or.inr rfl) (ae_ix (av 3) (av 4)))) (av 2)) (aw_or1 (ab_not (ab_val (ac h_l_is_alone (room.mono (by decide)) (ad_cons (ae_ix (av 3) (av 4)) (ad_cons (ae_add (av 4) ae_int) ad_nil))))))))) (fun _ _ _ _ _ => (av 4))) (ae_lst ad_nil)) (as_one (as_ret ae_bl)) as_nil)))
    (as_cons (as_set (i := 5) sc_l_right.nd rfl (by first | exact Or.inl rfl | exact Or.inr rfl) (ae_lst (ad_cons (ae_mk0 e_NoStep) (ad_cons (ae_mk0 e_NoneFits) (ad_cons (ae_mk0 e_NothingToUndo) ad_nil)))))
    (as_cons (as_if (ab_w (aw_or (ab_cmpC (c_neZ room.room.units) (ae_lc (own := [("_law_at", 4)]) (G := (.one 4)) rfl sc_l_right.nd (ai_rng1 (by rfl) z_range ae_int) (blkOk_by (sc := defScope s_l_right) (own := [("_law_at", 4)]) (N := ["_law_spring_here", "_law_thing", "_law_told", "_law_some", "_law_at", "_law_bare", "_law_due"]) (by decide +kernel)) (fun _ _ _ _ _ => pgo_one sc_l_right.nd rfl (by first | exact Or.inl rfl | exact Or.inr rfl)) (fun _ _ _ _ _ => abs_one (ab_not (ab_val (ac h_l_is_alone (room.mono (by decide)) (ad_cons (ae_ix (av 5) (av 4)) (ad_cons (ae_add (av 4) ae_int) ad_nil)))))) (fun _ _ _ _ _ => (av 4))) (ae_lst ad_nil)) (aw_or1 (ab_cmp op_in_seq ok_inB rfl ae_bl (ac h_l_truths (room.mono (by decide)) (ad_cons (ae_mk0 e_RoadError) ad_nil)))))) (as_one (as_ret ae_bl)) as_nil)
    (as_cons (as_set (i := 6) sc_l_right.nd rfl (by first | exact Or.inl rfl | exact Or.inr rfl) (ae_lst (ad_cons (ae_lst (ad_cons ae_bl (ad_cons ae_bl (ad_cons ae_bl ad_nil)))) (ad_cons (ae_lst (ad_cons ae_bl (ad_cons ae_bl (ad_cons ae_bl ad_nil)))) (ad_cons (ae_lst (ad_cons ae_bl (ad_cons ae_bl (ad_cons ae_bl ad_nil)))) (ad_cons (ae_lst (ad_cons ae_bl (ad_cons ae_bl (ad_cons ae_bl ad_nil)))) ad_nil))))))
    (as_one (as_ret (ae_and (ae_cmpC (c_eq room.room.units) (ac h_l_caught (room.mono (by decide)) (ad_cons (av 1) ad_nil)) (av 6)) (ae_and (ae_isVV tX z_isinstance z_ValueError (ae_mk0 e_RoadError)) (ae_one (ae_cmpC (c_eq room.room.units) (ae_reprD room.gd room.room.units (by rfl) z_repr (av 1)) (av 2))))))))))))))) wp_l_right
abbrev s_p_law : Stmt := topS 51
theorem sc_p_law : FnScope ["_law_script", "_law_turn"] ["_law_script"] (defScope s_p_law) := ⟨rfl, rfl, rfl, by decide +kernel, rfl, by decide +kernel, by decide +kernel⟩
theorem h_p_law (D : DefK K "law" s_p_law) (X : K.In h) (G : h.Ns mainGlobals mg) (h_l_right : HasM P w K mg base 4 "_law_right" ["_law_spring_here"] F_l_right) (h_l_spring : HasP P w K mg base 1 "_law_spring" ["_law_script", "_law_turn"] F_l_spring) (z_len : mg "len" = none) (z_min : mg "min" = none) (z_max : mg "max" = none) (z_range : mg "range" = none) (z_all : mg "all" = none) :
    HasP P w K mg base 5 "law" ["_law_script"] F_p_law :=
  HasP.of (N := ["_law_script", "_law_turn"]) (t := t_p_law) D X G (fun _ _ _ _ _ _ us hl => match us, hl with | [_], _ => rfl) sc_p_law len_p_law (fun f cdv A outer s H E room => (as_one (as_ret (ae_all rfl (by rfl) z_all (ae_lc (own := [("_law_turn", 1)]) (G := (.one 1)) rfl sc_p_law.nd (ai_rng1 (by rfl) z_range (ae_max rfl (by rfl) z_max ae_int (ae_min rfl (by rfl) z_min (ae_len (by rfl) z_len (av 0)) ae_int))) (blkOk_by (sc := defScope s_p_law) (own := [("_law_turn", 1)]) (N := ["_law_script", "_law_turn"]) (by decide +kernel)) (fun _ _ _ _ _ => pgo_one sc_p_law.nd rfl (by first | exact Or.inl rfl | exact Or.inr rfl)) (fun _ _ _ _ _ => abs_nil) (fun _ _ _ _ _ => (acM h_l_right (room.mono (by decide)) (ac h_l_spring (room.mono (by decide)) (ad_cons (av 0) (ad_cons (av 1) ad_nil))) ad_nil))))))) wp_p_law
theorem all_mk {fa C_InvalidFraction C_InvalidAmount C_InvalidContent C_InvalidNumber C_InvalidIndex C_InvalidKind C_InvalidDensity C_InvalidFlow C_InvalidPlace C_InvalidMoment C_InvalidSpeed C_InvalidWay C_InvalidScene C_InvalidCounts C_InvalidRims C_InvalidBook C_InvalidName C_InvalidWish C_InvalidPhrase C_NotAWorkshop C_UnknownName C_TooMany C_InvalidBeginning C_InvalidComings C_InvalidBars C_InvalidRow C_InvalidMarks C_InUse C_Broken C_NoStep C_NoneFits C_NothingToUndo fI_InvalidFraction fI_InvalidAmount fI_InvalidContent fI_InvalidNumber fI_InvalidIndex fI_InvalidKind fI_InvalidDensity fI_InvalidFlow fI_InvalidPlace fI_InvalidMoment fI_InvalidSpeed fI_InvalidWay fI_InvalidScene fI_InvalidCounts fI_InvalidRims fI_InvalidBook fI_InvalidName fI_InvalidWish fI_InvalidPhrase fI_NotAWorkshop fI_UnknownName fI_TooMany fI_InvalidBeginning fI_InvalidComings fI_InvalidBars fI_InvalidRow fI_InvalidMarks fI_InUse fI_Broken C_RoadError : Addr} (X : K.In h) (G : h.Ns mainGlobals mg) (hmg : mg "law" = some (.ref fa)) (D_l_spring : DefK K "_law_spring" s_l_spring)
    (D_l_draw : DefK K "_law_draw" s_l_draw)
    (D_l_pick : DefK K "_law_pick" s_l_pick)
    (D_l_shared1 : DefK K "_law_shared" s_l_shared1)
    (D_l_frac1 : DefK K "_law_frac" s_l_frac1)
    (D_l_odd : DefK K "_law_odd" s_l_odd)
    (D_l_fraction : DefK K "_law_fraction" s_l_fraction)
    (D_l_first_truths : DefK K "_law_first_truths" s_l_first_truths)
    (D_l_truths : DefK K "_law_truths" s_l_truths)
    (D_l_by_place : DefK K "_law_by_place" s_l_by_place)
    (D_l_by_name : DefK K "_law_by_name" s_l_by_name)
    (D_l_at_place : DefK K "_law_at_place" s_l_at_place)
    (D_l_at_name : DefK K "_law_at_name" s_l_at_name)
    (D_l_is_alone : DefK K "_law_is_alone" s_l_is_alone)
    (D_l_caught : DefK K "_law_caught" s_l_caught)
    (D_l_right : DefK K "_law_right" s_l_right)
    (D_p_law : DefK K "law" s_p_law)
    (z_len : mg "len" = none)
    (z_int : mg "int" = none)
    (z_sum : mg "sum" = none)
    (z_abs : mg "abs" = none)
    (z_isinstance : mg "isinstance" = none)
    (z_range : mg "range" = none)
    (z_ValueError : mg "ValueError" = none)
    (z_LookupError : mg "LookupError" = none)
    (z_TypeError : mg "TypeError" = none)
    (z_ArithmeticError : mg "ArithmeticError" = none)
    (z_repr : mg "repr" = none)
    (z_min : mg "min" = none)
    (z_max : mg "max" = none)
    (z_all : mg "all" = none)
    (y_InvalidFraction : ClsK K mg "InvalidFraction" C_InvalidFraction)
    (tX : ExTab K exCs)
    (y_InvalidAmount : ClsK K mg "InvalidAmount" C_InvalidAmount)
    (y_InvalidContent : ClsK K mg "InvalidContent" C_InvalidContent)
    (y_InvalidNumber : ClsK K mg "InvalidNumber" C_InvalidNumber)
    (y_InvalidIndex : ClsK K mg "InvalidIndex" C_InvalidIndex)
    (y_InvalidKind : ClsK K mg "InvalidKind" C_InvalidKind)
    (y_InvalidDensity : ClsK K mg "InvalidDensity" C_InvalidDensity)
    (y_InvalidFlow : ClsK K mg "InvalidFlow" C_InvalidFlow)
    (y_InvalidPlace : ClsK K mg "InvalidPlace" C_InvalidPlace)
    (y_InvalidMoment : ClsK K mg "InvalidMoment" C_InvalidMoment)
    (y_InvalidSpeed : ClsK K mg "InvalidSpeed" C_InvalidSpeed)
    (y_InvalidWay : ClsK K mg "InvalidWay" C_InvalidWay)
    (y_InvalidScene : ClsK K mg "InvalidScene" C_InvalidScene)
    (y_InvalidCounts : ClsK K mg "InvalidCounts" C_InvalidCounts)
    (y_InvalidRims : ClsK K mg "InvalidRims" C_InvalidRims)
    (y_InvalidBook : ClsK K mg "InvalidBook" C_InvalidBook)
    (y_InvalidName : ClsK K mg "InvalidName" C_InvalidName)
    (y_InvalidWish : ClsK K mg "InvalidWish" C_InvalidWish)
    (y_InvalidPhrase : ClsK K mg "InvalidPhrase" C_InvalidPhrase)
    (y_NotAWorkshop : ClsK K mg "NotAWorkshop" C_NotAWorkshop)
    (y_UnknownName : ClsK K mg "UnknownName" C_UnknownName)
    (y_TooMany : ClsK K mg "TooMany" C_TooMany)
    (y_InvalidBeginning : ClsK K mg "InvalidBeginning" C_InvalidBeginning)
    (y_InvalidComings : ClsK K mg "InvalidComings" C_InvalidComings)
    (y_InvalidBars : ClsK K mg "InvalidBars" C_InvalidBars)
    (y_InvalidRow : ClsK K mg "InvalidRow" C_InvalidRow)
    (y_InvalidMarks : ClsK K mg "InvalidMarks" C_InvalidMarks)
    (y_InUse : ClsK K mg "InUse" C_InUse)
    (y_Broken : ClsK K mg "Broken" C_Broken)
    (y_NoStep : ClsK K mg "NoStep" C_NoStep)
    (y_NoneFits : ClsK K mg "NoneFits" C_NoneFits)
    (y_NothingToUndo : ClsK K mg "NothingToUndo" C_NothingToUndo)
    (e_InvalidFraction : Ex1 "given" P K mg "InvalidFraction" C_InvalidFraction fI_InvalidFraction)
    (e_InvalidAmount : Ex1 "given" P K mg "InvalidAmount" C_InvalidAmount fI_InvalidAmount)
    (e_InvalidContent : Ex1 "given" P K mg "InvalidContent" C_InvalidContent fI_InvalidContent)
    (e_InvalidNumber : Ex1 "given" P K mg "InvalidNumber" C_InvalidNumber fI_InvalidNumber)
    (e_InvalidIndex : Ex1 "given" P K mg "InvalidIndex" C_InvalidIndex fI_InvalidIndex)
    (e_InvalidKind : Ex1 "given" P K mg "InvalidKind" C_InvalidKind fI_InvalidKind)
    (e_InvalidDensity : Ex1 "given" P K mg "InvalidDensity" C_InvalidDensity fI_InvalidDensity)
    (e_InvalidFlow : Ex1 "given" P K mg "InvalidFlow" C_InvalidFlow fI_InvalidFlow)
    (e_InvalidPlace : Ex1 "given" P K mg "InvalidPlace" C_InvalidPlace fI_InvalidPlace)
    (e_InvalidMoment : Ex1 "given" P K mg "InvalidMoment" C_InvalidMoment fI_InvalidMoment)
    (e_InvalidSpeed : Ex1 "given" P K mg "InvalidSpeed" C_InvalidSpeed fI_InvalidSpeed)
    (e_InvalidWay : Ex1 "given" P K mg "InvalidWay" C_InvalidWay fI_InvalidWay)
    (e_InvalidScene : Ex1 "given" P K mg "InvalidScene" C_InvalidScene fI_InvalidScene)
    (e_InvalidCounts : Ex1 "given" P K mg "InvalidCounts" C_InvalidCounts fI_InvalidCounts)
    (e_InvalidRims : Ex1 "given" P K mg "InvalidRims" C_InvalidRims fI_InvalidRims)
    (e_InvalidBook : Ex1 "given" P K mg "InvalidBook" C_InvalidBook fI_InvalidBook)
    (e_InvalidName : Ex1 "given" P K mg "InvalidName" C_InvalidName fI_InvalidName)
    (e_InvalidWish : Ex1 "given" P K mg "InvalidWish" C_InvalidWish fI_InvalidWish)
    (e_InvalidPhrase : Ex1 "given" P K mg "InvalidPhrase" C_InvalidPhrase fI_InvalidPhrase)
    (e_NotAWorkshop : Ex1 "given" P K mg "NotAWorkshop" C_NotAWorkshop fI_NotAWorkshop)
    (e_UnknownName : Ex1 "given" P K mg "UnknownName" C_UnknownName fI_UnknownName)
    (e_TooMany : Ex1 "given" P K mg "TooMany" C_TooMany fI_TooMany)
    (e_InvalidBeginning : Ex1 "index" P K mg "InvalidBeginning" C_InvalidBeginning fI_InvalidBeginning)
    (e_InvalidComings : Ex1 "index" P K mg "InvalidComings" C_InvalidComings fI_InvalidComings)
    (e_InvalidBars : Ex1 "index" P K mg "InvalidBars" C_InvalidBars fI_InvalidBars)
    (e_InvalidRow : Ex1 "index" P K mg "InvalidRow" C_InvalidRow fI_InvalidRow)
    (e_InvalidMarks : Ex1 "index" P K mg "InvalidMarks" C_InvalidMarks fI_InvalidMarks)
    (e_InUse : Ex1 "index" P K mg "InUse" C_InUse fI_InUse)
    (e_Broken : Ex1 "index" P K mg "Broken" C_Broken fI_Broken)
    (y_RoadError : ClsK K mg "RoadError" C_RoadError)
    (e_NoneFits : Ex0 K mg "NoneFits" C_NoneFits)
    (e_RoadError : Ex0 K mg "RoadError" C_RoadError)
    (e_NoStep : Ex0 K mg "NoStep" C_NoStep)
    (e_NothingToUndo : Ex0 K mg "NothingToUndo" C_NothingToUndo) :
    ∃ fd : FuncData, (∀ (s : Shared) (u : Value), BindsTo s fd ⟨[u], []⟩ [("_law_script", u)]) ∧ ∀ base : Heap, K.In base → base.Ns mainGlobals mg → (∀ y, (none : Option Str) = some y → LamK K mg base y) → FnG P w K mg base CX0 5 fa fd ["_law_script"] (SpP K F_p_law) := by
  refine HasP.fin D_p_law X G hmg (fun base cd => ?_) (fun _ _ _ _ _ _ us hl => match us, hl with | [_], _ => rfl)
  have h_l_spring := h_l_spring (P := P) (w := w) (base := base) D_l_spring X G z_len z_int z_sum z_abs
  have h_l_draw := h_l_draw (P := P) (w := w) (base := base) D_l_draw X G z_int
  have h_l_shared1 := h_l_shared1 (P := P) (w := w) (base := base) D_l_shared1 X G z_abs z_int
  have h_l_first_truths := h_l_first_truths (P := P) (w := w) (base := base) D_l_first_truths X G z_isinstance y_InvalidFraction tX y_InvalidAmount y_InvalidContent y_InvalidNumber y_InvalidIndex y_InvalidKind y_InvalidDensity y_InvalidFlow y_InvalidPlace y_InvalidMoment y_InvalidSpeed y_InvalidWay y_InvalidScene y_InvalidCounts y_InvalidRims y_InvalidBook y_InvalidName y_InvalidWish y_InvalidPhrase y_NotAWorkshop y_UnknownName y_TooMany
  have h_l_pick := h_l_pick (P := P) (w := w) (base := base) D_l_pick X G h_l_draw z_len
  have h_l_frac1 := h_l_frac1 (P := P) (w := w) (base := base) D_l_frac1 X G h_l_shared1
  have h_l_truths := h_l_truths (P := P) (w := w) (base := base) D_l_truths X G h_l_first_truths z_isinstance y_InvalidBeginning tX y_InvalidComings y_InvalidBars y_InvalidRow y_InvalidMarks y_InUse y_Broken y_NoStep y_NoneFits y_NothingToUndo
  have h_l_by_place := h_l_by_place (P := P) (w := w) (base := base) D_l_by_place X G e_InvalidFraction e_InvalidAmount e_InvalidContent e_InvalidNumber e_InvalidIndex e_InvalidKind e_InvalidDensity e_InvalidFlow e_InvalidPlace e_InvalidMoment e_InvalidSpeed e_InvalidWay e_InvalidScene e_InvalidCounts e_InvalidRims e_InvalidBook e_InvalidName e_InvalidWish e_InvalidPhrase e_NotAWorkshop e_UnknownName e_TooMany
  have h_l_by_name := h_l_by_name (P := P) (w := w) (base := base) D_l_by_name X G e_InvalidFraction e_InvalidAmount e_InvalidContent e_InvalidNumber e_InvalidIndex e_InvalidKind e_InvalidDensity e_InvalidFlow e_InvalidPlace e_InvalidMoment e_InvalidSpeed e_InvalidWay e_InvalidScene e_InvalidCounts e_InvalidRims e_InvalidBook e_InvalidName e_InvalidWish e_InvalidPhrase e_NotAWorkshop e_UnknownName e_TooMany
  have h_l_at_place := h_l_at_place (P := P) (w := w) (base := base) D_l_at_place X G e_InvalidBeginning e_InvalidComings e_InvalidBars e_InvalidRow e_InvalidMarks e_InUse e_Broken
  have h_l_at_name := h_l_at_name (P := P) (w := w) (base := base) D_l_at_name X G e_InvalidBeginning e_InvalidComings e_InvalidBars e_InvalidRow e_InvalidMarks e_InUse e_Broken
  have h_l_caught := h_l_caught (P := P) (w := w) (base := base) D_l_caught X G z_range z_isinstance e_InvalidScene e_InvalidBars e_NoneFits e_RoadError y_RoadError tX y_InvalidScene y_InvalidBars y_NoneFits
  have h_l_odd := h_l_odd (P := P) (w := w) (base := base) D_l_odd X G h_l_pick
  have h_l_fraction := h_l_fraction (P := P) (w := w) (base := base) D_l_fraction X G h_l_frac1 h_l_draw h_l_pick
  have h_l_is_alone := h_l_is_alone (P := P) (w := w) (base := base) D_l_is_alone X G h_l_truths z_range z_isinstance z_ValueError z_LookupError z_TypeError z_ArithmeticError y_RoadError tX
  have h_l_right := h_l_right (P := P) (w := w) (base := base) D_l_right X G h_l_pick h_l_odd h_l_fraction h_l_draw h_l_by_place h_l_by_name h_l_is_alone h_l_at_place h_l_at_name h_l_truths h_l_caught z_repr z_len z_range z_isinstance z_ValueError tX e_NoStep e_NoneFits e_NothingToUndo e_RoadError
  have h_p_law := h_p_law (P := P) (w := w) (base := base) D_p_law X G h_l_right h_l_spring z_len z_min z_max z_range z_all
  exact h_p_law
end
end DL
open PySem PySem.W PyProof.Rows
set_option maxHeartbeats 0 in
theorem PySem.Challenge.cw_roadwaves_k01_errors_each_of_its_own_holds : PySem.Challenge.rw_roadwaves_k01_errors_each_of_its_own.Holds := by
  refine headK ?_
  k_fill
  refine' DL.walk_ofT (l := PySem.Challenge.rw_roadwaves_k01_errors_each_of_its_own) (n := 63) (k := 5) (x := "_law_script") (sp := fun T K => @DL.SpP T K DL.F_p_law) (none) rfl (by decide) rfl ⟨rfl, by decide, by decide⟩ (fun w h Y => PySem.W.kIn_of Y) ?R ?L ?F (fun T K H a ns few ts S => DL.law_sp ts S fun P h => ⟨ns, rfl, few, h⟩)
  case R =>
    intro y e
    cases e
  case L =>
    intro w h y KX e
    cases e
  case F =>
    intro T w mg fa h KX G hmg
    refine' DL.all_mk KX G hmg (DL.defK_mk ?a0 ?l0 ?c0 ?q0)
      (DL.defK_mk ?a1 ?l1 ?c1 ?q1)
      (DL.defK_mk ?a2 ?l2 ?c2 ?q2)
      (DL.defK_mk ?a3 ?l3 ?c3 ?q3)
      (DL.defK_mk ?a4 ?l4 ?c4 ?q4)
      (DL.defK_mk ?a5 ?l5 ?c5 ?q5)
      (DL.defK_mk ?a6 ?l6 ?c6 ?q6)
      (DL.defK_mk ?a7 ?l7 ?c7 ?q7)
      (DL.defK_mk ?a8 ?l8 ?c8 ?q8)
      (DL.defK_mk ?a9 ?l9 ?c9 ?q9)
      (DL.defK_mk ?a10 ?l10 ?c10 ?q10)
      (DL.defK_mk ?a11 ?l11 ?c11 ?q11)
      (DL.defK_mk ?a12 ?l12 ?c12 ?q12)
      (DL.defK_mk ?a13 ?l13 ?c13 ?q13)
      (DL.defK_mk ?a14 ?l14 ?c14 ?q14)
      (DL.defK_mk ?a15 ?l15 ?c15 ?q15)
      (DL.defK_mk ?a16 ?l16 ?c16 ?q16)
      (PySem.W.mg_none_of KX G ?zlen)
      (PySem.W.mg_none_of KX G ?zint)
      (PySem.W.mg_none_of KX G ?zsum)
      (PySem.W.mg_none_of KX G ?zabs)
      (PySem.W.mg_none_of KX G ?zisinstance)
      (PySem.W.mg_none_of KX G ?zrange)
      (PySem.W.mg_none_of KX G ?zValueError)
      (PySem.W.mg_none_of KX G ?zLookupError)
      (PySem.W.mg_none_of KX G ?zTypeError)
      (PySem.W.mg_none_of KX G ?zArithmeticError)
      (PySem.W.mg_none_of KX G ?zrepr)
      (PySem.W.mg_none_of KX G ?zmin)
      (PySem.W.mg_none_of KX G ?zmax)
      (PySem.W.mg_none_of KX G ?zall)
      (DL.clsK_mk KX G ?y_InvalidFraction)
      (DL.exTab_mk (DL.nsl_cons (x := "RoadError") ?tXn0 (DL.nsl_cons (x := "InvalidFraction") ?tXn1 (DL.nsl_cons (x := "InvalidAmount") ?tXn2 (DL.nsl_cons (x := "InvalidContent") ?tXn3 (DL.nsl_cons (x := "InvalidNumber") ?tXn4 (DL.nsl_cons (x := "InvalidIndex") ?tXn5 (DL.nsl_cons (x := "InvalidKind") ?tXn6 (DL.nsl_cons (x := "InvalidDensity") ?tXn7 (DL.nsl_cons (x := "InvalidFlow") ?tXn8 (DL.nsl_cons (x := "InvalidPlace") ?tXn9 (DL.nsl_cons (x := "InvalidMoment") ?tXn10 (DL.nsl_cons (x := "InvalidSpeed") ?tXn11 (DL.nsl_cons (x := "InvalidWay") ?tXn12 (DL.nsl_cons (x := "InvalidScene") ?tXn13 (DL.nsl_cons (x := "InvalidCounts") ?tXn14 (DL.nsl_cons (x := "InvalidRims") ?tXn15 (DL.nsl_cons (x := "InvalidBook") ?tXn16 (DL.nsl_cons (x := "InvalidName") ?tXn17 (DL.nsl_cons (x := "InvalidWish") ?tXn18 (DL.nsl_cons (x := "InvalidPhrase") ?tXn19 (DL.nsl_cons (x := "NotAWorkshop") ?tXn20 (DL.nsl_cons (x := "UnknownName") ?tXn21 (DL.nsl_cons (x := "TooMany") ?tXn22 (DL.nsl_cons (x := "InvalidBeginning") ?tXn23 (DL.nsl_cons (x := "InvalidComings") ?tXn24 (DL.nsl_cons (x := "InvalidBars") ?tXn25 (DL.nsl_cons (x := "InvalidRow") ?tXn26 (DL.nsl_cons (x := "InvalidMarks") ?tXn27 (DL.nsl_cons (x := "InUse") ?tXn28 (DL.nsl_cons (x := "Broken") ?tXn29 (DL.nsl_cons (x := "NoStep") ?tXn30 (DL.nsl_cons (x := "NoneFits") ?tXn31 (DL.nsl_cons (x := "NothingToUndo") ?tXn32 DL.nsl_nil))))))))))))))))))))))))))))))))) ?tXb)
      (DL.clsK_mk KX G ?y_InvalidAmount)
      (DL.clsK_mk KX G ?y_InvalidContent)
      (DL.clsK_mk KX G ?y_InvalidNumber)
      (DL.clsK_mk KX G ?y_InvalidIndex)
      (DL.clsK_mk KX G ?y_InvalidKind)
      (DL.clsK_mk KX G ?y_InvalidDensity)
      (DL.clsK_mk KX G ?y_InvalidFlow)
      (DL.clsK_mk KX G ?y_InvalidPlace)
      (DL.clsK_mk KX G ?y_InvalidMoment)
      (DL.clsK_mk KX G ?y_InvalidSpeed)
      (DL.clsK_mk KX G ?y_InvalidWay)
      (DL.clsK_mk KX G ?y_InvalidScene)
      (DL.clsK_mk KX G ?y_InvalidCounts)
      (DL.clsK_mk KX G ?y_InvalidRims)
      (DL.clsK_mk KX G ?y_InvalidBook)
      (DL.clsK_mk KX G ?y_InvalidName)
      (DL.clsK_mk KX G ?y_InvalidWish)
      (DL.clsK_mk KX G ?y_InvalidPhrase)
      (DL.clsK_mk KX G ?y_NotAWorkshop)
      (DL.clsK_mk KX G ?y_UnknownName)
      (DL.clsK_mk KX G ?y_TooMany)
      (DL.clsK_mk KX G ?y_InvalidBeginning)
      (DL.clsK_mk KX G ?y_InvalidComings)
      (DL.clsK_mk KX G ?y_InvalidBars)
      (DL.clsK_mk KX G ?y_InvalidRow)
      (DL.clsK_mk KX G ?y_InvalidMarks)
      (DL.clsK_mk KX G ?y_InUse)
      (DL.clsK_mk KX G ?y_Broken)
      (DL.clsK_mk KX G ?y_NoStep)
      (DL.clsK_mk KX G ?y_NoneFits)
      (DL.clsK_mk KX G ?y_NothingToUndo)
      (DL.gxn_mk (fl := "given") (st := DL.initOf (DL.topS 2)) ⟨_, _, rfl⟩ ⟨_, _, _, _, _, _, _, _, _, _, _, _, rfl, rfl⟩ rfl KX G ?e_InvalidFractiona ?e_InvalidFractionb ?e_InvalidFractionc ?e_InvalidFractiond ?e_InvalidFractione ?e_InvalidFractionf ?e_InvalidFractiong ?e_InvalidFractionh ?e_InvalidFractioni ?e_InvalidFractionj ?e_InvalidFractionk ?e_InvalidFractionl ?e_InvalidFractionm ?e_InvalidFractionn ?e_InvalidFractiono ?e_InvalidFractionp ?e_InvalidFractionq ?e_InvalidFractionr ?e_InvalidFractions ?e_InvalidFractiont ?e_InvalidFractionu ?e_InvalidFractionv ?e_InvalidFractionw ?e_InvalidFractionx ?e_InvalidFractiony ?e_InvalidFractionz (Or.inl rfl))
      (DL.gxn_mk (fl := "given") (st := DL.initOf (DL.topS 3)) ⟨_, _, rfl⟩ ⟨_, _, _, _, _, _, _, _, _, _, _, _, rfl, rfl⟩ rfl KX G ?e_InvalidAmounta ?e_InvalidAmountb ?e_InvalidAmountc ?e_InvalidAmountd ?e_InvalidAmounte ?e_InvalidAmountf ?e_InvalidAmountg ?e_InvalidAmounth ?e_InvalidAmounti ?e_InvalidAmountj ?e_InvalidAmountk ?e_InvalidAmountl ?e_InvalidAmountm ?e_InvalidAmountn ?e_InvalidAmounto ?e_InvalidAmountp ?e_InvalidAmountq ?e_InvalidAmountr ?e_InvalidAmounts ?e_InvalidAmountt ?e_InvalidAmountu ?e_InvalidAmountv ?e_InvalidAmountw ?e_InvalidAmountx ?e_InvalidAmounty ?e_InvalidAmountz (Or.inl rfl))
      (DL.gxn_mk (fl := "given") (st := DL.initOf (DL.topS 4)) ⟨_, _, rfl⟩ ⟨_, _, _, _, _, _, _, _, _, _, _, _, rfl, rfl⟩ rfl KX G ?e_InvalidContenta ?e_InvalidContentb ?e_InvalidContentc ?e_InvalidContentd ?e_InvalidContente ?e_InvalidContentf ?e_InvalidContentg ?e_InvalidContenth ?e_InvalidContenti ?e_InvalidContentj ?e_InvalidContentk ?e_InvalidContentl ?e_InvalidContentm ?e_InvalidContentn ?e_InvalidContento ?e_InvalidContentp ?e_InvalidContentq ?e_InvalidContentr ?e_InvalidContents ?e_InvalidContentt ?e_InvalidContentu ?e_InvalidContentv ?e_InvalidContentw ?e_InvalidContentx ?e_InvalidContenty ?e_InvalidContentz (Or.inl rfl))
      (DL.gxn_mk (fl := "given") (st := DL.initOf (DL.topS 5)) ⟨_, _, rfl⟩ ⟨_, _, _, _, _, _, _, _, _, _, _, _, rfl, rfl⟩ rfl KX G ?e_InvalidNumbera ?e_InvalidNumberb ?e_InvalidNumberc ?e_InvalidNumberd ?e_InvalidNumbere ?e_InvalidNumberf ?e_InvalidNumberg ?e_InvalidNumberh ?e_InvalidNumberi ?e_InvalidNumberj ?e_InvalidNumberk ?e_InvalidNumberl ?e_InvalidNumberm ?e_InvalidNumbern ?e_InvalidNumbero ?e_InvalidNumberp ?e_InvalidNumberq ?e_InvalidNumberr ?e_InvalidNumbers ?e_InvalidNumbert ?e_InvalidNumberu ?e_InvalidNumberv ?e_InvalidNumberw ?e_InvalidNumberx ?e_InvalidNumbery ?e_InvalidNumberz (Or.inl rfl))
      (DL.gxn_mk (fl := "given") (st := DL.initOf (DL.topS 6)) ⟨_, _, rfl⟩ ⟨_, _, _, _, _, _, _, _, _, _, _, _, rfl, rfl⟩ rfl KX G ?e_InvalidIndexa ?e_InvalidIndexb ?e_InvalidIndexc ?e_InvalidIndexd ?e_InvalidIndexe ?e_InvalidIndexf ?e_InvalidIndexg ?e_InvalidIndexh ?e_InvalidIndexi ?e_InvalidIndexj ?e_InvalidIndexk ?e_InvalidIndexl ?e_InvalidIndexm ?e_InvalidIndexn ?e_InvalidIndexo ?e_InvalidIndexp ?e_InvalidIndexq ?e_InvalidIndexr ?e_InvalidIndexs ?e_InvalidIndext ?e_InvalidIndexu ?e_InvalidIndexv ?e_InvalidIndexw ?e_InvalidIndexx ?e_InvalidIndexy ?e_InvalidIndexz (Or.inl rfl))
      (DL.gxn_mk (fl := "given") (st := DL.initOf (DL.topS 7)) ⟨_, _, rfl⟩ ⟨_, _, _, _, _, _, _, _, _, _, _, _, rfl, rfl⟩ rfl KX G ?e_InvalidKinda ?e_InvalidKindb ?e_InvalidKindc ?e_InvalidKindd ?e_InvalidKinde ?e_InvalidKindf ?e_InvalidKindg ?e_InvalidKindh ?e_InvalidKindi ?e_InvalidKindj ?e_InvalidKindk ?e_InvalidKindl ?e_InvalidKindm ?e_InvalidKindn ?e_InvalidKindo ?e_InvalidKindp ?e_InvalidKindq ?e_InvalidKindr ?e_InvalidKinds ?e_InvalidKindt ?e_InvalidKindu ?e_InvalidKindv ?e_InvalidKindw ?e_InvalidKindx ?e_InvalidKindy ?e_InvalidKindz (Or.inl rfl))
      (DL.gxn_mk (fl := "given") (st := DL.initOf (DL.topS 8)) ⟨_, _, rfl⟩ ⟨_, _, _, _, _, _, _, _, _, _, _, _, rfl, rfl⟩ rfl KX G ?e_InvalidDensitya ?e_InvalidDensityb ?e_InvalidDensityc ?e_InvalidDensityd ?e_InvalidDensitye ?e_InvalidDensityf ?e_InvalidDensityg ?e_InvalidDensityh ?e_InvalidDensityi ?e_InvalidDensityj ?e_InvalidDensityk ?e_InvalidDensityl ?e_InvalidDensitym ?e_InvalidDensityn ?e_InvalidDensityo ?e_InvalidDensityp ?e_InvalidDensityq ?e_InvalidDensityr ?e_InvalidDensitys ?e_InvalidDensityt ?e_InvalidDensityu ?e_InvalidDensityv ?e_InvalidDensityw ?e_InvalidDensityx ?e_InvalidDensityy ?e_InvalidDensityz (Or.inl rfl))
      (DL.gxn_mk (fl := "given") (st := DL.initOf (DL.topS 9)) ⟨_, _, rfl⟩ ⟨_, _, _, _, _, _, _, _, _, _, _, _, rfl, rfl⟩ rfl KX G ?e_InvalidFlowa ?e_InvalidFlowb ?e_InvalidFlowc ?e_InvalidFlowd ?e_InvalidFlowe ?e_InvalidFlowf ?e_InvalidFlowg ?e_InvalidFlowh ?e_InvalidFlowi ?e_InvalidFlowj ?e_InvalidFlowk ?e_InvalidFlowl ?e_InvalidFlowm ?e_InvalidFlown ?e_InvalidFlowo ?e_InvalidFlowp ?e_InvalidFlowq ?e_InvalidFlowr ?e_InvalidFlows ?e_InvalidFlowt ?e_InvalidFlowu ?e_InvalidFlowv ?e_InvalidFloww ?e_InvalidFlowx ?e_InvalidFlowy ?e_InvalidFlowz (Or.inl rfl))
      (DL.gxn_mk (fl := "given") (st := DL.initOf (DL.topS 10)) ⟨_, _, rfl⟩ ⟨_, _, _, _, _, _, _, _, _, _, _, _, rfl, rfl⟩ rfl KX G ?e_InvalidPlacea ?e_InvalidPlaceb ?e_InvalidPlacec ?e_InvalidPlaced ?e_InvalidPlacee ?e_InvalidPlacef ?e_InvalidPlaceg ?e_InvalidPlaceh ?e_InvalidPlacei ?e_InvalidPlacej ?e_InvalidPlacek ?e_InvalidPlacel ?e_InvalidPlacem ?e_InvalidPlacen ?e_InvalidPlaceo ?e_InvalidPlacep ?e_InvalidPlaceq ?e_InvalidPlacer ?e_InvalidPlaces ?e_InvalidPlacet ?e_InvalidPlaceu ?e_InvalidPlacev ?e_InvalidPlacew ?e_InvalidPlacex ?e_InvalidPlacey ?e_InvalidPlacez (Or.inl rfl))
      (DL.gxn_mk (fl := "given") (st := DL.initOf (DL.topS 11)) ⟨_, _, rfl⟩ ⟨_, _, _, _, _, _, _, _, _, _, _, _, rfl, rfl⟩ rfl KX G ?e_InvalidMomenta ?e_InvalidMomentb ?e_InvalidMomentc ?e_InvalidMomentd ?e_InvalidMomente ?e_InvalidMomentf ?e_InvalidMomentg ?e_InvalidMomenth ?e_InvalidMomenti ?e_InvalidMomentj ?e_InvalidMomentk ?e_InvalidMomentl ?e_InvalidMomentm ?e_InvalidMomentn ?e_InvalidMomento ?e_InvalidMomentp ?e_InvalidMomentq ?e_InvalidMomentr ?e_InvalidMoments ?e_InvalidMomentt ?e_InvalidMomentu ?e_InvalidMomentv ?e_InvalidMomentw ?e_InvalidMomentx ?e_InvalidMomenty ?e_InvalidMomentz (Or.inl rfl))
      (DL.gxn_mk (fl := "given") (st := DL.initOf (DL.topS 12)) ⟨_, _, rfl⟩ ⟨_, _, _, _, _, _, _, _, _, _, _, _, rfl, rfl⟩ rfl KX G ?e_InvalidSpeeda ?e_InvalidSpeedb ?e_InvalidSpeedc ?e_InvalidSpeedd ?e_InvalidSpeede ?e_InvalidSpeedf ?e_InvalidSpeedg ?e_InvalidSpeedh ?e_InvalidSpeedi ?e_InvalidSpeedj ?e_InvalidSpeedk ?e_InvalidSpeedl ?e_InvalidSpeedm ?e_InvalidSpeedn ?e_InvalidSpeedo ?e_InvalidSpeedp ?e_InvalidSpeedq ?e_InvalidSpeedr ?e_InvalidSpeeds ?e_InvalidSpeedt ?e_InvalidSpeedu ?e_InvalidSpeedv ?e_InvalidSpeedw ?e_InvalidSpeedx ?e_InvalidSpeedy ?e_InvalidSpeedz (Or.inl rfl))
      (DL.gxn_mk (fl := "given") (st := DL.initOf (DL.topS 13)) ⟨_, _, rfl⟩ ⟨_, _, _, _, _, _, _, _, _, _, _, _, rfl, rfl⟩ rfl KX G ?e_InvalidWaya ?e_InvalidWayb ?e_InvalidWayc ?e_InvalidWayd ?e_InvalidWaye ?e_InvalidWayf ?e_InvalidWayg ?e_InvalidWayh ?e_InvalidWayi ?e_InvalidWayj ?e_InvalidWayk ?e_InvalidWayl ?e_InvalidWaym ?e_InvalidWayn ?e_InvalidWayo ?e_InvalidWayp ?e_InvalidWayq ?e_InvalidWayr ?e_InvalidWays ?e_InvalidWayt ?e_InvalidWayu ?e_InvalidWayv ?e_InvalidWayw ?e_InvalidWayx ?e_InvalidWayy ?e_InvalidWayz (Or.inl rfl))
      (DL.gxn_mk (fl := "given") (st := DL.initOf (DL.topS 14)) ⟨_, _, rfl⟩ ⟨_, _, _, _, _, _, _, _, _, _, _, _, rfl, rfl⟩ rfl KX G ?e_InvalidScenea ?e_InvalidSceneb ?e_InvalidScenec ?e_InvalidScened ?e_InvalidScenee ?e_InvalidScenef ?e_InvalidSceneg ?e_InvalidSceneh ?e_InvalidScenei ?e_InvalidScenej ?e_InvalidScenek ?e_InvalidScenel ?e_InvalidScenem ?e_InvalidScenen ?e_InvalidSceneo ?e_InvalidScenep ?e_InvalidSceneq ?e_InvalidScener ?e_InvalidScenes ?e_InvalidScenet ?e_InvalidSceneu ?e_InvalidScenev ?e_InvalidScenew ?e_InvalidScenex ?e_InvalidSceney ?e_InvalidScenez (Or.inl rfl))
      (DL.gxn_mk (fl := "given") (st := DL.initOf (DL.topS 15)) ⟨_, _, rfl⟩ ⟨_, _, _, _, _, _, _, _, _, _, _, _, rfl, rfl⟩ rfl KX G ?e_InvalidCountsa ?e_InvalidCountsb ?e_InvalidCountsc ?e_InvalidCountsd ?e_InvalidCountse ?e_InvalidCountsf ?e_InvalidCountsg ?e_InvalidCountsh ?e_InvalidCountsi ?e_InvalidCountsj ?e_InvalidCountsk ?e_InvalidCountsl ?e_InvalidCountsm ?e_InvalidCountsn ?e_InvalidCountso ?e_InvalidCountsp ?e_InvalidCountsq ?e_InvalidCountsr ?e_InvalidCountss ?e_InvalidCountst ?e_InvalidCountsu ?e_InvalidCountsv ?e_InvalidCountsw ?e_InvalidCountsx ?e_InvalidCountsy ?e_InvalidCountsz (Or.inl rfl))
      (DL.gxn_mk (fl := "given") (st := DL.initOf (DL.topS 16)) ⟨_, _, rfl⟩ ⟨_, _, _, _, _, _, _, _, _, _, _, _, rfl, rfl⟩ rfl KX G ?e_InvalidRimsa ?e_InvalidRimsb ?e_InvalidRimsc ?e_InvalidRimsd ?e_InvalidRimse ?e_InvalidRimsf ?e_InvalidRimsg ?e_InvalidRimsh ?e_InvalidRimsi ?e_InvalidRimsj ?e_InvalidRimsk ?e_InvalidRimsl ?e_InvalidRimsm ?e_InvalidRimsn ?e_InvalidRimso ?e_InvalidRimsp ?e_InvalidRimsq ?e_InvalidRimsr ?e_InvalidRimss ?e_InvalidRimst ?e_InvalidRimsu ?e_InvalidRimsv ?e_InvalidRimsw ?e_InvalidRimsx ?e_InvalidRimsy ?e_InvalidRimsz (Or.inl rfl))
      (DL.gxn_mk (fl := "given") (st := DL.initOf (DL.topS 17)) ⟨_, _, rfl⟩ ⟨_, _, _, _, _, _, _, _, _, _, _, _, rfl, rfl⟩ rfl KX G ?e_InvalidBooka ?e_InvalidBookb ?e_InvalidBookc ?e_InvalidBookd ?e_InvalidBooke ?e_InvalidBookf ?e_InvalidBookg ?e_InvalidBookh ?e_InvalidBooki ?e_InvalidBookj ?e_InvalidBookk ?e_InvalidBookl ?e_InvalidBookm ?e_InvalidBookn ?e_InvalidBooko ?e_InvalidBookp ?e_InvalidBookq ?e_InvalidBookr ?e_InvalidBooks ?e_InvalidBookt ?e_InvalidBooku ?e_InvalidBookv ?e_InvalidBookw ?e_InvalidBookx ?e_InvalidBooky ?e_InvalidBookz (Or.inl rfl))
      (DL.gxn_mk (fl := "given") (st := DL.initOf (DL.topS 18)) ⟨_, _, rfl⟩ ⟨_, _, _, _, _, _, _, _, _, _, _, _, rfl, rfl⟩ rfl KX G ?e_InvalidNamea ?e_InvalidNameb ?e_InvalidNamec ?e_InvalidNamed ?e_InvalidNamee ?e_InvalidNamef ?e_InvalidNameg ?e_InvalidNameh ?e_InvalidNamei ?e_InvalidNamej ?e_InvalidNamek ?e_InvalidNamel ?e_InvalidNamem ?e_InvalidNamen ?e_InvalidNameo ?e_InvalidNamep ?e_InvalidNameq ?e_InvalidNamer ?e_InvalidNames ?e_InvalidNamet ?e_InvalidNameu ?e_InvalidNamev ?e_InvalidNamew ?e_InvalidNamex ?e_InvalidNamey ?e_InvalidNamez (Or.inl rfl))
      (DL.gxn_mk (fl := "given") (st := DL.initOf (DL.topS 19)) ⟨_, _, rfl⟩ ⟨_, _, _, _, _, _, _, _, _, _, _, _, rfl, rfl⟩ rfl KX G ?e_InvalidWisha ?e_InvalidWishb ?e_InvalidWishc ?e_InvalidWishd ?e_InvalidWishe ?e_InvalidWishf ?e_InvalidWishg ?e_InvalidWishh ?e_InvalidWishi ?e_InvalidWishj ?e_InvalidWishk ?e_InvalidWishl ?e_InvalidWishm ?e_InvalidWishn ?e_InvalidWisho ?e_InvalidWishp ?e_InvalidWishq ?e_InvalidWishr ?e_InvalidWishs ?e_InvalidWisht ?e_InvalidWishu ?e_InvalidWishv ?e_InvalidWishw ?e_InvalidWishx ?e_InvalidWishy ?e_InvalidWishz (Or.inl rfl))
      (DL.gxn_mk (fl := "given") (st := DL.initOf (DL.topS 20)) ⟨_, _, rfl⟩ ⟨_, _, _, _, _, _, _, _, _, _, _, _, rfl, rfl⟩ rfl KX G ?e_InvalidPhrasea ?e_InvalidPhraseb ?e_InvalidPhrasec ?e_InvalidPhrased ?e_InvalidPhrasee ?e_InvalidPhrasef ?e_InvalidPhraseg ?e_InvalidPhraseh ?e_InvalidPhrasei ?e_InvalidPhrasej ?e_InvalidPhrasek ?e_InvalidPhrasel ?e_InvalidPhrasem ?e_InvalidPhrasen ?e_InvalidPhraseo ?e_InvalidPhrasep ?e_InvalidPhraseq ?e_InvalidPhraser ?e_InvalidPhrases ?e_InvalidPhraset ?e_InvalidPhraseu ?e_InvalidPhrasev ?e_InvalidPhrasew ?e_InvalidPhrasex ?e_InvalidPhrasey ?e_InvalidPhrasez (Or.inl rfl))
      (DL.gxn_mk (fl := "given") (st := DL.initOf (DL.topS 21)) ⟨_, _, rfl⟩ ⟨_, _, _, _, _, _, _, _, _, _, _, _, rfl, rfl⟩ rfl KX G ?e_NotAWorkshopa ?e_NotAWorkshopb ?e_NotAWorkshopc ?e_NotAWorkshopd ?e_NotAWorkshope ?e_NotAWorkshopf ?e_NotAWorkshopg ?e_NotAWorkshoph ?e_NotAWorkshopi ?e_NotAWorkshopj ?e_NotAWorkshopk ?e_NotAWorkshopl ?e_NotAWorkshopm ?e_NotAWorkshopn ?e_NotAWorkshopo ?e_NotAWorkshopp ?e_NotAWorkshopq ?e_NotAWorkshopr ?e_NotAWorkshops ?e_NotAWorkshopt ?e_NotAWorkshopu ?e_NotAWorkshopv ?e_NotAWorkshopw ?e_NotAWorkshopx ?e_NotAWorkshopy ?e_NotAWorkshopz (Or.inl rfl))
      (DL.gxn_mk (fl := "given") (st := DL.initOf (DL.topS 22)) ⟨_, _, rfl⟩ ⟨_, _, _, _, _, _, _, _, _, _, _, _, rfl, rfl⟩ rfl KX G ?e_UnknownNamea ?e_UnknownNameb ?e_UnknownNamec ?e_UnknownNamed ?e_UnknownNamee ?e_UnknownNamef ?e_UnknownNameg ?e_UnknownNameh ?e_UnknownNamei ?e_UnknownNamej ?e_UnknownNamek ?e_UnknownNamel ?e_UnknownNamem ?e_UnknownNamen ?e_UnknownNameo ?e_UnknownNamep ?e_UnknownNameq ?e_UnknownNamer ?e_UnknownNames ?e_UnknownNamet ?e_UnknownNameu ?e_UnknownNamev ?e_UnknownNamew ?e_UnknownNamex ?e_UnknownNamey ?e_UnknownNamez (Or.inl rfl))
      (DL.gxn_mk (fl := "given") (st := DL.initOf (DL.topS 23)) ⟨_, _, rfl⟩ ⟨_, _, _, _, _, _, _, _, _, _, _, _, rfl, rfl⟩ rfl KX G ?e_TooManya ?e_TooManyb ?e_TooManyc ?e_TooManyd ?e_TooManye ?e_TooManyf ?e_TooManyg ?e_TooManyh ?e_TooManyi ?e_TooManyj ?e_TooManyk ?e_TooManyl ?e_TooManym ?e_TooManyn ?e_TooManyo ?e_TooManyp ?e_TooManyq ?e_TooManyr ?e_TooManys ?e_TooManyt ?e_TooManyu ?e_TooManyv ?e_TooManyw ?e_TooManyx ?e_TooManyy ?e_TooManyz (Or.inl rfl))
      (DL.gxn_mk (fl := "index") (st := DL.initOf (DL.topS 24)) ⟨_, _, rfl⟩ ⟨_, _, _, _, _, _, _, _, _, _, _, _, rfl, rfl⟩ rfl KX G ?e_InvalidBeginninga ?e_InvalidBeginningb ?e_InvalidBeginningc ?e_InvalidBeginningd ?e_InvalidBeginninge ?e_InvalidBeginningf ?e_InvalidBeginningg ?e_InvalidBeginningh ?e_InvalidBeginningi ?e_InvalidBeginningj ?e_InvalidBeginningk ?e_InvalidBeginningl ?e_InvalidBeginningm ?e_InvalidBeginningn ?e_InvalidBeginningo ?e_InvalidBeginningp ?e_InvalidBeginningq ?e_InvalidBeginningr ?e_InvalidBeginnings ?e_InvalidBeginningt ?e_InvalidBeginningu ?e_InvalidBeginningv ?e_InvalidBeginningw ?e_InvalidBeginningx ?e_InvalidBeginningy ?e_InvalidBeginningz (Or.inr rfl))
      (DL.gxn_mk (fl := "index") (st := DL.initOf (DL.topS 25)) ⟨_, _, rfl⟩ ⟨_, _, _, _, _, _, _, _, _, _, _, _, rfl, rfl⟩ rfl KX G ?e_InvalidComingsa ?e_InvalidComingsb ?e_InvalidComingsc ?e_InvalidComingsd ?e_InvalidComingse ?e_InvalidComingsf ?e_InvalidComingsg ?e_InvalidComingsh ?e_InvalidComingsi ?e_InvalidComingsj ?e_InvalidComingsk ?e_InvalidComingsl ?e_InvalidComingsm ?e_InvalidComingsn ?e_InvalidComingso ?e_InvalidComingsp ?e_InvalidComingsq ?e_InvalidComingsr ?e_InvalidComingss ?e_InvalidComingst ?e_InvalidComingsu ?e_InvalidComingsv ?e_InvalidComingsw ?e_InvalidComingsx ?e_InvalidComingsy ?e_InvalidComingsz (Or.inr rfl))
      (DL.gxn_mk (fl := "index") (st := DL.initOf (DL.topS 26)) ⟨_, _, rfl⟩ ⟨_, _, _, _, _, _, _, _, _, _, _, _, rfl, rfl⟩ rfl KX G ?e_InvalidBarsa ?e_InvalidBarsb ?e_InvalidBarsc ?e_InvalidBarsd ?e_InvalidBarse ?e_InvalidBarsf ?e_InvalidBarsg ?e_InvalidBarsh ?e_InvalidBarsi ?e_InvalidBarsj ?e_InvalidBarsk ?e_InvalidBarsl ?e_InvalidBarsm ?e_InvalidBarsn ?e_InvalidBarso ?e_InvalidBarsp ?e_InvalidBarsq ?e_InvalidBarsr ?e_InvalidBarss ?e_InvalidBarst ?e_InvalidBarsu ?e_InvalidBarsv ?e_InvalidBarsw ?e_InvalidBarsx ?e_InvalidBarsy ?e_InvalidBarsz (Or.inr rfl))
      (DL.gxn_mk (fl := "index") (st := DL.initOf (DL.topS 27)) ⟨_, _, rfl⟩ ⟨_, _, _, _, _, _, _, _, _, _, _, _, rfl, rfl⟩ rfl KX G ?e_InvalidRowa ?e_InvalidRowb ?e_InvalidRowc ?e_InvalidRowd ?e_InvalidRowe ?e_InvalidRowf ?e_InvalidRowg ?e_InvalidRowh ?e_InvalidRowi ?e_InvalidRowj ?e_InvalidRowk ?e_InvalidRowl ?e_InvalidRowm ?e_InvalidRown ?e_InvalidRowo ?e_InvalidRowp ?e_InvalidRowq ?e_InvalidRowr ?e_InvalidRows ?e_InvalidRowt ?e_InvalidRowu ?e_InvalidRowv ?e_InvalidRoww ?e_InvalidRowx ?e_InvalidRowy ?e_InvalidRowz (Or.inr rfl))
      (DL.gxn_mk (fl := "index") (st := DL.initOf (DL.topS 28)) ⟨_, _, rfl⟩ ⟨_, _, _, _, _, _, _, _, _, _, _, _, rfl, rfl⟩ rfl KX G ?e_InvalidMarksa ?e_InvalidMarksb ?e_InvalidMarksc ?e_InvalidMarksd ?e_InvalidMarkse ?e_InvalidMarksf ?e_InvalidMarksg ?e_InvalidMarksh ?e_InvalidMarksi ?e_InvalidMarksj ?e_InvalidMarksk ?e_InvalidMarksl ?e_InvalidMarksm ?e_InvalidMarksn ?e_InvalidMarkso ?e_InvalidMarksp ?e_InvalidMarksq ?e_InvalidMarksr ?e_InvalidMarkss ?e_InvalidMarkst ?e_InvalidMarksu ?e_InvalidMarksv ?e_InvalidMarksw ?e_InvalidMarksx ?e_InvalidMarksy ?e_InvalidMarksz (Or.inr rfl))
      (DL.gxn_mk (fl := "index") (st := DL.initOf (DL.topS 29)) ⟨_, _, rfl⟩ ⟨_, _, _, _, _, _, _, _, _, _, _, _, rfl, rfl⟩ rfl KX G ?e_InUsea ?e_InUseb ?e_InUsec ?e_InUsed ?e_InUsee ?e_InUsef ?e_InUseg ?e_InUseh ?e_InUsei ?e_InUsej ?e_InUsek ?e_InUsel ?e_InUsem ?e_InUsen ?e_InUseo ?e_InUsep ?e_InUseq ?e_InUser ?e_InUses ?e_InUset ?e_InUseu ?e_InUsev ?e_InUsew ?e_InUsex ?e_InUsey ?e_InUsez (Or.inr rfl))
      (DL.gxn_mk (fl := "index") (st := DL.initOf (DL.topS 30)) ⟨_, _, rfl⟩ ⟨_, _, _, _, _, _, _, _, _, _, _, _, rfl, rfl⟩ rfl KX G ?e_Brokena ?e_Brokenb ?e_Brokenc ?e_Brokend ?e_Brokene ?e_Brokenf ?e_Brokeng ?e_Brokenh ?e_Brokeni ?e_Brokenj ?e_Brokenk ?e_Brokenl ?e_Brokenm ?e_Brokenn ?e_Brokeno ?e_Brokenp ?e_Brokenq ?e_Brokenr ?e_Brokens ?e_Brokent ?e_Brokenu ?e_Brokenv ?e_Brokenw ?e_Brokenx ?e_Brokeny ?e_Brokenz (Or.inr rfl))
      (DL.clsK_mk KX G ?y_RoadError)
      (DL.ex0_mk KX G ?e_NoneFitsa ?e_NoneFitsb ?e_NoneFitsc ?e_NoneFitsd ?e_NoneFitse)
      (DL.ex0_mk KX G ?e_RoadErrora ?e_RoadErrorb ?e_RoadErrorc ?e_RoadErrord ?e_RoadErrore)
      (DL.ex0_mk KX G ?e_NoStepa ?e_NoStepb ?e_NoStepc ?e_NoStepd ?e_NoStepe)
      (DL.ex0_mk KX G ?e_NothingToUndoa ?e_NothingToUndob ?e_NothingToUndoc ?e_NothingToUndod ?e_NothingToUndoe)
    (case y_InvalidFraction => k_is); (case tXn0 => k_is); (case tXn1 => k_is); (case tXn2 => k_is); (case tXn3 => k_is); (case tXn4 => k_is); (case tXn5 => k_is); (case tXn6 => k_is); (case tXn7 => k_is); (case tXn8 => k_is); (case tXn9 => k_is); (case tXn10 => k_is); (case tXn11 => k_is); (case tXn12 => k_is); (case tXn13 => k_is); (case tXn14 => k_is); (case tXn15 => k_is); (case tXn16 => k_is); (case tXn17 => k_is); (case tXn18 => k_is); (case tXn19 => k_is); (case tXn20 => k_is); (case tXn21 => k_is); (case tXn22 => k_is); (case tXn23 => k_is); (case tXn24 => k_is); (case tXn25 => k_is); (case tXn26 => k_is); (case tXn27 => k_is); (case tXn28 => k_is); (case tXn29 => k_is); (case tXn30 => k_is); (case tXn31 => k_is); (case tXn32 => k_is); (case y_InvalidAmount => k_is); (case y_InvalidContent => k_is); (case y_InvalidNumber => k_is); (case y_InvalidIndex => k_is); (case y_InvalidKind => k_is); (case y_InvalidDensity => k_is); (case y_InvalidFlow => k_is); (case y_InvalidPlace => k_is); (case y_InvalidMoment => k_is); (case y_InvalidSpeed => k_is); (case y_InvalidWay => k_is); (case y_InvalidScene => k_is); (case y_InvalidCounts => k_is); (case y_InvalidRims => k_is); (case y_InvalidBook => k_is); (case y_InvalidName => k_is); (case y_InvalidWish => k_is); (case y_InvalidPhrase => k_is); (case y_NotAWorkshop => k_is); (case y_UnknownName => k_is); (case y_TooMany => k_is); (case y_InvalidBeginning => k_is); (case y_InvalidComings => k_is); (case y_InvalidBars => k_is); (case y_InvalidRow => k_is); (case y_InvalidMarks => k_is); (case y_InUse => k_is); (case y_Broken => k_is); (case y_NoStep => k_is); (case y_NoneFits => k_is); (case y_NothingToUndo => k_is); (case e_InvalidFractiona => k_is); (case e_InvalidAmounta => k_is); (case e_InvalidContenta => k_is); (case e_InvalidNumbera => k_is); (case e_InvalidIndexa => k_is); (case e_InvalidKinda => k_is); (case e_InvalidDensitya => k_is); (case e_InvalidFlowa => k_is); (case e_InvalidPlacea => k_is); (case e_InvalidMomenta => k_is); (case e_InvalidSpeeda => k_is); (case e_InvalidWaya => k_is); (case e_InvalidScenea => k_is); (case e_InvalidCountsa => k_is); (case e_InvalidRimsa => k_is); (case e_InvalidBooka => k_is); (case e_InvalidNamea => k_is); (case e_InvalidWisha => k_is); (case e_InvalidPhrasea => k_is); (case e_NotAWorkshopa => k_is); (case e_UnknownNamea => k_is); (case e_TooManya => k_is); (case e_InvalidBeginninga => k_is); (case e_InvalidComingsa => k_is); (case e_InvalidBarsa => k_is); (case e_InvalidRowa => k_is); (case e_InvalidMarksa => k_is); (case e_InUsea => k_is); (case e_Brokena => k_is); (case y_RoadError => k_is); (case e_NoneFitsa => k_is); (case e_RoadErrora => k_is); (case e_NoStepa => k_is); (case e_NothingToUndoa => k_is); (case a0 => k_is); (case l0 => k_is); (case c0 => k_is); (case q0 => k_is); (case a1 => k_is); (case l1 => k_is); (case c1 => k_is); (case q1 => k_is); (case a2 => k_is); (case l2 => k_is); (case c2 => k_is); (case q2 => k_is); (case a3 => k_is); (case l3 => k_is); (case c3 => k_is); (case q3 => k_is); (case a4 => k_is); (case l4 => k_is); (case c4 => k_is); (case q4 => k_is); (case a5 => k_is); (case l5 => k_is); (case c5 => k_is); (case q5 => k_is); (case a6 => k_is); (case l6 => k_is); (case c6 => k_is); (case q6 => k_is); (case a7 => k_is); (case l7 => k_is); (case c7 => k_is); (case q7 => k_is); (case a8 => k_is); (case l8 => k_is); (case c8 => k_is); (case q8 => k_is); (case a9 => k_is); (case l9 => k_is); (case c9 => k_is); (case q9 => k_is); (case a10 => k_is); (case l10 => k_is); (case c10 => k_is); (case q10 => k_is); (case a11 => k_is); (case l11 => k_is); (case c11 => k_is); (case q11 => k_is); (case a12 => k_is); (case l12 => k_is); (case c12 => k_is); (case q12 => k_is); (case a13 => k_is); (case l13 => k_is); (case c13 => k_is); (case q13 => k_is); (case a14 => k_is); (case l14 => k_is); (case c14 => k_is); (case q14 => k_is); (case a15 => k_is); (case l15 => k_is); (case c15 => k_is); (case q15 => k_is); (case a16 => k_is); (case l16 => k_is); (case c16 => k_is); (case q16 => k_is); (case zlen => k_is); (case zint => k_is); (case zsum => k_is); (case zabs => k_is); (case zisinstance => k_is); (case zrange => k_is); (case zValueError => k_is); (case zLookupError => k_is); (case zTypeError => k_is); (case zArithmeticError => k_is); (case zrepr => k_is); (case zmin => k_is); (case zmax => k_is); (case zall => k_is); (case tXb => first | kernel_rfl | decide +kernel); (case e_InvalidFractionb => first | k_is | rfl | kernel_rfl | decide +kernel); (case e_InvalidFractionc => first | k_is | rfl | kernel_rfl | decide +kernel); (case e_InvalidFractiond => first | k_is | rfl | kernel_rfl | decide +kernel); (case e_InvalidFractione => first | k_is | rfl | kernel_rfl | decide +kernel); (case e_InvalidFractionf => first | k_is | rfl | kernel_rfl | decide +kernel); (case e_InvalidFractiong => first | k_is | rfl | kernel_rfl | decide +kernel); (case e_InvalidFractionh => first | k_is | rfl | kernel_rfl | decide +kernel); (case e_InvalidFractioni => first | k_is | rfl | kernel_rfl | decide +kernel); (case e_InvalidFractionj => first | k_is | rfl | kernel_rfl | decide +kernel); (case e_InvalidFractionk => first | k_is | rfl | kernel_rfl | decide +kernel); (case e_InvalidFractionl => first | k_is | rfl | kernel_rfl | decide +kernel); (case e_InvalidFractionm => first | k_is | rfl | kernel_rfl | decide +kernel); (case e_InvalidFractionn => first | k_is | rfl | kernel_rfl | decide +kernel); (case e_InvalidFractiono => first | k_is | rfl | kernel_rfl | decide +kernel); (case e_InvalidFractionp => first | k_is | rfl | kernel_rfl | decide +kernel); (case e_InvalidFractionq => first | k_is | rfl | kernel_rfl | decide +kernel); (case e_InvalidFractionr => first | k_is | rfl | kernel_rfl | decide +kernel); (case e_InvalidFractions => first | k_is | rfl | kernel_rfl | decide +kernel); (case e_InvalidFractiont => first | k_is | rfl | kernel_rfl | decide +kernel); (case e_InvalidFractionu => first | k_is | rfl | kernel_rfl | decide +kernel); (case e_InvalidFractionv => first | k_is | rfl | kernel_rfl | decide +kernel); (case e_InvalidFractionw => first | k_is | rfl | kernel_rfl | decide +kernel); (case e_InvalidFractionx => first | k_is | rfl | kernel_rfl | decide +kernel); (case e_InvalidFractiony => first | k_is | rfl | kernel_rfl | decide +kernel); (case e_InvalidFractionz => first | k_is | rfl | kernel_rfl | decide +kernel); (case e_InvalidAmountb => first | k_is | rfl | kernel_rfl | decide +kernel); (case e_InvalidAmountc => first | k_is | rfl | kernel_rfl | decide +kernel); (case e_InvalidAmountd => first | k_is | rfl | kernel_rfl | decide +kernel); (case e_InvalidAmounte => first | k_is | rfl | kernel_rfl | decide +kernel); (case e_InvalidAmountf => first | k_is | rfl | kernel_rfl | decide +kernel); (case e_InvalidAmountg => first | k_is | rfl | kernel_rfl | decide +kernel); (case e_InvalidAmounth => first | k_is | rfl | kernel_rfl | decide +kernel); (case e_InvalidAmounti => first | k_is | rfl | kernel_rfl | decide +kernel); (case e_InvalidAmountj => first | k_is | rfl | kernel_rfl | decide +kernel); (case e_InvalidAmountk => first | k_is | rfl | kernel_rfl | decide +kernel); (case e_InvalidAmountl => first | k_is | rfl | kernel_rfl | decide +kernel); (case e_InvalidAmountm => first | k_is | rfl | kernel_rfl | decide +kernel); (case e_InvalidAmountn => first | k_is | rfl | kernel_rfl | decide +kernel); (case e_InvalidAmounto => first | k_is | rfl | kernel_rfl | decide +kernel); (case e_InvalidAmountp => first | k_is | rfl | kernel_rfl | decide +kernel); (case e_InvalidAmountq => first | k_is | rfl | kernel_rfl | decide +kernel); (case e_InvalidAmountr => first | k_is | rfl | kernel_rfl | decide +kernel); (case e_InvalidAmounts => first | k_is | rfl | kernel_rfl | decide +kernel); (case e_InvalidAmountt => first | k_is | rfl | kernel_rfl | decide +kernel); (case e_InvalidAmountu => first | k_is | rfl | kernel_rfl | decide +kernel); (case e_InvalidAmountv => first | k_is | rfl | kernel_rfl | decide +kernel); (case e_InvalidAmountw => first | k_is | rfl | kernel_rfl | decide +kernel); (case e_InvalidAmountx => first | k_is | rfl | kernel_rfl | decide +kernel); (case e_InvalidAmounty => first | k_is | rfl | kernel_rfl | decide +kernel); (case e_InvalidAmountz => first | k_is | rfl | kernel_rfl | decide +kernel); (case e_InvalidContentb => first | k_is | rfl | kernel_rfl | decide +kernel); (case e_InvalidContentc => first | k_is | rfl | kernel_rfl | decide +kernel); (case e_InvalidContentd => first | k_is | rfl | kernel_rfl | decide +kernel); (case e_InvalidContente => first | k_is | rfl | kernel_rfl | decide +kernel); (case e_InvalidContentf => first | k_is | rfl | kernel_rfl | decide +kernel); (case e_InvalidContentg => first | k_is | rfl | kernel_rfl | decide +kernel); (case e_InvalidContenth => first | k_is | rfl | kernel_rfl | decide +kernel); (case e_InvalidContenti => first | k_is | rfl | kernel_rfl | decide +kernel); (case e_InvalidContentj => first | k_is | rfl | kernel_rfl | decide +kernel); (case e_InvalidContentk => first | k_is | rfl | kernel_rfl | decide +kernel); (case e_InvalidContentl => first | k_is | rfl | kernel_rfl | decide +kernel); (case e_InvalidContentm => first | k_is | rfl | kernel_rfl | decide +kernel); (case e_InvalidContentn => first | k_is | rfl | kernel_rfl | decide +kernel); (case e_InvalidContento => first | k_is | rfl | kernel_rfl | decide +kernel); (case e_InvalidContentp => first | k_is | rfl | kernel_rfl | decide +kernel); (case e_InvalidContentq => first | k_is | rfl | kernel_rfl | decide +kernel); (case e_InvalidContentr => first | k_is | rfl | kernel_rfl | decide +kernel); (case e_InvalidContents => first | k_is | rfl | kernel_rfl | decide +kernel); (case e_InvalidContentt => first | k_is | rfl | kernel_rfl | decide +kernel); (case e_InvalidContentu => first | k_is | rfl | kernel_rfl | decide +kernel); (case e_InvalidContentv => first | k_is | rfl | kernel_rfl | decide +kernel); (case e_InvalidContentw => first | k_is | rfl | kernel_rfl | decide +kernel); (case e_InvalidContentx => first | k_is | rfl | kernel_rfl | decide +kernel); (case e_InvalidContenty => first | k_is | rfl | kernel_rfl | decide +kernel); (case e_InvalidContentz => first | k_is | rfl | kernel_rfl | decide +kernel); (case e_InvalidNumberb => first | k_is | rfl | kernel_rfl | decide +kernel); (case e_InvalidNumberc => first | k_is | rfl | kernel_rfl | decide +kernel); (case e_InvalidNumberd => first | k_is | rfl | kernel_rfl | decide +kernel); (case e_InvalidNumbere => first | k_is | rfl | kernel_rfl | decide +kernel); (case e_InvalidNumberf => first | k_is | rfl | kernel_rfl | decide +kernel); (case e_InvalidNumberg => first | k_is | rfl | kernel_rfl | decide +kernel); (case e_InvalidNumberh => first | k_is | rfl | kernel_rfl | decide +kernel); (case e_InvalidNumberi => first | k_is | rfl | kernel_rfl | decide +kernel); (case e_InvalidNumberj => first | k_is | rfl | kernel_rfl | decide +kernel); (case e_InvalidNumberk => first | k_is | rfl | kernel_rfl | decide +kernel); (case e_InvalidNumberl => first | k_is | rfl | kernel_rfl | decide +kernel); (case e_InvalidNumberm => first | k_is | rfl | kernel_rfl | decide +kernel); (case e_InvalidNumbern => first | k_is | rfl | kernel_rfl | decide +kernel); (case e_InvalidNumbero => first | k_is | rfl | kernel_rfl | decide +kernel); (case e_InvalidNumberp => first | k_is | rfl | kernel_rfl | decide +kernel); (case e_InvalidNumberq => first | k_is | rfl | kernel_rfl | decide +kernel); (case e_InvalidNumberr => first | k_is | rfl | kernel_rfl | decide +kernel); (case e_InvalidNumbers => first | k_is | rfl | kernel_rfl | decide +kernel); (case e_InvalidNumbert => first | k_is | rfl | kernel_rfl | decide +kernel); (case e_InvalidNumberu => first | k_is | rfl | kernel_rfl | decide +kernel); (case e_InvalidNumberv => first | k_is | rfl | kernel_rfl | decide +kernel); (case e_InvalidNumberw => first | k_is | rfl | kernel_rfl | decide +kernel); (case e_InvalidNumberx => first | k_is | rfl | kernel_rfl | decide +kernel); (case e_InvalidNumbery => first | k_is | rfl | kernel_rfl | decide +kernel); (case e_InvalidNumberz => first | k_is | rfl | kernel_rfl | decide +kernel); (case e_InvalidIndexb => first | k_is | rfl | kernel_rfl | decide +kernel); (case e_InvalidIndexc => first | k_is | rfl | kernel_rfl | decide +kernel); (case e_InvalidIndexd => first | k_is | rfl | kernel_rfl | decide +kernel); (case e_InvalidIndexe => first | k_is | rfl | kernel_rfl | decide +kernel); (case e_InvalidIndexf => first | k_is | rfl | kernel_rfl | decide +kernel); (case e_InvalidIndexg => first | k_is | rfl | kernel_rfl | decide +kernel); (case e_InvalidIndexh => first | k_is | rfl | kernel_rfl | decide +kernel); (case e_InvalidIndexi => first | k_is | rfl | kernel_rfl | decide +kernel); (case e_InvalidIndexj => first | k_is | rfl | kernel_rfl | decide +kernel); (case e_InvalidIndexk => first | k_is | rfl | kernel_rfl | decide +kernel); (case e_InvalidIndexl => first | k_is | rfl | kernel_rfl | decide +kernel); (case e_InvalidIndexm => first | k_is | rfl | kernel_rfl | decide +kernel); (case e_InvalidIndexn => first | k_is | rfl | kernel_rfl | decide +kernel); (case e_InvalidIndexo => first | k_is | rfl | kernel_rfl | decide +kernel); (case e_InvalidIndexp => first | k_is | rfl | kernel_rfl | decide +kernel); (case e_InvalidIndexq => first | k_is | rfl | kernel_rfl | decide +kernel); (case e_InvalidIndexr => first | k_is | rfl | kernel_rfl | decide +kernel); (case e_InvalidIndexs => first | k_is | rfl | kernel_rfl | decide +kernel); (case e_InvalidIndext => first | k_is | rfl | kernel_rfl | decide +kernel); (case e_InvalidIndexu => first | k_is | rfl | kernel_rfl | decide +kernel); (case e_InvalidIndexv => first | k_is | rfl | kernel_rfl | decide +kernel); (case e_InvalidIndexw => first | k_is | rfl | kernel_rfl | decide +kernel); (case e_InvalidIndexx => first | k_is | rfl | kernel_rfl | decide +kernel); (case e_InvalidIndexy => first | k_is | rfl | kernel_rfl | decide +kernel); (case e_InvalidIndexz => first | k_is | rfl | kernel_rfl | decide +kernel); (case e_InvalidKindb => first | k_is | rfl | kernel_rfl | decide +kernel); (case e_InvalidKindc => first | k_is | rfl | kernel_rfl | decide +kernel); (case e_InvalidKindd => first | k_is | rfl | kernel_rfl | decide +kernel); (case e_InvalidKinde => first | k_is | rfl | kernel_rfl | decide +kernel); (case e_InvalidKindf => first | k_is | rfl | kernel_rfl | decide +kernel); (case e_InvalidKindg => first | k_is | rfl | kernel_rfl | decide +kernel); (case e_InvalidKindh => first | k_is | rfl | kernel_rfl | decide +kernel); (case e_InvalidKindi => first | k_is | rfl | kernel_rfl | decide +kernel); (case e_InvalidKindj => first | k_is | rfl | kernel_rfl | decide +kernel); (case e_InvalidKindk => first | k_is | rfl | kernel_rfl | decide +kernel); (case e_InvalidKindl => first | k_is | rfl | kernel_rfl | decide +kernel); (case e_InvalidKindm => first | k_is | rfl | kernel_rfl | decide +kernel); (case e_InvalidKindn => first | k_is | rfl | kernel_rfl | decide +kernel); (case e_InvalidKindo => first | k_is | rfl | kernel_rfl | decide +kernel); (case e_InvalidKindp => first | k_is | rfl | kernel_rfl | decide +kernel); (case e_InvalidKindq => first | k_is | rfl | kernel_rfl | decide +kernel); (case e_InvalidKindr => first | k_is | rfl | kernel_rfl | decide +kernel); (case e_InvalidKinds => first | k_is | rfl | kernel_rfl | decide +kernel); (case e_InvalidKindt => first | k_is | rfl | kernel_rfl | decide +kernel); (case e_InvalidKindu => first | k_is | rfl | kernel_rfl | decide +kernel); (case e_InvalidKindv => first | k_is | rfl | kernel_rfl | decide +kernel); (case e_InvalidKindw => first | k_is | rfl | kernel_rfl | decide +kernel); (case e_InvalidKindx => first | k_is | rfl | kernel_rfl | decide +kernel); (case e_InvalidKindy => first | k_is | rfl | kernel_rfl | decide +kernel); (case e_InvalidKindz => first | k_is | rfl | kernel_rfl | decide +kernel); (case e_InvalidDensityb => first | k_is | rfl | kernel_rfl | decide +kernel); (case e_InvalidDensityc => first | k_is | rfl | kernel_rfl | decide +kernel); (case e_InvalidDensityd => first | k_is | rfl | kernel_rfl | decide +kernel); (case e_InvalidDensitye => first | k_is | rfl | kernel_rfl | decide +kernel); (case e_InvalidDensityf => first | k_is | rfl | kernel_rfl | decide +kernel); (case e_InvalidDensityg => first | k_is | rfl | kernel_rfl | decide +kernel); (case e_InvalidDensityh => first | k_is | rfl | kernel_rfl | decide +kernel); (case e_InvalidDensityi => first | k_is | rfl | kernel_rfl | decide +kernel); (case e_InvalidDensityj => first | k_is | rfl | kernel_rfl | decide +kernel); (case e_InvalidDensityk => first | k_is | rfl | kernel_rfl | decide +kernel); (case e_InvalidDensityl => first | k_is | rfl | kernel_rfl | decide +kernel); (case e_InvalidDensitym => first | k_is | rfl | kernel_rfl | decide +kernel); (case e_InvalidDensityn => first | k_is | rfl | kernel_rfl | decide +kernel); (case e_InvalidDensityo => first | k_is | rfl | kernel_rfl | decide +kernel); (case e_InvalidDensityp => first | k_is | rfl | kernel_rfl | decide +kernel); (case e_InvalidDensityq => first | k_is | rfl | kernel_rfl | decide +kernel); (case e_InvalidDensityr => first | k_is | rfl | kernel_rfl | decide +kernel); (case e_InvalidDensitys => first | k_is | rfl | kernel_rfl | decide +kernel); (case e_InvalidDensityt => first | k_is | rfl | kernel_rfl | decide +kernel); (case e_InvalidDensityu => first | k_is | rfl | kernel_rfl | decide +kernel); (case e_InvalidDensityv => first | k_is | rfl | kernel_rfl | decide +kernel); (case e_InvalidDensityw => first | k_is | rfl | kernel_rfl | decide +kernel); (case e_InvalidDensityx => first | k_is | rfl | kernel_rfl | decide +kernel); (case e_InvalidDensityy => first | k_is | rfl | kernel_rfl | decide +kernel); (case e_InvalidDensityz => first | k_is | rfl | kernel_rfl | decide +kernel); (case e_InvalidFlowb => first | k_is | rfl | kernel_rfl | decide +kernel); (case e_InvalidFlowc => first | k_is | rfl | kernel_rfl | decide +kernel); (case e_InvalidFlowd => first | k_is | rfl | kernel_rfl | decide +kernel); (case e_InvalidFlowe => first | k_is | rfl | kernel_rfl | decide +kernel); (case e_InvalidFlowf => first | k_is | rfl | kernel_rfl | decide +kernel); (case e_InvalidFlowg => first | k_is | rfl | kernel_rfl | decide +kernel); (case e_InvalidFlowh => first | k_is | rfl | kernel_rfl | decide +kernel); (case e_InvalidFlowi => first | k_is | rfl | kernel_rfl | decide +kernel); (case e_InvalidFlowj => first | k_is | rfl | kernel_rfl | decide +kernel); (case e_InvalidFlowk => first | k_is | rfl | kernel_rfl | decide +kernel); (case e_InvalidFlowl => first | k_is | rfl | kernel_rfl | decide +kernel); (case e_InvalidFlowm => first | k_is | rfl | kernel_rfl | decide +kernel); (case e_InvalidFlown => first | k_is | rfl | kernel_rfl | decide +kernel); (case e_InvalidFlowo => first | k_is | rfl | kernel_rfl | decide +kernel); (case e_InvalidFlowp => first | k_is | rfl | kernel_rfl | decide +kernel); (case e_InvalidFlowq => first | k_is | rfl | kernel_rfl | decide +kernel); (case e_InvalidFlowr => first | k_is | rfl | kernel_rfl | decide +kernel); (case e_InvalidFlows => first | k_is | rfl | kernel_rfl | decide +kernel); (case e_InvalidFlowt => first | k_is | rfl | kernel_rfl | decide +kernel); (case e_InvalidFlowu => first | k_is | rfl | kernel_rfl | decide +kernel); (case e_InvalidFlowv => first | k_is | rfl | kernel_rfl | decide +kernel); (case e_InvalidFloww => first | k_is | rfl | kernel_rfl | decide +kernel); (case e_InvalidFlowx => first | k_is | rfl | kernel_rfl | decide +kernel); (case e_InvalidFlowy => first | k_is | rfl | kernel_rfl | decide +kernel); (case e_InvalidFlowz => first | k_is | rfl | kernel_rfl | decide +kernel); (case e_InvalidPlaceb => first | k_is | rfl | kernel_rfl | decide +kernel); (case e_InvalidPlacec => first | k_is | rfl | kernel_rfl | decide +kernel); (case e_InvalidPlaced => first | k_is | rfl | kernel_rfl | decide +kernel); (case e_InvalidPlacee => first | k_is | rfl | kernel_rfl | decide +kernel); (case e_InvalidPlacef => first | k_is | rfl | kernel_rfl | decide +kernel); (case e_InvalidPlaceg => first | k_is | rfl | kernel_rfl | decide +kernel); (case e_InvalidPlaceh => first | k_is | rfl | kernel_rfl | decide +kernel); (case e_InvalidPlacei => first | k_is | rfl | kernel_rfl | decide +kernel); (case e_InvalidPlacej => first | k_is | rfl | kernel_rfl | decide +kernel); (case e_InvalidPlacek => first | k_is | rfl | kernel_rfl | decide +kernel); (case e_InvalidPlacel => first | k_is | rfl | kernel_rfl | decide +kernel); (case e_InvalidPlacem => first | k_is | rfl | kernel_rfl | decide +kernel); (case e_InvalidPlacen => first | k_is | rfl | kernel_rfl | decide +kernel); (case e_InvalidPlaceo => first | k_is | rfl | kernel_rfl | decide +kernel); (case e_InvalidPlacep => first | k_is | rfl | kernel_rfl | decide +kernel); (case e_InvalidPlaceq => first | k_is | rfl | kernel_rfl | decide +kernel); (case e_InvalidPlacer => first | k_is | rfl | kernel_rfl | decide +kernel); (case e_InvalidPlaces => first | k_is | rfl | kernel_rfl | decide +kernel); (case e_InvalidPlacet => first | k_is | rfl | kernel_rfl | decide +kernel); (case e_InvalidPlaceu => first | k_is | rfl | kernel_rfl | decide +kernel); (case e_InvalidPlacev => first | k_is | rfl | kernel_rfl | decide +kernel); (case e_InvalidPlacew => first | k_is | rfl | kernel_rfl | decide +kernel); (case e_InvalidPlacex => first | k_is | rfl | kernel_rfl | decide +kernel); (case e_InvalidPlacey => first | k_is | rfl | kernel_rfl | decide +kernel); (case e_InvalidPlacez => first | k_is | rfl | kernel_rfl | decide +kernel); (case e_InvalidMomentb => first | k_is | rfl | kernel_rfl | decide +kernel); (case e_InvalidMomentc => first | k_is | rfl | kernel_rfl | decide +kernel); (case e_InvalidMomentd => first | k_is | rfl | kernel_rfl | decide +kernel); (case e_InvalidMomente => first | k_is | rfl | kernel_rfl | decide +kernel); (case e_InvalidMomentf => first | k_is | rfl | kernel_rfl | decide +kernel); (case e_InvalidMomentg => first | k_is | rfl | kernel_rfl | decide +kernel); (case e_InvalidMomenth => first | k_is | rfl | kernel_rfl | decide +kernel); (case e_InvalidMomenti => first | k_is | rfl | kernel_rfl | decide +kernel); (case e_InvalidMomentj => first | k_is | rfl | kernel_rfl | decide +kernel); (case e_InvalidMomentk => first | k_is | rfl | kernel_rfl | decide +kernel); (case e_InvalidMomentl => first | k_is | rfl | kernel_rfl | decide +kernel); (case e_InvalidMomentm => first | k_is | rfl | kernel_rfl | decide +kernel); (case e_InvalidMomentn => first | k_is | rfl | kernel_rfl | decide +kernel); (case e_InvalidMomento => first | k_is | rfl | kernel_rfl | decide +kernel); (case e_InvalidMomentp => first | k_is | rfl | kernel_rfl | decide +kernel); (case e_InvalidMomentq => first | k_is | rfl | kernel_rfl | decide +kernel); (case e_InvalidMomentr => first | k_is | rfl | kernel_rfl | decide +kernel); (case e_InvalidMoments => first | k_is | rfl | kernel_rfl | decide +kernel); (case e_InvalidMomentt => first | k_is | rfl | kernel_rfl | decide +kernel); (case e_InvalidMomentu => first | k_is | rfl | kernel_rfl | decide +kernel); (case e_InvalidMomentv => first | k_is | rfl | kernel_rfl | decide +kernel); (case e_InvalidMomentw => first | k_is | rfl | kernel_rfl | decide +kernel); (case e_InvalidMomentx => first | k_is | rfl | kernel_rfl | decide +kernel); (case e_InvalidMomenty => first | k_is | rfl | kernel_rfl | decide +kernel); (case e_InvalidMomentz => first | k_is | rfl | kernel_rfl | decide +kernel); (case e_InvalidSpeedb => first | k_is | rfl | kernel_rfl | decide +kernel); (case e_InvalidSpeedc => first | k_is | rfl | kernel_rfl | decide +kernel); (case e_InvalidSpeedd => first | k_is | rfl | kernel_rfl | decide +kernel); (case e_InvalidSpeede => first | k_is | rfl | kernel_rfl | decide +kernel); (case e_InvalidSpeedf => first | k_is | rfl | kernel_rfl | decide +kernel); (case e_InvalidSpeedg => first | k_is | rfl | kernel_rfl | decide +kernel); (case e_InvalidSpeedh => first | k_is | rfl | kernel_rfl | decide +kernel); (case e_InvalidSpeedi => first | k_is | rfl | kernel_rfl | decide +kernel); (case e_InvalidSpeedj => first | k_is | rfl | kernel_rfl | decide +kernel); (case e_InvalidSpeedk => first | k_is | rfl | kernel_rfl | decide +kernel); (case e_InvalidSpeedl => first | k_is | rfl | kernel_rfl | decide +kernel); (case e_InvalidSpeedm => first | k_is | rfl | kernel_rfl | decide +kernel); (case e_InvalidSpeedn => first | k_is | rfl | kernel_rfl | decide +kernel); (case e_InvalidSpeedo => first | k_is | rfl | kernel_rfl | decide +kernel); (case e_InvalidSpeedp => first | k_is | rfl | kernel_rfl | decide +kernel); (case e_InvalidSpeedq => first | k_is | rfl | kernel_rfl | decide +kernel); (case e_InvalidSpeedr => first | k_is | rfl | kernel_rfl | decide +kernel); (case e_InvalidSpeeds => first | k_is | rfl | kernel_rfl | decide +kernel); (case e_InvalidSpeedt => first | k_is | rfl | kernel_rfl | decide +kernel); (case e_InvalidSpeedu => first | k_is | rfl | kernel_rfl | decide +kernel); (case e_InvalidSpeedv => first | k_is | rfl | kernel_rfl | decide +kernel); (case e_InvalidSpeedw => first | k_is | rfl | kernel_rfl | decide +kernel); (case e_InvalidSpeedx => first | k_is | rfl | kernel_rfl | decide +kernel); (case e_InvalidSpeedy => first | k_is | rfl | kernel_rfl | decide +kernel); (case e_InvalidSpeedz => first | k_is | rfl | kernel_rfl | decide +kernel); (case e_InvalidWayb => first | k_is | rfl | kernel_rfl | decide +kernel); (case e_InvalidWayc => first | k_is | rfl | kernel_rfl | decide +kernel); (case e_InvalidWayd => first | k_is | rfl | kernel_rfl | decide +kernel); (case e_InvalidWaye => first | k_is | rfl | kernel_rfl | decide +kernel); (case e_InvalidWayf => first | k_is | rfl | kernel_rfl | decide +kernel); (case e_InvalidWayg => first | k_is | rfl | kernel_rfl | decide +kernel); (case e_InvalidWayh => first | k_is | rfl | kernel_rfl | decide +kernel); (case e_InvalidWayi => first | k_is | rfl | kernel_rfl | decide +kernel); (case e_InvalidWayj => first | k_is | rfl | kernel_rfl | decide +kernel); (case e_InvalidWayk => first | k_is | rfl | kernel_rfl | decide +kernel); (case e_InvalidWayl => first | k_is | rfl | kernel_rfl | decide +kernel); (case e_InvalidWaym => first | k_is | rfl | kernel_rfl | decide +kernel); (case e_InvalidWayn => first | k_is | rfl | kernel_rfl | decide +kernel); (case e_InvalidWayo => first | k_is | rfl | kernel_rfl | decide +kernel); (case e_InvalidWayp => first | k_is | rfl | kernel_rfl | decide +kernel); (case e_InvalidWayq => first | k_is | rfl | kernel_rfl | decide +kernel); (case e_InvalidWayr => first | k_is | rfl | kernel_rfl | decide +kernel); (case e_InvalidWays => first | k_is | rfl | kernel_rfl | decide +kernel); (case e_InvalidWayt => first | k_is | rfl | kernel_rfl | decide +kernel); (case e_InvalidWayu => first | k_is | rfl | kernel_rfl | decide +kernel); (case e_InvalidWayv => first | k_is | rfl | kernel_rfl | decide +kernel); (case e_InvalidWayw => first | k_is | rfl | kernel_rfl | decide +kernel); (case e_InvalidWayx => first | k_is | rfl | kernel_rfl | decide +kernel); (case e_InvalidWayy => first | k_is | rfl | kernel_rfl | decide +kernel); (case e_InvalidWayz => first | k_is | rfl | kernel_rfl | decide +kernel); (case e_InvalidSceneb => first | k_is | rfl | kernel_rfl | decide +kernel); (case e_InvalidScenec => first | k_is | rfl | kernel_rfl | decide +kernel); (case e_InvalidScened => first | k_is | rfl | kernel_rfl | decide +kernel); (case e_InvalidScenee => first | k_is | rfl | kernel_rfl | decide +kernel); (case e_InvalidScenef => first | k_is | rfl | kernel_rfl | decide +kernel); (case e_InvalidSceneg => first | k_is | rfl | kernel_rfl | decide +kernel); (case e_InvalidSceneh => first | k_is | rfl | kernel_rfl | decide +kernel); (case e_InvalidScenei => first | k_is | rfl | kernel_rfl | decide +kernel); (case e_InvalidScenej => first | k_is | rfl | kernel_rfl | decide +kernel); (case e_InvalidScenek => first | k_is | rfl | kernel_rfl | decide +kernel); (case e_InvalidScenel => first | k_is | rfl | kernel_rfl | decide +kernel); (case e_InvalidScenem => first | k_is | rfl | kernel_rfl | decide +kernel); (case e_InvalidScenen => first | k_is | rfl | kernel_rfl | decide +kernel); (case e_InvalidSceneo => first | k_is | rfl | kernel_rfl | decide +kernel); (case e_InvalidScenep => first | k_is | rfl | kernel_rfl | decide +kernel); (case e_InvalidSceneq => first | k_is | rfl | kernel_rfl | decide +kernel); (case e_InvalidScener => first | k_is | rfl | kernel_rfl | decide +kernel); (case e_InvalidScenes => first | k_is | rfl | kernel_rfl | decide +kernel); (case e_InvalidScenet => first | k_is | rfl | kernel_rfl | decide +kernel); (case e_InvalidSceneu => first | k_is | rfl | kernel_rfl | decide +kernel); (case e_InvalidScenev => first | k_is | rfl | kernel_rfl | decide +kernel); (case e_InvalidScenew => first | k_is | rfl | kernel_rfl | decide +kernel); (case e_InvalidScenex => first | k_is | rfl | kernel_rfl | decide +kernel); (case e_InvalidSceney => first | k_is | rfl | kernel_rfl | decide +kernel); (case e_InvalidScenez => first | k_is | rfl | kernel_rfl | decide +kernel); (case e_InvalidCountsb => first | k_is | rfl | kernel_rfl | decide +kernel); (case e_InvalidCountsc => first | k_is | rfl | kernel_rfl | decide +kernel); (case e_InvalidCountsd => first | k_is | rfl | kernel_rfl | decide +kernel); (case e_InvalidCountse => first | k_is | rfl | kernel_rfl | decide +kernel); (case e_InvalidCountsf => first | k_is | rfl | kernel_rfl | decide +kernel); (case e_InvalidCountsg => first | k_is | rfl | kernel_rfl | decide +kernel); (case e_InvalidCountsh => first | k_is | rfl | kernel_rfl | decide +kernel); (case e_InvalidCountsi => first | k_is | rfl | kernel_rfl | decide +kernel); (case e_InvalidCountsj => first | k_is | rfl | kernel_rfl | decide +kernel); (case e_InvalidCountsk => first | k_is | rfl | kernel_rfl | decide +kernel); (case e_InvalidCountsl => first | k_is | rfl | kernel_rfl | decide +kernel); (case e_InvalidCountsm => first | k_is | rfl | kernel_rfl | decide +kernel); (case e_InvalidCountsn => first | k_is | rfl | kernel_rfl | decide +kernel); (case e_InvalidCountso => first | k_is | rfl | kernel_rfl | decide +kernel); (case e_InvalidCountsp => first | k_is | rfl | kernel_rfl | decide +kernel); (case e_InvalidCountsq => first | k_is | rfl | kernel_rfl | decide +kernel); (case e_InvalidCountsr => first | k_is | rfl | kernel_rfl | decide +kernel); (case e_InvalidCountss => first | k_is | rfl | kernel_rfl | decide +kernel); (case e_InvalidCountst => first | k_is | rfl | kernel_rfl | decide +kernel); (case e_InvalidCountsu => first | k_is | rfl | kernel_rfl | decide +kernel); (case e_InvalidCountsv => first | k_is | rfl | kernel_rfl | decide +kernel); (case e_InvalidCountsw => first | k_is | rfl | kernel_rfl | decide +kernel); (case e_InvalidCountsx => first | k_is | rfl | kernel_rfl | decide +kernel); (case e_InvalidCountsy => first | k_is | rfl | kernel_rfl | decide +kernel); (case e_InvalidCountsz => first | k_is | rfl | kernel_rfl | decide +kernel); (case e_InvalidRimsb => first | k_is | rfl | kernel_rfl | decide +kernel); (case e_InvalidRimsc => first | k_is | rfl | kernel_rfl | decide +kernel); (case e_InvalidRimsd => first | k_is | rfl | kernel_rfl | decide +kernel); (case e_InvalidRimse => first | k_is | rfl | kernel_rfl | decide +kernel); (case e_InvalidRimsf => first | k_is | rfl | kernel_rfl | decide +kernel); (case e_InvalidRimsg => first | k_is | rfl | kernel_rfl | decide +kernel); (case e_InvalidRimsh => first | k_is | rfl | kernel_rfl | decide +kernel); (case e_InvalidRimsi => first | k_is | rfl | kernel_rfl | decide +kernel); (case e_InvalidRimsj => first | k_is | rfl | kernel_rfl | decide +kernel); (case e_InvalidRimsk => first | k_is | rfl | kernel_rfl | decide +kernel); (case e_InvalidRimsl => first | k_is | rfl | kernel_rfl | decide +kernel); (case e_InvalidRimsm => first | k_is | rfl | kernel_rfl | decide +kernel); (case e_InvalidRimsn => first | k_is | rfl | kernel_rfl | decide +kernel); (case e_InvalidRimso => first | k_is | rfl | kernel_rfl | decide +kernel); (case e_InvalidRimsp => first | k_is | rfl | kernel_rfl | decide +kernel); (case e_InvalidRimsq => first | k_is | rfl | kernel_rfl | decide +kernel); (case e_InvalidRimsr => first | k_is | rfl | kernel_rfl | decide +kernel); (case e_InvalidRimss => first | k_is | rfl | kernel_rfl | decide +kernel); (case e_InvalidRimst => first | k_is | rfl | kernel_rfl | decide +kernel); (case e_InvalidRimsu => first | k_is | rfl | kernel_rfl | decide +kernel); (case e_InvalidRimsv => first | k_is | rfl | kernel_rfl | decide +kernel); (case e_InvalidRimsw => first | k_is | rfl | kernel_rfl | decide +kernel); (case e_InvalidRimsx => first | k_is | rfl | kernel_rfl | decide +kernel); (case e_InvalidRimsy => first | k_is | rfl | kernel_rfl | decide +kernel); (case e_InvalidRimsz => first | k_is | rfl | kernel_rfl | decide +kernel); (case e_InvalidBookb => first | k_is | rfl | kernel_rfl | decide +kernel); (case e_InvalidBookc => first | k_is | rfl | kernel_rfl | decide +kernel); (case e_InvalidBookd => first | k_is | rfl | kernel_rfl | decide +kernel); (case e_InvalidBooke => first | k_is | rfl | kernel_rfl | decide +kernel); (case e_InvalidBookf => first | k_is | rfl | kernel_rfl | decide +kernel); (case e_InvalidBookg => first | k_is | rfl | kernel_rfl | decide +kernel); (case e_InvalidBookh => first | k_is | rfl | kernel_rfl | decide +kernel); (case e_InvalidBooki => first | k_is | rfl | kernel_rfl | decide +kernel); (case e_InvalidBookj => first | k_is | rfl | kernel_rfl | decide +kernel); (case e_InvalidBookk => first | k_is | rfl | kernel_rfl | decide +kernel); (case e_InvalidBookl => first | k_is | rfl | kernel_rfl | decide +kernel); (case e_InvalidBookm => first | k_is | rfl | kernel_rfl | decide +kernel); (case e_InvalidBookn => first | k_is | rfl | kernel_rfl | decide +kernel); (case e_InvalidBooko => first | k_is | rfl | kernel_rfl | decide +kernel); (case e_InvalidBookp => first | k_is | rfl | kernel_rfl | decide +kernel); (case e_InvalidBookq => first | k_is | rfl | kernel_rfl | decide +kernel); (case e_InvalidBookr => first | k_is | rfl | kernel_rfl | decide +kernel); (case e_InvalidBooks => first | k_is | rfl | kernel_rfl | decide +kernel); (case e_InvalidBookt => first | k_is | rfl | kernel_rfl | decide +kernel); (case e_InvalidBooku => first | k_is | rfl | kernel_rfl | decide +kernel); (case e_InvalidBookv => first | k_is | rfl | kernel_rfl | decide +kernel); (case e_InvalidBookw => first | k_is | rfl | kernel_rfl | decide +kernel); (case e_InvalidBookx => first | k_is | rfl | kernel_rfl | decide +kernel); (case e_InvalidBooky => first | k_is | rfl | kernel_rfl | decide +kernel); (case e_InvalidBookz => first | k_is | rfl | kernel_rfl | decide +kernel); (case e_InvalidNameb => first | k_is | rfl | kernel_rfl | decide +kernel); (case e_InvalidNamec => first | k_is | rfl | kernel_rfl | decide +kernel); (case e_InvalidNamed => first | k_is | rfl | kernel_rfl | decide +kernel); (case e_InvalidNamee => first | k_is | rfl | kernel_rfl | decide +kernel); (case e_InvalidNamef => first | k_is | rfl | kernel_rfl | decide +kernel); (case e_InvalidNameg => first | k_is | rfl | kernel_rfl | decide +kernel); (case e_InvalidNameh => first | k_is | rfl | kernel_rfl | decide +kernel); (case e_InvalidNamei => first | k_is | rfl | kernel_rfl | decide +kernel); (case e_InvalidNamej => first | k_is | rfl | kernel_rfl | decide +kernel); (case e_InvalidNamek => first | k_is | rfl | kernel_rfl | decide +kernel); (case e_InvalidNamel => first | k_is | rfl | kernel_rfl | decide +kernel); (case e_InvalidNamem => first | k_is | rfl | kernel_rfl | decide +kernel); (case e_InvalidNamen => first | k_is | rfl | kernel_rfl | decide +kernel); (case e_InvalidNameo => first | k_is | rfl | kernel_rfl | decide +kernel); (case e_InvalidNamep => first | k_is | rfl | kernel_rfl | decide +kernel); (case e_InvalidNameq => first | k_is | rfl | kernel_rfl | decide +kernel); (case e_InvalidNamer => first | k_is | rfl | kernel_rfl | decide +kernel); (case e_InvalidNames => first | k_is | rfl | kernel_rfl | decide +kernel); (case e_InvalidNamet => first | k_is | rfl | kernel_rfl | decide +kernel); (case e_InvalidNameu => first | k_is | rfl | kernel_rfl | decide +kernel); (case e_InvalidNamev => first | k_is | rfl | kernel_rfl | decide +kernel); (case e_InvalidNamew => first | k_is | rfl | kernel_rfl | decide +kernel); (case e_InvalidNamex => first | k_is | rfl | kernel_rfl | decide +kernel); (case e_InvalidNamey => first | k_is | rfl | kernel_rfl | decide +kernel); (case e_InvalidNamez => first | k_is | rfl | kernel_rfl | decide +kernel); (case e_InvalidWishb => first | k_is | rfl | kernel_rfl | decide +kernel); (case e_InvalidWishc => first | k_is | rfl | kernel_rfl | decide +kernel); (case e_InvalidWishd => first | k_is | rfl | kernel_rfl | decide +kernel); (case e_InvalidWishe => first | k_is | rfl | kernel_rfl | decide +kernel); (case e_InvalidWishf => first | k_is | rfl | kernel_rfl | decide +kernel); (case e_InvalidWishg => first | k_is | rfl | kernel_rfl | decide +kernel); (case e_InvalidWishh => first | k_is | rfl | kernel_rfl | decide +kernel); (case e_InvalidWishi => first | k_is | rfl | kernel_rfl | decide +kernel); (case e_InvalidWishj => first | k_is | rfl | kernel_rfl | decide +kernel); (case e_InvalidWishk => first | k_is | rfl | kernel_rfl | decide +kernel); (case e_InvalidWishl => first | k_is | rfl | kernel_rfl | decide +kernel); (case e_InvalidWishm => first | k_is | rfl | kernel_rfl | decide +kernel); (case e_InvalidWishn => first | k_is | rfl | kernel_rfl | decide +kernel); (case e_InvalidWisho => first | k_is | rfl | kernel_rfl | decide +kernel); (case e_InvalidWishp => first | k_is | rfl | kernel_rfl | decide +kernel); (case e_InvalidWishq => first | k_is | rfl | kernel_rfl | decide +kernel); (case e_InvalidWishr => first | k_is | rfl | kernel_rfl | decide +kernel); (case e_InvalidWishs => first | k_is | rfl | kernel_rfl | decide +kernel); (case e_InvalidWisht => first | k_is | rfl | kernel_rfl | decide +kernel); (case e_InvalidWishu => first | k_is | rfl | kernel_rfl | decide +kernel); (case e_InvalidWishv => first | k_is | rfl | kernel_rfl | decide +kernel); (case e_InvalidWishw => first | k_is | rfl | kernel_rfl | decide +kernel); (case e_InvalidWishx => first | k_is | rfl | kernel_rfl | decide +kernel); (case e_InvalidWishy => first | k_is | rfl | kernel_rfl | decide +kernel); (case e_InvalidWishz => first | k_is | rfl | kernel_rfl | decide +kernel); (case e_InvalidPhraseb => first | k_is | rfl | kernel_rfl | decide +kernel); (case e_InvalidPhrasec => first | k_is | rfl | kernel_rfl | decide +kernel); (case e_InvalidPhrased => first | k_is | rfl | kernel_rfl | decide +kernel); (case e_InvalidPhrasee => first | k_is | rfl | kernel_rfl | decide +kernel); (case e_InvalidPhrasef => first | k_is | rfl | kernel_rfl | decide +kernel); (case e_InvalidPhraseg => first | k_is | rfl | kernel_rfl | decide +kernel); (case e_InvalidPhraseh => first | k_is | rfl | kernel_rfl | decide +kernel); (case e_InvalidPhrasei => first | k_is | rfl | kernel_rfl | decide +kernel); (case e_InvalidPhrasej => first | k_is | rfl | kernel_rfl | decide +kernel); (case e_InvalidPhrasek => first | k_is | rfl | kernel_rfl | decide +kernel); (case e_InvalidPhrasel => first | k_is | rfl | kernel_rfl | decide +kernel); (case e_InvalidPhrasem => first | k_is | rfl | kernel_rfl | decide +kernel); (case e_InvalidPhrasen => first | k_is | rfl | kernel_rfl | decide +kernel); (case e_InvalidPhraseo => first | k_is | rfl | kernel_rfl | decide +kernel); (case e_InvalidPhrasep => first | k_is | rfl | kernel_rfl | decide +kernel); (case e_InvalidPhraseq => first | k_is | rfl | kernel_rfl | decide +kernel); (case e_InvalidPhraser => first | k_is | rfl | kernel_rfl | decide +kernel); (case e_InvalidPhrases => first | k_is | rfl | kernel_rfl | decide +kernel); (case e_InvalidPhraset => first | k_is | rfl | kernel_rfl | decide +kernel); (case e_InvalidPhraseu => first | k_is | rfl | kernel_rfl | decide +kernel); (case e_InvalidPhrasev => first | k_is | rfl | kernel_rfl | decide +kernel); (case e_InvalidPhrasew => first | k_is | rfl | kernel_rfl | decide +kernel); (case e_InvalidPhrasex => first | k_is | rfl | kernel_rfl | decide +kernel); (case e_InvalidPhrasey => first | k_is | rfl | kernel_rfl | decide +kernel); (case e_InvalidPhrasez => first | k_is | rfl | kernel_rfl | decide +kernel); (case e_NotAWorkshopb => first | k_is | rfl | kernel_rfl | decide +kernel); (case e_NotAWorkshopc => first | k_is | rfl | kernel_rfl | decide +kernel); (case e_NotAWorkshopd => first | k_is | rfl | kernel_rfl | decide +kernel); (case e_NotAWorkshope => first | k_is | rfl | kernel_rfl | decide +kernel); (case e_NotAWorkshopf => first | k_is | rfl | kernel_rfl | decide +kernel); (case e_NotAWorkshopg => first | k_is | rfl | kernel_rfl | decide +kernel); (case e_NotAWorkshoph => first | k_is | rfl | kernel_rfl | decide +kernel); (case e_NotAWorkshopi => first | k_is | rfl | kernel_rfl | decide +kernel); (case e_NotAWorkshopj => first | k_is | rfl | kernel_rfl | decide +kernel); (case e_NotAWorkshopk => first | k_is | rfl | kernel_rfl | decide +kernel); (case e_NotAWorkshopl => first | k_is | rfl | kernel_rfl | decide +kernel); (case e_NotAWorkshopm => first | k_is | rfl | kernel_rfl | decide +kernel); (case e_NotAWorkshopn => first | k_is | rfl | kernel_rfl | decide +kernel); (case e_NotAWorkshopo => first | k_is | rfl | kernel_rfl | decide +kernel); (case e_NotAWorkshopp => first | k_is | rfl | kernel_rfl | decide +kernel); (case e_NotAWorkshopq => first | k_is | rfl | kernel_rfl | decide +kernel); (case e_NotAWorkshopr => first | k_is | rfl | kernel_rfl | decide +kernel); (case e_NotAWorkshops => first | k_is | rfl | kernel_rfl | decide +kernel); (case e_NotAWorkshopt => first | k_is | rfl | kernel_rfl | decide +kernel); (case e_NotAWorkshopu => first | k_is | rfl | kernel_rfl | decide +kernel); (case e_NotAWorkshopv => first | k_is | rfl | kernel_rfl | decide +kernel); (case e_NotAWorkshopw => first | k_is | rfl | kernel_rfl | decide +kernel); (case e_NotAWorkshopx => first | k_is | rfl | kernel_rfl | decide +kernel); (case e_NotAWorkshopy => first | k_is | rfl | kernel_rfl | decide +kernel); (case e_NotAWorkshopz => first | k_is | rfl | kernel_rfl | decide +kernel); (case e_UnknownNameb => first | k_is | rfl | kernel_rfl | decide +kernel); (case e_UnknownNamec => first | k_is | rfl | kernel_rfl | decide +kernel); (case e_UnknownNamed => first | k_is | rfl | kernel_rfl | decide +kernel); (case e_UnknownNamee => first | k_is | rfl | kernel_rfl | decide +kernel); (case e_UnknownNamef => first | k_is | rfl | kernel_rfl | decide +kernel); (case e_UnknownNameg => first | k_is | rfl | kernel_rfl | decide +kernel); (case e_UnknownNameh => first | k_is | rfl | kernel_rfl | decide +kernel); (case e_UnknownNamei => first | k_is | rfl | kernel_rfl | decide +kernel); (case e_UnknownNamej => first | k_is | rfl | kernel_rfl | decide +kernel); (case e_UnknownNamek => first | k_is | rfl | kernel_rfl | decide +kernel); (case e_UnknownNamel => first | k_is | rfl | kernel_rfl | decide +kernel); (case e_UnknownNamem => first | k_is | rfl | kernel_rfl | decide +kernel); (case e_UnknownNamen => first | k_is | rfl | kernel_rfl | decide +kernel); (case e_UnknownNameo => first | k_is | rfl | kernel_rfl | decide +kernel); (case e_UnknownNamep => first | k_is | rfl | kernel_rfl | decide +kernel); (case e_UnknownNameq => first | k_is | rfl | kernel_rfl | decide +kernel); (case e_UnknownNamer => first | k_is | rfl | kernel_rfl | decide +kernel); (case e_UnknownNames => first | k_is | rfl | kernel_rfl | decide +kernel); (case e_UnknownNamet => first | k_is | rfl | kernel_rfl | decide +kernel); (case e_UnknownNameu => first | k_is | rfl | kernel_rfl | decide +kernel); (case e_UnknownNamev => first | k_is | rfl | kernel_rfl | decide +kernel); (case e_UnknownNamew => first | k_is | rfl | kernel_rfl | decide +kernel); (case e_UnknownNamex => first | k_is | rfl | kernel_rfl | decide +kernel); (case e_UnknownNamey => first | k_is | rfl | kernel_rfl | decide +kernel); (case e_UnknownNamez => first | k_is | rfl | kernel_rfl | decide +kernel); (case e_TooManyb => first | k_is | rfl | kernel_rfl | decide +kernel); (case e_TooManyc => first | k_is | rfl | kernel_rfl | decide +kernel); (case e_TooManyd => first | k_is | rfl | kernel_rfl | decide +kernel); (case e_TooManye => first | k_is | rfl | kernel_rfl | decide +kernel); (case e_TooManyf => first | k_is | rfl | kernel_rfl | decide +kernel); (case e_TooManyg => first | k_is | rfl | kernel_rfl | decide +kernel); (case e_TooManyh => first | k_is | rfl | kernel_rfl | decide +kernel); (case e_TooManyi => first | k_is | rfl | kernel_rfl | decide +kernel); (case e_TooManyj => first | k_is | rfl | kernel_rfl | decide +kernel); (case e_TooManyk => first | k_is | rfl | kernel_rfl | decide +kernel); (case e_TooManyl => first | k_is | rfl | kernel_rfl | decide +kernel); (case e_TooManym => first | k_is | rfl | kernel_rfl | decide +kernel); (case e_TooManyn => first | k_is | rfl | kernel_rfl | decide +kernel); (case e_TooManyo => first | k_is | rfl | kernel_rfl | decide +kernel); (case e_TooManyp => first | k_is | rfl | kernel_rfl | decide +kernel); (case e_TooManyq => first | k_is | rfl | kernel_rfl | decide +kernel); (case e_TooManyr => first | k_is | rfl | kernel_rfl | decide +kernel); (case e_TooManys => first | k_is | rfl | kernel_rfl | decide +kernel); (case e_TooManyt => first | k_is | rfl | kernel_rfl | decide +kernel); (case e_TooManyu => first | k_is | rfl | kernel_rfl | decide +kernel); (case e_TooManyv => first | k_is | rfl | kernel_rfl | decide +kernel); (case e_TooManyw => first | k_is | rfl | kernel_rfl | decide +kernel); (case e_TooManyx => first | k_is | rfl | kernel_rfl | decide +kernel); (case e_TooManyy => first | k_is | rfl | kernel_rfl | decide +kernel); (case e_TooManyz => first | k_is | rfl | kernel_rfl | decide +kernel); (case e_InvalidBeginningb => first | k_is | rfl | kernel_rfl | decide +kernel); (case e_InvalidBeginningc => first | k_is | rfl | kernel_rfl | decide +kernel); (case e_InvalidBeginningd => first | k_is | rfl | kernel_rfl | decide +kernel); (case e_InvalidBeginninge => first | k_is | rfl | kernel_rfl | decide +kernel); (case e_InvalidBeginningf => first | k_is | rfl | kernel_rfl | decide +kernel); (case e_InvalidBeginningg => first | k_is | rfl | kernel_rfl | decide +kernel); (case e_InvalidBeginningh => first | k_is | rfl | kernel_rfl | decide +kernel); (case e_InvalidBeginningi => first | k_is | rfl | kernel_rfl | decide +kernel); (case e_InvalidBeginningj => first | k_is | rfl | kernel_rfl | decide +kernel); (case e_InvalidBeginningk => first | k_is | rfl | kernel_rfl | decide +kernel); (case e_InvalidBeginningl => first | k_is | rfl | kernel_rfl | decide +kernel); (case e_InvalidBeginningm => first | k_is | rfl | kernel_rfl | decide +kernel); (case e_InvalidBeginningn => first | k_is | rfl | kernel_rfl | decide +kernel); (case e_InvalidBeginningo => first | k_is | rfl | kernel_rfl | decide +kernel); (case e_InvalidBeginningp => first | k_is | rfl | kernel_rfl | decide +kernel); (case e_InvalidBeginningq => first | k_is | rfl | kernel_rfl | decide +kernel); (case e_InvalidBeginningr => first | k_is | rfl | kernel_rfl | decide +kernel); (case e_InvalidBeginnings => first | k_is | rfl | kernel_rfl | decide +kernel); (case e_InvalidBeginningt => first | k_is | rfl | kernel_rfl | decide +kernel); (case e_InvalidBeginningu => first | k_is | rfl | kernel_rfl | decide +kernel); (case e_InvalidBeginningv => first | k_is | rfl | kernel_rfl | decide +kernel); (case e_InvalidBeginningw => first | k_is | rfl | kernel_rfl | decide +kernel); (case e_InvalidBeginningx => first | k_is | rfl | kernel_rfl | decide +kernel); (case e_InvalidBeginningy => first | k_is | rfl | kernel_rfl | decide +kernel); (case e_InvalidBeginningz => first | k_is | rfl | kernel_rfl | decide +kernel); (case e_InvalidComingsb => first | k_is | rfl | kernel_rfl | decide +kernel); (case e_InvalidComingsc => first | k_is | rfl | kernel_rfl | decide +kernel); (case e_InvalidComingsd => first | k_is | rfl | kernel_rfl | decide +kernel); (case e_InvalidComingse => first | k_is | rfl | kernel_rfl | decide +kernel); (case e_InvalidComingsf => first | k_is | rfl | kernel_rfl | decide +kernel); (case e_InvalidComingsg => first | k_is | rfl | kernel_rfl | decide +kernel); (case e_InvalidComingsh => first | k_is | rfl | kernel_rfl | decide +kernel); (case e_InvalidComingsi => first | k_is | rfl | kernel_rfl | decide +kernel); (case e_InvalidComingsj => first | k_is | rfl | kernel_rfl | decide +kernel); (case e_InvalidComingsk => first | k_is | rfl | kernel_rfl | decide +kernel); (case e_InvalidComingsl => first | k_is | rfl | kernel_rfl | decide +kernel); (case e_InvalidComingsm => first | k_is | rfl | kernel_rfl | decide +kernel); (case e_InvalidComingsn => first | k_is | rfl | kernel_rfl | decide +kernel); (case e_InvalidComingso => first | k_is | rfl | kernel_rfl | decide +kernel); (case e_InvalidComingsp => first | k_is | rfl | kernel_rfl | decide +kernel); (case e_InvalidComingsq => first | k_is | rfl | kernel_rfl | decide +kernel); (case e_InvalidComingsr => first | k_is | rfl | kernel_rfl | decide +kernel); (case e_InvalidComingss => first | k_is | rfl | kernel_rfl | decide +kernel); (case e_InvalidComingst => first | k_is | rfl | kernel_rfl | decide +kernel); (case e_InvalidComingsu => first | k_is | rfl | kernel_rfl | decide +kernel); (case e_InvalidComingsv => first | k_is | rfl | kernel_rfl | decide +kernel); (case e_InvalidComingsw => first | k_is | rfl | kernel_rfl | decide +kernel); (case e_InvalidComingsx => first | k_is | rfl | kernel_rfl | decide +kernel); (case e_InvalidComingsy => first | k_is | rfl | kernel_rfl | decide +kernel); (case e_InvalidComingsz => first | k_is | rfl | kernel_rfl | decide +kernel); (case e_InvalidBarsb => first | k_is | rfl | kernel_rfl | decide +kernel); (case e_InvalidBarsc => first | k_is | rfl | kernel_rfl | decide +kernel); (case e_InvalidBarsd => first | k_is | rfl | kernel_rfl | decide +kernel); (case e_InvalidBarse => first | k_is | rfl | kernel_rfl | decide +kernel); (case e_InvalidBarsf => first | k_is | rfl | kernel_rfl | decide +kernel); (case e_InvalidBarsg => first | k_is | rfl | kernel_rfl | decide +kernel); (case e_InvalidBarsh => first | k_is | rfl | kernel_rfl | decide +kernel); (case e_InvalidBarsi => first | k_is | rfl | kernel_rfl | decide +kernel); (case e_InvalidBarsj => first | k_is | rfl | kernel_rfl | decide +kernel); (case e_InvalidBarsk => first | k_is | rfl | kernel_rfl | decide +kernel); (case e_InvalidBarsl => first | k_is | rfl | kernel_rfl | decide +kernel); (case e_InvalidBarsm => first | k_is | rfl | kernel_rfl | decide +kernel); (case e_InvalidBarsn => first | k_is | rfl | kernel_rfl | decide +kernel); (case e_InvalidBarso => first | k_is | rfl | kernel_rfl | decide +kernel); (case e_InvalidBarsp => first | k_is | rfl | kernel_rfl | decide +kernel); (case e_InvalidBarsq => first | k_is | rfl | kernel_rfl | decide +kernel); (case e_InvalidBarsr => first | k_is | rfl | kernel_rfl | decide +kernel); (case e_InvalidBarss => first | k_is | rfl | kernel_rfl | decide +kernel); (case e_InvalidBarst => first | k_is | rfl | kernel_rfl | decide +kernel); (case e_InvalidBarsu => first | k_is | rfl | kernel_rfl | decide +kernel); (case e_InvalidBarsv => first | k_is | rfl | kernel_rfl | decide +kernel); (case e_InvalidBarsw => first | k_is | rfl | kernel_rfl | decide +kernel); (case e_InvalidBarsx => first | k_is | rfl | kernel_rfl | decide +kernel); (case e_InvalidBarsy => first | k_is | rfl | kernel_rfl | decide +kernel); (case e_InvalidBarsz => first | k_is | rfl | kernel_rfl | decide +kernel); (case e_InvalidRowb => first | k_is | rfl | kernel_rfl | decide +kernel); (case e_InvalidRowc => first | k_is | rfl | kernel_rfl | decide +kernel); (case e_InvalidRowd => first | k_is | rfl | kernel_rfl | decide +kernel); (case e_InvalidRowe => first | k_is | rfl | kernel_rfl | decide +kernel); (case e_InvalidRowf => first | k_is | rfl | kernel_rfl | decide +kernel); (case e_InvalidRowg => first | k_is | rfl | kernel_rfl | decide +kernel); (case e_InvalidRowh => first | k_is | rfl | kernel_rfl | decide +kernel); (case e_InvalidRowi => first | k_is | rfl | kernel_rfl | decide +kernel); (case e_InvalidRowj => first | k_is | rfl | kernel_rfl | decide +kernel); (case e_InvalidRowk => first | k_is | rfl | kernel_rfl | decide +kernel); (case e_InvalidRowl => first | k_is | rfl | kernel_rfl | decide +kernel); (case e_InvalidRowm => first | k_is | rfl | kernel_rfl | decide +kernel); (case e_InvalidRown => first | k_is | rfl | kernel_rfl | decide +kernel); (case e_InvalidRowo => first | k_is | rfl | kernel_rfl | decide +kernel); (case e_InvalidRowp => first | k_is | rfl | kernel_rfl | decide +kernel); (case e_InvalidRowq => first | k_is | rfl | kernel_rfl | decide +kernel); (case e_InvalidRowr => first | k_is | rfl | kernel_rfl | decide +kernel); (case e_InvalidRows => first | k_is | rfl | kernel_rfl | decide +kernel); (case e_InvalidRowt => first | k_is | rfl | kernel_rfl | decide +kernel); (case e_InvalidRowu => first | k_is | rfl | kernel_rfl | decide +kernel); (case e_InvalidRowv => first | k_is | rfl | kernel_rfl | decide +kernel); (case e_InvalidRoww => first | k_is | rfl | kernel_rfl | decide +kernel); (case e_InvalidRowx => first | k_is | rfl | kernel_rfl | decide +kernel); (case e_InvalidRowy => first | k_is | rfl | kernel_rfl | decide +kernel); (case e_InvalidRowz => first | k_is | rfl | kernel_rfl | decide +kernel); (case e_InvalidMarksb => first | k_is | rfl | kernel_rfl | decide +kernel); (case e_InvalidMarksc => first | k_is | rfl | kernel_rfl | decide +kernel); (case e_InvalidMarksd => first | k_is | rfl | kernel_rfl | decide +kernel); (case e_InvalidMarkse => first | k_is | rfl | kernel_rfl | decide +kernel); (case e_InvalidMarksf => first | k_is | rfl | kernel_rfl | decide +kernel); (case e_InvalidMarksg => first | k_is | rfl | kernel_rfl | decide +kernel); (case e_InvalidMarksh => first | k_is | rfl | kernel_rfl | decide +kernel); (case e_InvalidMarksi => first | k_is | rfl | kernel_rfl | decide +kernel); (case e_InvalidMarksj => first | k_is | rfl | kernel_rfl | decide +kernel); (case e_InvalidMarksk => first | k_is | rfl | kernel_rfl | decide +kernel); (case e_InvalidMarksl => first | k_is | rfl | kernel_rfl | decide +kernel); (case e_InvalidMarksm => first | k_is | rfl | kernel_rfl | decide +kernel); (case e_InvalidMarksn => first | k_is | rfl | kernel_rfl | decide +kernel); (case e_InvalidMarkso => first | k_is | rfl | kernel_rfl | decide +kernel); (case e_InvalidMarksp => first | k_is | rfl | kernel_rfl | decide +kernel); (case e_InvalidMarksq => first | k_is | rfl | kernel_rfl | decide +kernel); (case e_InvalidMarksr => first | k_is | rfl | kernel_rfl | decide +kernel); (case e_InvalidMarkss => first | k_is | rfl | kernel_rfl | decide +kernel); (case e_InvalidMarkst => first | k_is | rfl | kernel_rfl | decide +kernel); (case e_InvalidMarksu => first | k_is | rfl | kernel_rfl | decide +kernel); (case e_InvalidMarksv => first | k_is | rfl | kernel_rfl | decide +kernel); (case e_InvalidMarksw => first | k_is | rfl | kernel_rfl | decide +kernel); (case e_InvalidMarksx => first | k_is | rfl | kernel_rfl | decide +kernel); (case e_InvalidMarksy => first | k_is | rfl | kernel_rfl | decide +kernel); (case e_InvalidMarksz => first | k_is | rfl | kernel_rfl | decide +kernel); (case e_InUseb => first | k_is | rfl | kernel_rfl | decide +kernel); (case e_InUsec => first | k_is | rfl | kernel_rfl | decide +kernel); (case e_InUsed => first | k_is | rfl | kernel_rfl | decide +kernel); (case e_InUsee => first | k_is | rfl | kernel_rfl | decide +kernel); (case e_InUsef => first | k_is | rfl | kernel_rfl | decide +kernel); (case e_InUseg => first | k_is | rfl | kernel_rfl | decide +kernel); (case e_InUseh => first | k_is | rfl | kernel_rfl | decide +kernel); (case e_InUsei => first | k_is | rfl | kernel_rfl | decide +kernel); (case e_InUsej => first | k_is | rfl | kernel_rfl | decide +kernel); (case e_InUsek => first | k_is | rfl | kernel_rfl | decide +kernel); (case e_InUsel => first | k_is | rfl | kernel_rfl | decide +kernel); (case e_InUsem => first | k_is | rfl | kernel_rfl | decide +kernel); (case e_InUsen => first | k_is | rfl | kernel_rfl | decide +kernel); (case e_InUseo => first | k_is | rfl | kernel_rfl | decide +kernel); (case e_InUsep => first | k_is | rfl | kernel_rfl | decide +kernel); (case e_InUseq => first | k_is | rfl | kernel_rfl | decide +kernel); (case e_InUser => first | k_is | rfl | kernel_rfl | decide +kernel); (case e_InUses => first | k_is | rfl | kernel_rfl | decide +kernel); (case e_InUset => first | k_is | rfl | kernel_rfl | decide +kernel); (case e_InUseu => first | k_is | rfl | kernel_rfl | decide +kernel); (case e_InUsev => first | k_is | rfl | kernel_rfl | decide +kernel); (case e_InUsew => first | k_is | rfl | kernel_rfl | decide +kernel); (case e_InUsex => first | k_is | rfl | kernel_rfl | decide +kernel); (case e_InUsey => first | k_is | rfl | kernel_rfl | decide +kernel); (case e_InUsez => first | k_is | rfl | kernel_rfl | decide +kernel); (case e_Brokenb => first | k_is | rfl | kernel_rfl | decide +kernel); (case e_Brokenc => first | k_is | rfl | kernel_rfl | decide +kernel); (case e_Brokend => first | k_is | rfl | kernel_rfl | decide +kernel); (case e_Brokene => first | k_is | rfl | kernel_rfl | decide +kernel); (case e_Brokenf => first | k_is | rfl | kernel_rfl | decide +kernel); (case e_Brokeng => first | k_is | rfl | kernel_rfl | decide +kernel); (case e_Brokenh => first | k_is | rfl | kernel_rfl | decide +kernel); (case e_Brokeni => first | k_is | rfl | kernel_rfl | decide +kernel); (case e_Brokenj => first | k_is | rfl | kernel_rfl | decide +kernel); (case e_Brokenk => first | k_is | rfl | kernel_rfl | decide +kernel); (case e_Brokenl => first | k_is | rfl | kernel_rfl | decide +kernel); (case e_Brokenm => first | k_is | rfl | kernel_rfl | decide +kernel); (case e_Brokenn => first | k_is | rfl | kernel_rfl | decide +kernel); (case e_Brokeno => first | k_is | rfl | kernel_rfl | decide +kernel); (case e_Brokenp => first | k_is | rfl | kernel_rfl | decide +kernel); (case e_Brokenq => first | k_is | rfl | kernel_rfl | decide +kernel); (case e_Brokenr => first | k_is | rfl | kernel_rfl | decide +kernel); (case e_Brokens => first | k_is | rfl | kernel_rfl | decide +kernel); (case e_Brokent => first | k_is | rfl | kernel_rfl | decide +kernel); (case e_Brokenu => first | k_is | rfl | kernel_rfl | decide +kernel); (case e_Brokenv => first | k_is | rfl | kernel_rfl | decide +kernel); (case e_Brokenw => first | k_is | rfl | kernel_rfl | decide +kernel); (case e_Brokenx => first | k_is | rfl | kernel_rfl | decide +kernel); (case e_Brokeny => first | k_is | rfl | kernel_rfl | decide +kernel); (case e_Brokenz => first | k_is | rfl | kernel_rfl | decide +kernel); (case e_NoneFitsb => first | k_is | kernel_rfl | decide +kernel); (case e_NoneFitsc => first | k_is | kernel_rfl | decide +kernel); (case e_NoneFitsd => first | k_is | kernel_rfl | decide +kernel); (case e_NoneFitse => first | k_is | kernel_rfl | decide +kernel); (case e_RoadErrorb => first | k_is | kernel_rfl | decide +kernel); (case e_RoadErrorc => first | k_is | kernel_rfl | decide +kernel); (case e_RoadErrord => first | k_is | kernel_rfl | decide +kernel); (case e_RoadErrore => first | k_is | kernel_rfl | decide +kernel); (case e_NoStepb => first | k_is | kernel_rfl | decide +kernel); (case e_NoStepc => first | k_is | kernel_rfl | decide +kernel); (case e_NoStepd => first | k_is | kernel_rfl | decide +kernel); (case e_NoStepe => first | k_is | kernel_rfl | decide +kernel); (case e_NothingToUndob => first | k_is | kernel_rfl | decide +kernel); (case e_NothingToUndoc => first | k_is | kernel_rfl | decide +kernel); (case e_NothingToUndod => first | k_is | kernel_rfl | decide +kernel); (case e_NothingToUndoe => first | k_is | kernel_rfl | decide +kernel)

