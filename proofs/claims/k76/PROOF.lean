import PyProof.Rows.All
import Wide.All
import OpenK.AllK
import Wide.FinOn
import PySem.Challenge.RW_floorcurves_k76_spoilt_papers
import Lean
import PyProof.EqAt
import PyProof.EqKinds
import PyProof.TupleCall
local macro_rules | `(tactic| trivial) => `(tactic| first | exact Or.inl rfl | exact Or.inr rfl)
local macro_rules | `(tactic| omega) => `(tactic| lia)
set_option pp.maxSteps 400
set_option Elab.async false
set_option linter.all false
set_option maxRecDepth 100000
set_option maxHeartbeats 4000000
set_option Elab.async false
set_option linter.all false
set_option maxRecDepth 100000
namespace L2
open PySem PySem.Spec PyProof.Rows
abbrev Key:=Sum Int Str
def nK_:Key→Value→Bool
 | .inl k,v=>Value.isInt k v
 | .inr x,v=>Value.isStrOf x v
def pE_ (w:World):Key→Int
 | .inl k=>hashInt k
 | .inr x=>hashStr w x
theorem aU_:∀{k:Key}{v:Value},nK_ k v=true→(∃i t,k=Sum.inl i∧v=Value.int i t)∨(∃x t,k=Sum.inr x∧v=Value.str x t)
 | .inl i,v,h=>by
  obtain⟨t,e⟩:=Value.isInt_shape (k:=i) (v:=v) h
  exact .inl ⟨i,t,rfl,e⟩
 | .inr x,v,h=>by
  obtain⟨t,e⟩:=Value.isStrOf_shape (x:=x) (v:=v) h
  exact .inr ⟨x,t,rfl,e⟩
theorem nJ_ (a b:Int):decide ((Sum.inl a:Key)=Sum.inl b)=(a==b):=by
 by_cases e:a=b
 ·subst e;simp
 ·have h:¬(Sum.inl a:Key)=Sum.inl b:=fun q=>e (Sum.inl.inj q)
  rw [decide_eq_false h]
  exact(beq_eq_false_iff_ne.mpr e).symm
theorem nG_ (a b:Str):decide ((Sum.inr a:Key)=Sum.inr b)=decide (a=b):=by
 by_cases e:a=b
 ·subst e;simp
 ·have h:¬(Sum.inr a:Key)=Sum.inr b:=fun q=>e (Sum.inr.inj q)
  rw [decide_eq_false h,decide_eq_false e]
theorem nI_ (a:Int) (b:Str):decide ((Sum.inl a:Key)=Sum.inr b)=false:=decide_eq_false (fun q=>nomatch q)
theorem nH_ (a:Str) (b:Int):decide ((Sum.inr a:Key)=Sum.inl b)=false:=decide_eq_false (fun q=>nomatch q)
def hw_ (prog:Program) (w:World):PySem.KeyKind prog w Key where
 is:=nK_
 hash:=pE_ w
 inj:=fun v a b ha hb=>by
  rcases aU_ ha with⟨i,t,rfl,rfl⟩|⟨x,t,rfl,rfl⟩
  ·rcases aU_ hb with⟨j,u,rfl,e⟩|⟨y,u,rfl,e⟩
   ·injection e with e1 _;rw [e1]
   ·exact nomatch e
  ·rcases aU_ hb with⟨j,u,rfl,e⟩|⟨y,u,rfl,e⟩
   ·exact nomatch e
   ·injection e with e1 _;rw [e1]
 byValue:=fun k v h=>by
  rcases aU_ h with⟨i,t,rfl,rfl⟩|⟨x,t,rfl,rfl⟩<;>rfl
 pyHash:=fun hv h=>by
  rcases aU_ hv with⟨i,t,rfl,rfl⟩|⟨x,t,rfl,rfl⟩
  ·exact wpAny_pyHash_int h
  ·exact wpAny_pyHash_str h
 eqBool:=fun hu hv h=>by
  rcases aU_ hu with⟨i,t,rfl,rfl⟩|⟨x,t,rfl,rfl⟩
  ·rcases aU_ hv with⟨j,u,rfl,rfl⟩|⟨y,u,rfl,rfl⟩
   ·rw [nJ_] at h;exact wpAny_eqBool_int h
   ·rw [nI_] at h;exact SeqAt.EqAt.int_str i t y u _ _ _ _ h
  ·rcases aU_ hv with⟨j,u,rfl,rfl⟩|⟨y,u,rfl,rfl⟩
   ·rw [nH_] at h;exact SeqAt.EqAt.str_int x t j u _ _ _ _ h
   ·rw [nG_] at h;exact wpAny_eqBool_str h
 «strs»:=fun k x t v h=>by
  rcases aU_ h with⟨i,u,rfl,e⟩|⟨y,u,rfl,e⟩
  ·exact nomatch e
  ·injection e with e1 _
   subst e1
   cases v<;>rfl
end L2
namespace L2
open PySem PySem.Spec PyProof.Rows
inductive V where
 |non|bl (b:Bool)|int (i:Int)|str (x:Str)|byt (b:Array UInt8)|flt (b:UInt64)|ref (a:Addr)|ty (n:String)
 deriving DecidableEq
def bf_:V→Value→Prop
 | .non,u=>u=Value.none
 | .bl b,u=>u=Value.bool b
 | .int i,u=>∃t,u=Value.int i t
 | .str x,u=>∃t,u=Value.str x t
 | .byt b,u=>∃t,u=Value.bytes b t
 | .flt b,u=>∃t,u=Value.float b t
 | .ref a,u=>u=Value.ref a
 | .ty n,u=>u=Value.type n
abbrev aQ_:List V→List Value→Prop:=Paired bf_
theorem aQ_.length {xs:List V}{us:List Value} (r:aQ_ xs us):xs.length=us.length:=Paired.length r
theorem aQ_.get:∀{xs:List V}{us:List Value}{i:Nat}{x:V},aQ_ xs us→xs[i]? =some x→∃u,us[i]? =some u∧bf_ x u
 |_,_,_,_, .nil,e=>by simp at e
 |_,_,0,_, .cons r _,e=>by simp at e;subst e;exact⟨_,rfl,r⟩
 |_,_,i+1,x, .cons _ t,e=>by
  obtain⟨u,h1,h2⟩:=aQ_.get (i:=i) (x:=x) t (by simpa using e)
  exact⟨u,by simpa using h1,h2⟩
theorem aQ_.set {x:V}{u:Value} (r:bf_ x u):∀{xs:List V}{us:List Value} (i:Nat),aQ_ xs us→aQ_ (xs.set i x) (us.set i u)
 |_,_,_, .nil=> .nil
 |_,_,0, .cons _ t=> .cons r t
 |_,_,i+1, .cons q t=> .cons q (aQ_.set r i t)
theorem aQ_.append:∀{xs ys:List V}{us ws:List Value},aQ_ xs us→aQ_ ys ws→aQ_ (xs++ys) (us++ws)
 |_,_,_,_, .nil,s=>s
 |_,_,_,_, .cons r t,s=> .cons r (aQ_.append t s)
theorem aQ_.take:∀{xs:List V}{us:List Value} (n:Nat),aQ_ xs us→aQ_ (xs.take n) (us.take n)
 |_,_,0,_=> .nil
 |_,_,_+1, .nil=> .nil
 |_,_,n+1, .cons r t=> .cons r (aQ_.take n t)
theorem aQ_.drop:∀{xs:List V}{us:List Value} (n:Nat),aQ_ xs us→aQ_ (xs.drop n) (us.drop n)
 |_,_,0,r=>r
 |_,_,_+1, .nil=> .nil
 |_,_,n+1, .cons _ t=>aQ_.drop n t
def mT_:Option V→Option Value→Prop
 |some v,some u=>bf_ v u
 |none,none=>True
 |_,_=>False
def KV {κ:Type}:List (κ×V)→List (κ×Value)→Prop:=Paired fun(p:κ×V) (q:κ×Value)=>p.1=q.1∧bf_ p.2 q.2
def kV:Key→V
 | .inl i=> .int i
 | .inr x=> .str x
inductive HO where
  |lst (xs:List V)
  |tup (xs:List V)
  |dK (kvs:List (Key×V))|dT (kvs:List (List Key×V))
  |set (S:Int→Bool) (n:Nat)
  |ins (C dx:Addr) (fs:List (Str×V))
  |own (x:Addr)
  |xd (fs:List (Str×V))
  |met (f x:Addr)
  |rng (lo hi:Int)
  |frz (o:Obj) (u:HO)
  |tbl (ps:Array Value)
  |ext (φ:Heap→Prop)
abbrev Hp:=Addr→Option HO
def upd (H:Hp) (a:Addr) (o:HO):Hp:=fun b=>if b=a then some o else H b
theorem ae_ {H:Hp}{a:Addr}{o:HO}:upd H a o a=some o:=by unfold upd;rw [if_pos rfl]
theorem ar_ {H:Hp}{a b:Addr}{o:HO} (h:b≠a):upd H a o b=H b:=by unfold upd;rw [if_neg h]
theorem fg_ {H:Hp}{a:Addr}{o u:HO}:upd (upd H a o) a u=upd H a u:=by
 funext b;unfold upd;split<;>rfl
theorem aS_ {H:Hp}{a b:Addr}{o:HO} (h:H a=some o) (h':H b=none):a≠b:=by
 intro e;subst e;rw [h] at h';cases h'
section
variable (P:Program) (w:World)
def ba_ (H:Hp) (h:Heap) (a:Addr):HO→Prop
 | .lst xs=>xs.length≤sizeLine∧∃(its:List Value) (n:Nat),aQ_ xs its∧h.get? a=some {cls:= .type "list",data:= .seq its.toArray n}
 | .tup xs=>xs.length≤sizeLine∧∃its:List Value,aQ_ xs its∧IsTup h a its.toArray
 | .dK kvs=>kvs.length≤sizeLine∧(a==sysModules)=false∧∃vs,KV kvs vs∧h.DictOf (hw_ P w) a vs
 | .dT kvs=>kvs.length≤sizeLine∧(a==sysModules)=false∧∃xs:List (List Key×Addr×Value),
   Paired (fun(p:List Key×V) (q:List Key×Addr×Value)=>p.1=q.1∧H q.2.1=some (.tup (p.1.map kV))∧bf_ p.2 q.2.2) kvs xs∧
   ∃o es ep,h.get? a=some o∧o.ExactDict∧o.data= .dict es ep∧es.toList=xs.map (entryOfKey (tupleKind (hw_ P w)))∧(xs.map (·.1)).Nodup
 | .set S n=>h.SetOf (intKind P w) a S n
 | .ins C dx fs=>H dx=some (.own a)∧fs.length≤1000∧dx≠a∧h.get? a=some (PySem.W.instObj C dx)∧
   ∃mA,h.Ns1 dx mA∧(∀f,mT_ (fs.lookup f) (mA f))∧PySem.Within mA (fs.map (·.1))
 | .own _=>∃o,h.get? a=some o
 | .xd fs=>∃mA,h.Ns1 a mA∧∀f,mT_ (fs.lookup f) (mA f)
 | .rng lo hi=>∃t u v,h.get? a=some {cls:= .type "range",data:= .fields #[.int lo t, .int hi u, .int 1 v]}
 | .frz o u=>h.get? a=some o∧ba_ H h a u
 | .tbl ps=>h.get? a=some {cls:= .none,data:= .fields ps}
 | .met f x=>h.get? a=some (PySem.W.methodObj (.ref f) (.ref x))
 | .ext φ=>φ h∧(∃o,h.get? a=some o)∧∀h1 h2:Heap,φ h1→(∀o,h1.get? a=some o→h2.get? a=some o)→φ h2
def HOk (H:Hp) (h:Heap):Prop:=∀a o,H a=some o→ba_ P w H h a o
end
section
variable {P:Program}{w:World}{H H':Hp}{h h':Heap}{a:Addr}{o:HO}
theorem ba_.lt (x:ba_ P w H h a o):a<h.objs.size:=by
 cases o with
 |lst xs=>obtain⟨_,_,_,_,e⟩:=x;exact Heap.lt_size e
 |tup xs=>obtain⟨_,_,_,p⟩:=x;exact p.lt
 |dK kvs=>obtain⟨_,_,_,_,o,_,_,e,_⟩:=x;exact Heap.lt_size e
 |dT kvs=>obtain⟨_,_,_,_,o,_,_,e,_⟩:=x;exact Heap.lt_size e
 |set S n=>obtain⟨o,_,_,_,e,_⟩:=x;exact Heap.lt_size e
 |ins C dx fs=>obtain⟨_,_,_,e,_⟩:=x;exact Heap.lt_size e
 |own y=>obtain⟨_,e⟩:=x;exact Heap.lt_size e
 |xd fs=>obtain⟨_,⟨_,_,_,e,_⟩,_⟩:=x;exact Heap.lt_size e
 |rng lo hi=>obtain⟨_,_,_,e⟩:=x;exact Heap.lt_size e
 |frz ob u=>obtain⟨e,_⟩:=x;exact Heap.lt_size e
 |tbl ps=>exact Heap.lt_size (show h.get? a=some _ from x)
 |met f y=>exact Heap.lt_size (show h.get? a=some _ from x)
 |ext φ=>obtain⟨_,⟨_,e⟩,_⟩:=x;exact Heap.lt_size e
theorem Paired.mapP {α β:Type}{F G:α→β→Prop}:∀{l₁:List α}{l₂:List β},Paired F l₁ l₂→(∀a b,F a b→G a b)→Paired G l₁ l₂
 |_,_, .nil,_=> .nil
 |_,_, .cons r t,f=> .cons (f _ _ r) (Paired.mapP t f)
theorem ba_.stay (x:ba_ P w H h a o) (k:∀b u,(b=a∨H b=some (.own a))→h.get? b=some u→h'.get? b=some u)
  (ho:∀b,H b=some (.own a)→H' b=some (.own a)) (ht:∀b xs,H b=some (.tup xs)→H' b=some (.tup xs)):ba_ P w H' h' a o:=by
 induction o with
 |lst xs=>obtain⟨z,its,n,r,e⟩:=x;exact⟨z,its,n,r,k _ _ (.inl rfl) e⟩
 |tup xs=>obtain⟨z,its,r,ob,e,c⟩:=x;exact⟨z,its,r,ob,k _ _ (.inl rfl) e,c⟩
 |dK kvs=>obtain⟨z,y,vs,r,ob,es,ep,e,c⟩:=x;exact⟨z,y,vs,r,ob,es,ep,k _ _ (.inl rfl) e,c⟩
 |dT kvs=>
  obtain⟨z,y,xs,r,ob,es,ep,e,c⟩:=x
  exact⟨z,y,xs,Paired.mapP r fun p q z=>⟨z.1,ht _ _ z.2.1,z.2.2⟩,ob,es,ep,k _ _ (.inl rfl) e,c⟩
 |set S n=>obtain⟨ob,es,ep,t,e,c⟩:=x;exact⟨ob,es,ep,t,k _ _ (.inl rfl) e,c⟩
 |ins C dx fs=>
  obtain⟨d,z,ne,e,mA,⟨od,es,ep,e2,c⟩,r⟩:=x
  exact⟨ho _ d,z,ne,k _ _ (.inl rfl) e,mA,⟨od,es,ep,k _ _ (.inr d) e2,c⟩,r⟩
 |own y=>obtain⟨ob,e⟩:=x;exact⟨ob,k _ _ (.inl rfl) e⟩
 |xd fs=>obtain⟨mA,⟨od,es,ep,e,c⟩,r⟩:=x;exact⟨mA,⟨od,es,ep,k _ _ (.inl rfl) e,c⟩,r⟩
 |rng lo hi=>obtain⟨t,u,v,e⟩:=x;exact⟨t,u,v,k _ _ (.inl rfl) e⟩
 |frz ob u ih=>obtain⟨e,q⟩:=x;exact⟨k _ _ (.inl rfl) e,ih q⟩
 |tbl ps=>
  have e:h.get? a=some {cls:= .none,data:= .fields ps}:=x
  show h'.get? a=some {cls:= .none,data:= .fields ps}
  exact k a _ (.inl rfl) e
 |met f y=>
  have e:h.get? a=some (PySem.W.methodObj (.ref f) (.ref y)):=x
  show h'.get? a=some (PySem.W.methodObj (.ref f) (.ref y))
  exact k a _ (.inl rfl) e
 |ext φ=>obtain⟨p,⟨o,e⟩,st⟩:=x;exact⟨st _ _ p fun o q=>k _ _ (.inl rfl) q,⟨o,k _ _ (.inl rfl) e⟩,st⟩
theorem HOk.lt (x:HOk P w H h) (e:H a=some o):a<h.objs.size:=(x a o e).lt
theorem HOk.fresh (x:HOk P w H h) (e:h.objs.size≤a):H a=none:=by
 cases q:H a with
 |none=>rfl
 |some u=>exact absurd (Nat.lt_of_lt_of_le (x.lt q) e) (Nat.lt_irrefl _)
theorem HOk.kept (x:HOk P w H h) (k:∀b u,h.get? b=some u→h'.get? b=some u):HOk P w H h':=fun a o e=>
 (x a o e).stay (fun b u _ q=>k b u q) (fun _ q=>q) fun _ _ q=>q
theorem HOk.laid (x:HOk P w H h) (k:∀b u,h.get? b=some u→h'.get? b=some u) (hp:h.objs.size≤a) (new:ba_ P w (upd H a o) h' a o):HOk P w (upd H a o) h':=fun b u e=>by
 have hn:=x.fresh hp
 by_cases hb:b=a
 ·subst hb;rw [ae_] at e;cases e;exact new
 ·rw [ar_ hb] at e
  exact(x b u e).stay (fun c v _ q=>k c v q) (fun c q=>by rw [ar_ (aS_ q hn)];exact q) fun c xs q=>by rw [ar_ (aS_ q hn)];exact q
end
def Rd (H:Hp) (a:Addr) (u:HO):Prop:=H a=some u∨∃o,H a=some (.frz o u)
theorem Rd.ok {P:Program}{w:World}{H:Hp}{h:Heap}{a:Addr}{u:HO} (r:Rd H a u) (x:HOk P w H h):ba_ P w H h a u:=by
 rcases r with r|⟨o,r⟩
 ·exact x a u r
 ·obtain⟨_,q⟩:=x a _ r
  exact q
def Mut:Option HO→Prop
 |some (.lst _)=>True
 |some (.dK _)=>True
 |some (.dT _)=>True
 |some (.set _ _)=>True
 |some (.ins _ _ _)=>True
 |some (.ext _)=>True
 |_=>False
section
variable {P:Program}{w:World}{H:Hp}{h h':Heap}{x e:Addr}{o':HO}
theorem HOk.write (ok:HOk P w H h) (mu:Mut (H x)) (he:e=x∨H e=some (.own x)) (k:∀b u,b≠e→h.get? b=some u→h'.get? b=some u) (heo:∃u,h'.get? e=some u)
  (new:ba_ P w (upd H x o') h' x o'):HOk P w (upd H x o') h':=fun b u q=>by
 have nown:∀c y,H c=some (.own y)→c≠x:=fun c y r z=>by subst z;rw [r] at mu;exact mu
 have ntup:∀c xs,H c=some (.tup xs)→c≠x:=fun c xs r z=>by subst z;rw [r] at mu;exact mu
 by_cases hb:b=x
 ·subst hb;rw [ae_] at q;cases q;exact new
 ·rw [ar_ hb] at q
  by_cases hbe:b=e
  ·have q':H b=some (.own x):=by
    rcases he with z|z
    ·exact absurd (hbe.trans z) hb
    ·rw [hbe];exact z
   rw [q] at q';cases q'
   obtain⟨v,hv⟩:=heo
   exact⟨v,by rw [hbe];exact hv⟩
  ·refine(ok b u q).stay (fun c v hc r=>k c v ?_ r) (fun c r=>by rw [ar_ (nown c b r)];exact r) fun c xs r=>by rw [ar_ (ntup c xs r)];exact r
   rcases hc with rfl|hc
   ·exact hbe
   ·rintro rfl
    rcases he with z|z
    ·exact nown c b hc z
    ·rw [hc] at z;cases z;exact hb rfl
end
structure Un (fs ex:List Addr) (H H':Hp) (h h':Heap):Prop where
 keep:∀b o,h.get? b=some o→H b=none→b∉fs→b∉ex→h'.get? b=some o
 slot:∀b o,h.get? b=some o→H b=none→b∈fs→b∉ex→∃sl,h'.get? b=some {o with slots:=sl}
 free:∀b o,h.get? b=some o→H b=none→b∉ex→H' b=none
 there:∀b o,h.get? b=some o→b∉ex→∃o',h'.get? b=some o'
 tups:∀b xs,H b=some (.tup xs)→H' b=some (.tup xs)
 frzs:∀b o u,H b=some (.frz o u)→H' b=some (.frz o u)
 tbls:∀b ps,H b=some (.tbl ps)→∃more,H' b=some (.tbl (ps++more))
section
variable {fs fs' ex ex':List Addr}{H H1 H2:Hp}{h h1 h2 h':Heap}{a x e:Addr}{o:HO}
theorem Un.any (u:Un fs ex H H1 h h1) {b:Addr}{ob:Obj} (q:h.get? b=some ob) (n:H b=none) (hx:b∉ex):∃sl,h1.get? b=some {ob with slots:=sl}:=by
 by_cases hb:b∈fs
 ·exact u.slot b ob q n hb hx
 ·exact⟨ob.slots,u.keep b ob q n hb hx⟩
theorem Un.kept (k:∀b u,h.get? b=some u→h'.get? b=some u):Un fs ex H H h h':=
 ⟨fun b ob q _ _ _=>k b ob q,fun b ob q _ _ _=>⟨ob.slots,k b ob q⟩,fun _ _ _ n _=>n,fun b ob q _=>⟨ob,k b ob q⟩,fun _ _ q=>q,fun _ _ _ q=>q,fun _ ps q=>⟨#[],by rw [q];simp⟩⟩
theorem Un.refl:Un fs ex H H h h:=Un.kept fun _ _ q=>q
theorem Un.laid (k:∀b u,h.get? b=some u→h'.get? b=some u) (hp:h.objs.size≤a) (hn:H a=none):Un fs ex H (upd H a o) h h' where
 keep:=fun b u q _ _ _=>k b u q
 slot:=fun b u q _ _ _=>⟨u.slots,k b u q⟩
 free:=fun b u q n _=>by rw [ar_ (Nat.ne_of_lt (Nat.lt_of_lt_of_le (Heap.lt_size q) hp))];exact n
 there:=fun b u q _=>⟨u,k b u q⟩
 tups:=fun b xs q=>by rw [ar_ (aS_ q hn)];exact q
 frzs:=fun b u xs q=>by rw [ar_ (aS_ q hn)];exact q
 tbls:=fun b ps q=>⟨#[],by rw [ar_ (aS_ q hn),q];simp⟩
theorem Un.write (mu:Mut (H x)) (he:e=x∨H e=some (.own x)) (k:∀b u,b≠e→h.get? b=some u→h'.get? b=some u) (heo:∃u,h'.get? e=some u):Un fs ex H (upd H x o) h h':=by
 have hx:∀b,H b=none→b≠x:=fun b n z=>by subst z;rw [n] at mu;exact mu
 have hb:∀b,H b=none→b≠e:=fun b n z=>by
  subst z
  rcases he with r|r
  ·exact hx b n r
  ·rw [n] at r;cases r
 have hm:∀b u,H b=some u→¬Mut (some u)→b≠x:=fun b u q nm z=>by subst z;rw [q] at mu;exact nm mu
 refine⟨fun b u q n _ _=>k b u (hb b n) q,fun b u q n _ _=>⟨u.slots,k b u (hb b n) q⟩,fun b u q n _=>by rw [ar_ (hx b n)];exact n,fun b u q _=> ?_,
  fun b xs q=>by rw [ar_ (hm b _ q fun z=>z)];exact q,fun b u xs q=>by rw [ar_ (hm b _ q fun z=>z)];exact q,fun b ps q=>⟨#[],by rw [ar_ (hm b _ q fun z=>z),q];simp⟩⟩
 by_cases hbe:b=e
 ·subst hbe;exact heo
 ·exact⟨u,k b u hbe q⟩
end
def trk (h:Heap) (H:Hp):List Addr:=(List.range h.objs.size).filter fun a=>(H a).isSome
def ld_ (h:Heap) (H:Hp):Heap:=PySem.W.hideAll h (trk h H)
theorem j9_ (h:Heap) (H:Hp):(ld_ h H).objs.size=h.objs.size:=PySem.W.hideAll_size _ _
theorem lc_ {h:Heap}{H:Hp}{b:Addr}{o:Obj} (e:h.get? b=some o) (n:H b=none):(ld_ h H).get? b=some o:=
 PySem.W.hideAll_get _ e fun hm=>by
  have q:(H b).isSome=true:=(List.mem_filter.mp hm).2
  rw [n] at q;simp at q
theorem mg_ {h:Heap}{H:Hp}{b:Addr}{o:Obj} (e:(ld_ h H).get? b=some o):h.get? b=some o∧H b=none:=by
 have e':h.get? b=some o:=PySem.W.of_hideAll (trk h H) e
 refine⟨e', ?_⟩
 cases q:H b with
 |none=>rfl
 |some x=>
  have hm:b∈trk h H:=List.mem_filter.mpr ⟨List.mem_range.mpr (Heap.lt_size e'),by simp [q]⟩
  have z:(ld_ h H).get? b=none:=PySem.W.hideAll_none (trk h H) hm
  rw [z] at e;cases e
def mI_ (g h:Heap) (L:Addr):List (Addr×Obj):=(List.range h.objs.size).filterMap fun a=>if a=L∨(g.get? a).isSome=true then none else(h.get? a).map fun o=>(a,o)
def bC_ (g h:Heap) (L d:Addr):List (Addr×Obj):=(mI_ g h L).filter fun p=>decide (p.1≠d)
end L2
namespace L2
open PySem PySem.Spec PyProof.Rows
structure Mod (K:PySem.W.Frag) (mg:Str→Option Value) (base:Heap):Prop where
 kin:K.In base
 glob:base.Ns mainGlobals mg
 blt:∃mb,base.Ns builtinsNs mb∧∀x:Str,x≠"__name__"→mb x=bootBuiltins x
 nolimit:base.NoLimit
structure Cx where
 prog:Program
 w:World
 K:PySem.W.Frag
 mg:Str→Option Value
 base:Heap
 A:Around
 N:List Str
 s₀:Shared
 H₀:Hp
 env:Env
 outer:List Env
 stack:List Env
 ex:List Addr
 fn:Str→Bool
 calm:Bool
 pn:List (Addr×Obj)
 xe:Value→Shared→Prop
def frs (l:List Env):List Addr:=l.filterMap (·.frame)
abbrev Cx.fs (X:Cx):List Addr:=frs X.outer
def Vis (sc:Scope) (x:Str):Prop:=sc.names.lookup x=some .local∨sc.names.lookup x=some .cell∨sc.names.lookup x=some .free
def Loc (sc:Scope) (x:Str):Prop:=sc.names.lookup x=some .local∨sc.names.lookup x=some .cell
def pJ_ (env:Env) (h:Heap) (m:Str→Option Value) (x:Str) (u:Value):Prop:=
 (env.kindOf x=some .local∧m x=some u)∨((env.kindOf x=some .cell∨env.kindOf x=some .free)∧∃c,env.cells.lookup x=some c∧h.IsCell c (some u))
structure Cx.Ok (X:Cx):Prop where
 mod:Mod X.K X.mg X.base
 kind:X.env.scope.kind= .function
 glob:X.env.globals=mainGlobals
 blt:X.env.builtins=builtinsNs
 above:X.s₀.heap.objs.size≤X.env.locals
 inj:∀x y c,X.env.cells.lookup x=some c→X.env.cells.lookup y=some c→x=y
 has:∀x,(X.env.kindOf x=some .cell∨X.env.kindOf x=some .free)→∃c,X.env.cells.lookup x=some c
 cab:∀x c,X.fn x=true→X.env.cells.lookup x=some c→X.s₀.heap.objs.size≤c
 hd:X.calm=true→X.A.handled=none
 frames:X.A.frames=some X.stack
 stk:X.stack=X.outer∨(X.stack=X.env::X.outer∧X.env.frame=some X.env.locals)
 exf:∀b∈X.ex,b≠X.env.locals∧∀x c,X.env.cells.lookup x=some c→c≠b
 bs:∀b o,X.base.get? b=some o→X.s₀.heap.get? b=some o∧X.H₀ b=none
 bsz:X.base.objs.size≤X.s₀.heap.objs.size
 noex:∀b o,X.base.get? b=some o→b∉X.ex
 exfs:∀b∈X.ex,b∉X.fs
 funs:X.s₀.heap.FunFrames X.base X.outer
 frf:∀b∈X.fs,X.H₀ b=none
structure Inv (X:Cx) (pins:List (Addr×Obj)) (σ:List (Option V)) (H:Hp) (s:Shared):Prop where
 ok:X.Ok
 os:s.os=X.s₀.os
 bare:AllBare s.gens
 base:Un X.fs X.ex X.H₀ H X.s₀.heap s.heap
 loc:∃m,s.heap.Ns X.env.locals m∧∀(i:Nat) (x:Str) (v:V),X.N[i]? =some x→σ[i]? =some (some v)→Vis X.env.scope x→∃u,bf_ v u∧pJ_ X.env s.heap m x u
 cell:∀x c,X.env.cells.lookup x=some c→∃v,s.heap.IsCell c v
 free:H X.env.locals=none
 freeC:∀x c,X.env.cells.lookup x=some c→H c=none
 pin:∀p∈X.pn++pins,s.heap.get? p.1=some p.2∧H p.1=none∧p.1≠X.env.locals∧p.1∉X.fs∧∀v,p.2.data≠ .cell v
 hok:HOk X.prog X.w H s.heap
 len:σ.length=X.N.length
section
variable {X:Cx}{pins:List (Addr×Obj)}{σ:List (Option V)}{H H':Hp}{s:Shared}{h':Heap}
theorem Cx.Ok.nofr (ok:X.Ok) {b:Addr}{o:Obj} (e:X.base.get? b=some o):b∉X.fs:=fun hb=>by
 have:=(ok.funs.mem hb).1
 rw [e] at this;cases this
theorem Inv.bs (I:Inv X pins σ H s):∀b o,X.base.get? b=some o→s.heap.get? b=some o∧H b=none:=fun b o e=>
 ⟨I.base.keep b o (I.ok.bs b o e).1 (I.ok.bs b o e).2 (I.ok.nofr e) (I.ok.noex b o e),I.base.free b o (I.ok.bs b o e).1 (I.ok.bs b o e).2 (I.ok.noex b o e)⟩
theorem Inv.bk (I:Inv X pins σ H s):∀b o,X.base.get? b=some o→s.heap.get? b=some o:=fun b o e=>(I.bs b o e).1
theorem Inv.mod (I:Inv X pins σ H s):Mod X.K X.mg X.base:=I.ok.mod
theorem Inv.kIn (I:Inv X pins σ H s):X.K.In s.heap:=I.ok.mod.kin.keeps I.bk
theorem Inv.lt (I:Inv X pins σ H s):X.env.locals<s.heap.objs.size:=let ⟨_,hn,_⟩:=I.loc;hn.lt
theorem Inv.sz (I:Inv X pins σ H s):X.s₀.heap.objs.size≤s.heap.objs.size:=Nat.le_trans I.ok.above (Nat.le_of_lt I.lt)
theorem Inv.nofs (I:Inv X pins σ H s) {a:Addr} (h:s.heap.objs.size≤a):a∉X.fs:=fun hb=>by
 obtain⟨_,o,ho,_⟩:=I.ok.funs.mem hb
 exact absurd (Nat.lt_of_lt_of_le (Heap.lt_size ho) (Nat.le_trans I.sz h)) (Nat.lt_irrefl _)
theorem Inv.cne (I:Inv X pins σ H s):∀x c,X.env.cells.lookup x=some c→c≠X.env.locals:=fun x c e z=>by
 obtain⟨v,o,ho,hd⟩:=I.cell x c e
 obtain⟨m,⟨o',es,ep,ho',hd',_⟩,_⟩:=I.loc
 rw [z,ho'] at ho;cases ho;rw [hd'] at hd;cases hd
theorem Inv.funs (I:Inv X pins σ H s):s.heap.FunFrames X.base X.outer:=by
 have all:∀(l:List Env),(∀b∈frs l,b∈X.fs)→X.s₀.heap.FunFrames X.base l→s.heap.FunFrames X.base l:=by
  intro l
  induction l with
  |nil=>intro _ _;trivial
  |cons env r ih=>
   intro hs hl
   obtain⟨hk,⟨L,o,hf,hn,ho,hd⟩,hr⟩:=hl
   have hL:L∈X.fs:=hs L (by unfold frs;rw [List.filterMap_cons,hf];exact List.mem_cons_self)
   obtain⟨sl,e⟩:=I.base.slot L o ho (I.ok.frf L hL) hL fun z=>I.ok.exfs L z hL
   exact⟨hk,⟨L,_,hf,hn,e,hd⟩,ih (fun b hb=>hs b (by unfold frs;rw [List.filterMap_cons,hf];exact List.mem_cons_of_mem _ hb)) hr⟩
 exact all X.outer (fun _ hb=>hb) I.ok.funs
theorem Inv.stack (I:Inv X pins σ H s):s.heap.FunFrames X.base X.stack:=by
 rcases I.ok.stk with e|⟨e,hf⟩
 ·rw [e];exact I.funs
 ·rw [e]
  obtain⟨m,hn,_⟩:=I.loc
  refine .cons (by rw [I.ok.kind];decide) hf hn ?_ I.funs
  exact Heap.get?_none_of_le (Nat.le_trans I.ok.bsz I.ok.above)
theorem Inv.stkSub (I:Inv X pins σ H s):∀b∈frs X.stack,b∈X.env.locals::X.fs:=fun b hb=>by
 rcases I.ok.stk with e|⟨e,hf⟩
 ·rw [e] at hb;exact List.mem_cons_of_mem _ hb
 ·rw [e] at hb
  unfold frs at hb
  rw [List.filterMap_cons,hf] at hb
  exact hb
theorem Inv.stkFree (I:Inv X pins σ H s):∀b∈frs X.stack,H b=none:=fun b hb=>by
 rcases List.mem_cons.mp (I.stkSub b hb) with e|hb
 ·rw [e];exact I.free
 ·obtain⟨_,o,ho,_⟩:=I.ok.funs.mem hb
  exact I.base.free b o ho (I.ok.frf b hb) fun z=>I.ok.exfs b z hb
theorem Inv.step {g':Array GenState}{t':Nat}{d':Drawn}{ch:List Addr} (I:Inv X pins σ H s)
  (hch:∀b∈ch,(b∈X.ex∨X.s₀.heap.objs.size≤b)∧b≠X.env.locals∧(∀x c,X.env.cells.lookup x=some c→c≠b)∧∀p∈X.pn++pins,p.1≠b)
  (keep:∀b o,b≠X.env.locals→b∉X.fs→b∉ch→s.heap.get? b=some o→H b=none→h'.get? b=some o)
  (slot:∀b o,b≠X.env.locals→b∈X.fs→b∉ch→s.heap.get? b=some o→H b=none→∃sl,h'.get? b=some {o with slots:=sl}) (free:∀b o,b∉ch→s.heap.get? b=some o→H b=none→H' b=none)
  (there:∀b o,b∉ch→s.heap.get? b=some o→∃o',h'.get? b=some o')
  (tups:∀b xs,H b=some (.tup xs)→H' b=some (.tup xs)) (frzs:∀b o u,H b=some (.frz o u)→H' b=some (.frz o u)) (tbls:∀b ps,H b=some (.tbl ps)→∃more,H' b=some (.tbl (ps++more)))
  (ns:∀m,s.heap.Ns X.env.locals m→h'.Ns X.env.locals m) (hok:HOk X.prog X.w H' h') (hg:AllBare g'):
  Inv X pins σ H' {s with heap:=h',gens:=g',drawn:=d',toks:=t'}:=by
 have neL:∀b o,X.s₀.heap.get? b=some o→b≠X.env.locals:=fun b o e=>Nat.ne_of_lt (Nat.lt_of_lt_of_le (Heap.lt_size e) I.ok.above)
 have neC:∀b o,X.s₀.heap.get? b=some o→b∉X.ex→b∉ch:=fun b o e hx hb=>by
  rcases(hch b hb).1 with z|z
  ·exact hx z
  ·exact absurd (Nat.lt_of_lt_of_le (Heap.lt_size e) z) (Nat.lt_irrefl _)
 have cellK:∀x c,X.env.cells.lookup x=some c→∀v,s.heap.IsCell c v→h'.IsCell c v:=fun x c e v ⟨o,ho,hd⟩=>by
  have nch:c∉ch:=fun z=>(hch c z).2.2.1 x c e rfl
  by_cases hc:c∈X.fs
  ·obtain⟨sl,q⟩:=slot c o (I.cne x c e) hc nch ho (I.freeC x c e)
   exact⟨_,q,hd⟩
  ·exact⟨o,keep c o (I.cne x c e) hc nch ho (I.freeC x c e),hd⟩
 refine⟨I.ok,I.os,hg,⟨fun b o e n hb hx=> ?_,fun b o e n hb hx=> ?_,fun b o e n hx=> ?_,fun b o e hx=> ?_,fun b xs e=>tups b xs (I.base.tups b xs e),fun b o xs e=>frzs b o xs (I.base.frzs b o xs e),fun b ps e=> ?_⟩, ?_,fun x c e=> ?_, ?_,fun x c e=> ?_,fun p hp=> ?_,hok,I.len⟩
 ·exact keep b o (neL b o e) hb (neC b o e hx) (I.base.keep b o e n hb hx) (I.base.free b o e n hx)
 ·obtain⟨sl,e1⟩:=I.base.slot b o e n hb hx
  obtain⟨sl',e2⟩:=slot b _ (neL b o e) hb (neC b o e hx) e1 (I.base.free b o e n hx)
  exact⟨sl',e2⟩
 ·obtain⟨o',e1⟩:=I.base.there b o e hx
  exact free b o' (neC b o e hx) e1 (I.base.free b o e n hx)
 ·obtain⟨o',e1⟩:=I.base.there b o e hx
  exact there b o' (neC b o e hx) e1
 ·obtain⟨m1,e1⟩:=I.base.tbls b ps e
  obtain⟨m2,e2⟩:=tbls b _ e1
  exact⟨m1++m2,by rw [e2,Array.append_assoc]⟩
 ·obtain⟨m,hn,hl⟩:=I.loc
  refine⟨m,ns m hn,fun i x v e1 e2 e3=> ?_⟩
  obtain⟨u,r,l⟩:=hl i x v e1 e2 e3
  refine⟨u,r, ?_⟩
  rcases l with l|⟨k,c,e,z⟩
  ·exact .inl l
  ·exact .inr ⟨k,c,e,cellK x c e _ z⟩
 ·obtain⟨v,z⟩:=I.cell x c e
  exact⟨v,cellK x c e v z⟩
 ·obtain⟨m,⟨o,_,_,ho,_⟩,_⟩:=I.loc
  exact free _ o (fun z=>(hch _ z).2.1 rfl) ho I.free
 ·obtain⟨v,o,ho,hd⟩:=I.cell x c e
  exact free c o (fun z=>(hch c z).2.2.1 x c e rfl) ho (I.freeC x c e)
 ·obtain⟨e,n,ne,nf,d⟩:=I.pin p hp
  have nch:p.1∉ch:=fun z=>(hch p.1 z).2.2.2 p hp rfl
  exact⟨keep p.1 p.2 ne nf nch e n,free p.1 p.2 nch e n,ne,nf,d⟩
theorem Inv.un {t':Nat} (I:Inv X pins σ H s) (u:Un X.fs [] H H' s.heap h') (hok:HOk X.prog X.w H' h'):Inv X pins σ H' {s with heap:=h',toks:=t'}:=by
 obtain⟨m,⟨o,es,ep,ho,r⟩,_⟩:=id I.loc
 obtain⟨sl,hL⟩:=u.any ho I.free (by simp)
 exact I.step (g':=s.gens) (d':=s.drawn) (ch:=[]) (fun _ z=>nomatch z) (fun b o _ hb _ e n=>u.keep b o e n hb (by simp)) (fun b o _ hb _ e n=>u.slot b o e n hb (by simp)) (fun b o _ e n=>u.free b o e n (by simp)) (fun b o _ e=>u.there b o e (by simp)) u.tups u.frzs u.tbls (fun m' hm=>by
  obtain⟨o',es',ep',ho',r'⟩:=hm
  rw [ho] at ho';cases ho'
  exact⟨_,es',ep',hL,r'⟩) hok I.bare
theorem Inv.call {g':Array GenState}{t':Nat}{d':Drawn}{ch:List Addr} (I:Inv X pins σ H s) (u:Un (frs X.stack) ch H H' s.heap h') (hok:HOk X.prog X.w H' h') (hg:AllBare g')
  (hch:∀b∈ch,(b∈X.ex∨X.s₀.heap.objs.size≤b)∧b≠X.env.locals∧(∀x c,X.env.cells.lookup x=some c→c≠b)∧∀p∈X.pn++pins,p.1≠b):
  Inv X pins σ H' {s with heap:=h',gens:=g',drawn:=d',toks:=t'}:=by
 obtain⟨m,⟨o,es,ep,ho,r⟩,_⟩:=id I.loc
 obtain⟨sl,hL⟩:=u.any ho I.free fun z=>(hch _ z).2.1 rfl
 exact I.step (ch:=ch) hch (fun b o hL hb hc e n=>u.keep b o e n (fun z=>(List.mem_cons.mp (I.stkSub b z)).elim hL hb) hc) (fun b o _ _ hc e n=>u.any e n hc) (fun b o hc e n=>u.free b o e n hc) (fun b o hc e=>u.there b o e hc) u.tups u.frzs u.tbls (fun m' hm=>by
  obtain⟨o',es',ep',ho',r'⟩:=hm
  rw [ho] at ho';cases ho'
  exact⟨_,es',ep',hL,r'⟩) hok hg
theorem Inv.turned {t':Nat}{it:Addr} (I:Inv X pins σ H s) (k:∀b o,b≠it→s.heap.get? b=some o→h'.get? b=some o) (hn:H it=none) (hL:it≠X.env.locals)
  (h1:it∈X.ex∨X.s₀.heap.objs.size≤it) (h2:∀x c,X.env.cells.lookup x=some c→c≠it) (h3:∀p∈X.pn++pins,p.1≠it):Inv X pins σ H {s with heap:=h',toks:=t'}:=by
 have nit:∀b u,H b=some u→b≠it:=fun b u e z=>by rw [z,hn] at e;cases e
 refine I.step (g':=s.gens) (d':=s.drawn) (ch:=[it]) (fun b hb=> ?_) (fun b o _ _ hc e _=>k b o (fun z=>hc (by simp [z])) e) (fun b o _ _ hc e _=>⟨o.slots,k b o (fun z=>hc (by simp [z])) e⟩) (fun _ _ _ _ n=>n)
  (fun b o hc e=>⟨o,k b o (fun z=>hc (by simp [z])) e⟩) (fun _ _ e=>e) (fun _ _ _ e=>e) (fun b ps e=>⟨#[],by rw [e];simp⟩) (fun m hm=> ?_) (fun b u e=> ?_) I.bare
 ·have e:b=it:=by simpa using hb
  subst e
  exact⟨h1,hL,h2,h3⟩
 ·obtain⟨o,es,ep,ho,r⟩:=hm
  exact⟨o,es,ep,k _ o (Ne.symm hL) ho,r⟩
 ·refine(I.hok b u e).stay (fun c v hc q=>k c v ?_ q) (fun _ q=>q) fun _ _ q=>q
  rcases hc with z|z
  ·rw [z];exact nit b u e
  ·exact nit c _ z
theorem Inv.tok (I:Inv X pins σ H s) (t:Nat):Inv X pins σ H {s with toks:=t}:=I.un (h':=s.heap) (t':=t) Un.refl I.hok
theorem Inv.kept {t':Nat} (I:Inv X pins σ H s) (k:∀b u,s.heap.get? b=some u→h'.get? b=some u):Inv X pins σ H {s with heap:=h',toks:=t'}:=I.un (Un.kept k) (I.hok.kept k)
theorem Inv.laid {a:Addr}{o:HO}{t':Nat} (I:Inv X pins σ H s) (k:∀b u,s.heap.get? b=some u→h'.get? b=some u) (hp:s.heap.objs.size≤a) (new:ba_ X.prog X.w (upd H a o) h' a o):
  Inv X pins σ (upd H a o) {s with heap:=h',toks:=t'}:=I.un (Un.laid k hp (I.hok.fresh hp)) (I.hok.laid k hp new)
theorem Inv.write {x e:Addr}{o:HO}{t':Nat} (I:Inv X pins σ H s) (mu:Mut (H x)) (he:e=x∨H e=some (.own x)) (k:∀b u,b≠e→s.heap.get? b=some u→h'.get? b=some u) (heo:∃u,h'.get? e=some u)
  (new:ba_ X.prog X.w (upd H x o) h' x o):Inv X pins σ (upd H x o) {s with heap:=h',toks:=t'}:=I.un (Un.write mu he k heo) (I.hok.write mu he k heo new)
theorem Inv.weak {σ':List (Option V)} (I:Inv X pins σ H s) (hl:σ'.length=σ.length) (w:∀(i:Nat) v,σ'[i]? =some (some v)→σ[i]? =some (some v)):Inv X pins σ' H s:=
 ⟨I.ok,I.os,I.bare,I.base,let ⟨m,hn,hl'⟩:=I.loc;⟨m,hn,fun i x v e1 e2 e3=>hl' i x v e1 (w i v e2) e3⟩,I.cell,I.free,I.freeC,I.pin,I.hok,hl.trans I.len⟩
theorem Inv.pins_of {pins':List (Addr×Obj)} (I:Inv X pins σ H s) (h:∀p∈pins',s.heap.get? p.1=some p.2∧H p.1=none∧p.1≠X.env.locals∧p.1∉X.fs∧∀v,p.2.data≠ .cell v):Inv X pins' σ H s:=
 ⟨I.ok,I.os,I.bare,I.base,I.loc,I.cell,I.free,I.freeC,fun p hp=>(List.mem_append.mp hp).elim (fun z=>I.pin p (List.mem_append_left _ z)) (h p),I.hok,I.len⟩
theorem id_ {N:List Str} (hN:N.Nodup) {i j:Nat}{x:Str} (a:N[i]? =some x) (b:N[j]? =some x):i=j:=by
 obtain⟨h1,e1⟩:=List.getElem?_eq_some_iff.mp a
 obtain⟨h2,e2⟩:=List.getElem?_eq_some_iff.mp b
 exact(List.getElem_inj hN).mp (e1.trans e2.symm)
theorem ja_ {M:Model}{A:Around}{E:Value→Shared→Prop}{i:Nat}{x:Str}{v:V}{u:Value}{Q:Unit→Shared→Prop} (I:Inv X pins σ H s) (hN:X.N.Nodup) (hi:X.N[i]? =some x) (hx:Loc X.env.scope x) (r:bf_ v u)
  (h:∀s',Inv X pins (σ.set i (some v)) H s'→(∃a,Heap.SameBut a s.heap s'.heap∧(a=X.env.locals∨X.env.cells.lookup x=some a))→Q () s') (hf:X.fn x=true∨X.env.scope.names.lookup x=some .local:=by first|exact .inl rfl|exact .inr rfl|assumption):wpAny M A (storeName X.env x u) Q E s:=by
 obtain⟨m,hn,hl⟩:=id I.loc
 have hcls:(X.env.scope.kind== .class||(X.env.scope.kind== .module&&X.env.locals !=X.env.globals))=false:=by rw [I.ok.kind];rfl
 have hiσ:i<σ.length:=by rw [I.len];exact(List.getElem?_eq_some_iff.mp hi).1
 have cne:=I.cne
 have tracked:∀{a:Addr}{h':Heap},(∃o,s.heap.get? a=some o∧H a=none)→Heap.SameBut a s.heap h'→HOk X.prog X.w H h':=fun{a h'} ha hs b ob e=>by
  obtain⟨_,_,hfree⟩:=ha
  refine(I.hok b ob e).stay (fun c w' hc q=>(hs.2 c ?_).trans q) (fun _ q=>q) fun _ _ q=>q
  rintro rfl
  rcases hc with rfl|hc
  ·rw [hfree] at e;cases e
  ·rw [hfree] at hc;cases hc
 rcases hx with hk|hk
 ·refine wpAny_storeName_local hk hn (fun h' hn' hs=> ?_) hcls
  obtain⟨oL,_,_,hoL,_⟩:=id hn
  refine h _ ⟨I.ok,I.os,I.bare,⟨fun b o e n hb hx=> ?_,fun b o e n hb hx=> ?_,I.base.free,fun b o e hx=> ?_,I.base.tups,I.base.frzs,I.base.tbls⟩,⟨_,hn',fun j y v' e1 e2 e3=> ?_⟩,fun y c e=> ?_,I.free,I.freeC,fun p hp=> ?_,tracked ⟨oL,hoL,I.free⟩ hs,by simpa using I.len⟩ ⟨_,hs, .inl rfl⟩
  ·exact(hs.2 b (Nat.ne_of_lt (Nat.lt_of_lt_of_le (Heap.lt_size e) I.ok.above))).trans (I.base.keep b o e n hb hx)
  ·obtain⟨sl,e1⟩:=I.base.slot b o e n hb hx
   exact⟨sl,(hs.2 b (Nat.ne_of_lt (Nat.lt_of_lt_of_le (Heap.lt_size e) I.ok.above))).trans e1⟩
  ·obtain⟨o',e1⟩:=I.base.there b o e hx
   exact⟨o',(hs.2 b (Nat.ne_of_lt (Nat.lt_of_lt_of_le (Heap.lt_size e) I.ok.above))).trans e1⟩
  ·by_cases hj:j=i
   ·subst hj
    rw [hi] at e1;cases e1
    rw [List.getElem?_set_self hiσ] at e2
    cases e2
    exact⟨u,r, .inl ⟨hk,by simp⟩⟩
   ·rw [List.getElem?_set_ne (Ne.symm hj)] at e2
    obtain⟨u',r',q⟩:=hl j y v' e1 e2 e3
    refine⟨u',r', ?_⟩
    rcases q with⟨k,e⟩|⟨k,c,e,z⟩
    ·refine .inl ⟨k, ?_⟩
     have:y≠x:=fun e=>hj (id_ hN e1 (e▸hi))
     simp [this,e]
    ·exact .inr ⟨k,c,e,z.sameBut hs (cne y c e)⟩
  ·obtain⟨w',z⟩:=I.cell y c e
   exact⟨w',z.sameBut hs (cne y c e)⟩
  ·obtain⟨e,n,ne,nf,d⟩:=I.pin p hp
   exact⟨(hs.2 p.1 ne).trans e,n,ne,nf,d⟩
 ·have hfn:X.fn x=true:=by
   rcases hf with z|z
   ·exact z
   ·rw [z] at hk;cases hk
  obtain⟨c,hc⟩:=I.ok.has x (.inl hk)
  obtain⟨w',z⟩:=I.cell x c hc
  refine wpAny_storeName_cell I.ok.kind hk hc z (fun h' hc' hs=> ?_)
  obtain⟨oc,hoc,hocd⟩:=id z
  refine h {s with heap:=h'} ⟨I.ok,I.os,I.bare,⟨fun b o e n hb hx=> ?_,fun b o e n hb hx=> ?_,I.base.free,fun b o e hx=> ?_,I.base.tups,I.base.frzs,I.base.tbls⟩,⟨m,hn.sameBut hs (Ne.symm (cne x c hc)),fun j y v' e1 e2 e3=> ?_⟩,fun y c' e=> ?_,I.free,I.freeC,fun p hp=> ?_,tracked ⟨oc,hoc,I.freeC x c hc⟩ hs,by simpa using I.len⟩ ⟨c,hs, .inr hc⟩
  ·exact(hs.2 b (Nat.ne_of_lt (Nat.lt_of_lt_of_le (Heap.lt_size e) (I.ok.cab x c hfn hc)))).trans (I.base.keep b o e n hb hx)
  ·obtain⟨sl,e1⟩:=I.base.slot b o e n hb hx
   exact⟨sl,(hs.2 b (Nat.ne_of_lt (Nat.lt_of_lt_of_le (Heap.lt_size e) (I.ok.cab x c hfn hc)))).trans e1⟩
  ·obtain⟨o',e1⟩:=I.base.there b o e hx
   exact⟨o',(hs.2 b (Nat.ne_of_lt (Nat.lt_of_lt_of_le (Heap.lt_size e) (I.ok.cab x c hfn hc)))).trans e1⟩
  ·by_cases hj:j=i
   ·subst hj
    rw [hi] at e1;cases e1
    rw [List.getElem?_set_self hiσ] at e2
    cases e2
    exact⟨u,r, .inr ⟨.inl hk,c,hc,hc'⟩⟩
   ·rw [List.getElem?_set_ne (Ne.symm hj)] at e2
    obtain⟨u',r',q⟩:=hl j y v' e1 e2 e3
    refine⟨u',r', ?_⟩
    rcases q with q|⟨k,c',e,z'⟩
    ·exact .inl q
    ·refine .inr ⟨k,c',e,z'.sameBut hs ?_⟩
     rintro rfl
     exact hj (id_ hN e1 (I.ok.inj _ _ _ e hc▸hi))
  ·by_cases hcc:c'=c
   ·subst hcc;exact⟨_,hc'⟩
   ·obtain⟨w2,z2⟩:=I.cell y c' e
    exact⟨w2,z2.sameBut hs hcc⟩
  ·obtain⟨e,n,ne,nf,d⟩:=I.pin p hp
   refine⟨(hs.2 p.1 ?_).trans e,n,ne,nf,d⟩
   intro q
   rw [q,hoc] at e
   have q':oc=p.2:=Option.some.inj e
   exact d w' (by rw [←q'];exact hocd)
theorem d2_ {M:Model}{A:Around}{E:Value→Shared→Prop}{i:Nat}{x:Str}{v:V}{u:Value}{Q:Unit→Shared→Prop} (I:Inv X pins σ H s) (hN:X.N.Nodup) (hi:X.N[i]? =some x) (hx:Loc X.env.scope x) (r:bf_ v u)
  (h:∀s',Inv X pins (σ.set i (some v)) H s'→Q () s') (hf:X.fn x=true∨X.env.scope.names.lookup x=some .local:=by first|exact .inl rfl|exact .inr rfl|assumption):wpAny M A (storeName X.env x u) Q E s:=
 ja_ I hN hi hx r (fun s' I' _=>h s' I') hf
theorem Inv.call' {s':Shared}{ch:List Addr} (I:Inv X pins σ H s) (ho:s'.os=s.os) (u:Un (frs X.stack) ch H H' s.heap s'.heap) (hok:HOk X.prog X.w H' s'.heap) (hg:AllBare s'.gens)
  (hch:∀b∈ch,(b∈X.ex∨X.s₀.heap.objs.size≤b)∧b≠X.env.locals∧(∀x c,X.env.cells.lookup x=some c→c≠b)∧∀p∈X.pn++pins,p.1≠b):Inv X pins σ H' s':=by
 obtain⟨h',g',d',t',o'⟩:=s'
 have e:o'=s.os:=ho
 subst e
 exact I.call (g':=g') (t':=t') (d':=d') u hok hg hch
end
abbrev XK:=Value→Option Addr→Hp→Prop
abbrev St:=List (Option V)
abbrev VK:=V→Hp→Prop
abbrev TE:=St→Hp→VK→Prop
abbrev TT:=St→Hp→(Bool→Hp→Prop)→Prop
abbrev TA:=St→Hp→(List V→Hp→Prop)→Prop
structure Ends where
 nx:St→Hp→Prop
 rt:VK
 bk:St→Hp→Prop:=fun _ _=>False
 ct:St→Hp→Prop:=fun _ _=>False
abbrev TS:=Ends→St→Hp→Prop
def EP (X:Cx) (pins:List (Addr×Obj)) (σ:St) (Q:VK) (u:Value) (s':Shared):Prop:=∃v H',Inv X pins σ H' s'∧bf_ v u∧Q v H'
def TP (X:Cx) (pins:List (Addr×Obj)) (σ:St) (Q:Bool→Hp→Prop) (b:Bool) (s':Shared):Prop:=∃H',Inv X pins σ H' s'∧Q b H'
def AP (X:Cx) (pins:List (Addr×Obj)) (σ:St) (Q:List V→Hp→Prop) (us:List Value) (s':Shared):Prop:=∃vs H',Inv X pins σ H' s'∧aQ_ vs us∧Q vs H'
def SP (X:Cx) (pins:List (Addr×Obj)) (D:Ends) (f:Flow) (s':Shared):Prop:=
 match f with
 | .next=>∃σ' H',Inv X pins σ' H' s'∧D.nx σ' H'
 | .brk=>∃σ' H',Inv X pins σ' H' s'∧D.bk σ' H'
 | .cont=>∃σ' H',Inv X pins σ' H' s'∧D.ct σ' H'
 | .ret u=>∃v σ' H',Inv X pins σ' H' s'∧bf_ v u∧D.rt v H'
def PE (X:Cx) (e:Expr) (t:TE):Prop:=
 ∀(pins:List (Addr×Obj)) (s:Shared) (σ:St) (H:Hp) (Q:VK),Inv X pins σ H s→t σ H Q→wpAny (model X.prog X.w) X.A (eval e X.env) (EP X pins σ Q) X.xe s
def PT (X:Cx) (e:Expr) (t:TT):Prop:=
 ∀(pins:List (Addr×Obj)) (s:Shared) (σ:St) (H:Hp) (Q:Bool→Hp→Prop),Inv X pins σ H s→t σ H Q→wpAny (model X.prog X.w) X.A (isTrue e X.env (eval e X.env)) (TP X pins σ Q) X.xe s
def PW (X:Cx) (e:Expr) (t:TT):Prop:=
 ∀(whole:Sem Value) (pins:List (Addr×Obj)) (s:Shared) (σ:St) (H:Hp) (Q:Bool→Hp→Prop),Inv X pins σ H s→t σ H Q→wpAny (model X.prog X.w) X.A (isTrue e X.env whole) (TP X pins σ Q) X.xe s
theorem PW.pt {X:Cx}{e:Expr}{t:TT} (h:PW X e t):PT X e t:=h _
def PA (X:Cx) (es:List Expr) (t:TA):Prop:=
 ∀(pos:Pos) (pins:List (Addr×Obj)) (s:Shared) (σ:St) (H:Hp) (Q:List V→Hp→Prop),Inv X pins σ H s→t σ H Q→wpAny (model X.prog X.w) X.A (spliced (backTo pos (starEach es X.env))) (AP X pins σ Q) X.xe s
def PS (X:Cx) (st:Stmt) (t:TS):Prop:=
 ∀(pins:List (Addr×Obj)) (s:Shared) (σ:St) (H:Hp) (D:Ends),Inv X pins σ H s→t D σ H→wpAny (model X.prog X.w) X.A (exec st X.env) (SP X pins D) X.xe s
def PSs (X:Cx) (st:List Stmt) (t:TS):Prop:=
 ∀(pins:List (Addr×Obj)) (s:Shared) (σ:St) (H:Hp) (D:Ends),Inv X pins σ H s→t D σ H→wpAny (model X.prog X.w) X.A (execs st X.env) (SP X pins D) X.xe s
theorem thn {α:Type}{t:Sem α}{Q Q':α→Shared→Prop}{M:Model}{A:Around}{E:Value→Shared→Prop}{s:Shared} (h:wpAny M A t Q E s) (hQ:∀a s,Q a s→Q' a s):wpAny M A t Q' E s:=wpAny_mono h hQ fun _ _ x=>x
end L2
namespace L2
open PySem PySem.Spec PyProof.Rows
section
variable {X:Cx}
def pa_ (i:Nat):TE:=fun σ H Q=>∃v,σ[i]? =some (some v)∧Q v H
def tC (v:V):TE:=fun _ H Q=>Q v H
theorem nn_ {i:Nat}{x:Str}{pos:Pos} (hN:X.N[i]? =some x) (hv:Vis X.env.scope x) (hd:(x==("__debug__":Str))=false:=by decide) (hcd:(x==("__classdict__":Str))=false:=by decide):PE X (.Name x pos) (pa_ i):=by
 intro pins s σ H Q I h
 obtain⟨v,e,h⟩:=h
 obtain⟨m,hn,hl⟩:=I.loc
 obtain⟨u,r,l⟩:=hl i x v hN e hv
 have fin:EP X pins σ Q u s:=⟨v,H,I,r,h⟩
 rcases l with⟨hk,hm⟩|⟨hk,c,hc,hcell⟩
 ·exact wpAny_Name (wpAny_loadName_local I.ok.kind hk hn hm fin) hd
 ·rcases hk with hk|hk
  ·exact wpAny_Name (wpAny_loadName_cell I.ok.kind hk hc hcell fin) hd
  ·exact wpAny_Name (wpAny_loadName_free I.ok.kind hk hc hcell fin hcd) hd
theorem ad_ {i j pos}:PE X (.Constant (.int i) j pos) (tC (.int i)):=fun _ _ _ H _ I h=>wpAny_Constant_int ⟨.int i,H,I.tok _,⟨_,rfl⟩,h⟩
theorem eo_ {b j pos}:PE X (.Constant (.bool b) j pos) (tC (.bl b)):=fun _ _ _ H _ I h=>Constant_bool ⟨.bl b,H,I,rfl,h⟩
theorem h6_ {j pos}:PE X (.Constant .none j pos) (tC .non):=fun _ _ _ H _ I h=>Constant_none ⟨.non,H,I,rfl,h⟩
def Gl (X:Cx) (x:Str):Prop:=X.env.kindOf x=some .globalImplicit
theorem jV_ {E:Value→Shared→Prop}{pins:List (Addr×Obj)}{s:Shared}{σ:St}{H:Hp}{x:Str}{u:Value}{pos:Pos}{Q:Value→Shared→Prop} (I:Inv X pins σ H s) (hg:Gl X x) (hm:X.mg x=some u) (h:Q u s)
  (hd:(x==("__debug__":Str))=false:=by decide):wpAny (model X.prog X.w) X.A (eval (.Name x pos) X.env) Q E s:=
 Calls.Name_function_global I.ok.kind hg (Calls.loadGlobal_global (by rw [I.ok.glob];exact I.mod.glob.keeps I.bk) hm h) hd
theorem ds_ {E:Value→Shared→Prop}{pins:List (Addr×Obj)}{s:Shared}{σ:St}{H:Hp}{x:Str}{u:Value}{pos:Pos}{Q:Value→Shared→Prop} (I:Inv X pins σ H s) (hg:Gl X x) (hm:X.mg x=none) (hv:bootBuiltins x=some u) (h:Q u s)
  (hn:x≠"__name__":=by decide) (hd:(x==("__debug__":Str))=false:=by decide):wpAny (model X.prog X.w) X.A (eval (.Name x pos) X.env) Q E s:=by
 obtain⟨mb,h1,h2⟩:=I.mod.blt
 exact Calls.Name_function_global I.ok.kind hg (Calls.loadGlobal_builtin (by rw [I.ok.glob];exact I.mod.glob.keeps I.bk) hm (by rw [I.ok.blt];exact h1.keeps I.bk) ((h2 x hn).trans hv) h) hd
theorem l8_ {x:Str}{v:V}{u:Value}{pos:Pos} (hg:Gl X x) (hm:X.mg x=some u) (r:bf_ v u) (hd:(x==("__debug__":Str))=false:=by decide):PE X (.Name x pos) (tC v):=
 fun _ _ _ H _ I h=>jV_ I hg hm ⟨v,H,I,r,h⟩ hd
theorem fs_ {x:Str}{v:V}{u:Value}{pos:Pos} (hg:Gl X x) (hm:X.mg x=none) (hv:bootBuiltins x=some u) (r:bf_ v u) (hn:x≠"__name__":=by decide) (hd:(x==("__debug__":Str))=false:=by decide):PE X (.Name x pos) (tC v):=
 fun _ _ _ H _ I h=>ds_ I hg hm hv ⟨v,H,I,r,h⟩ hn hd
variable {a b:Expr}{ta tb:TE}{pos:Pos}
def PC (X:Cx) (op:CmpOp) (a b:Expr) (t:TE):Prop:=
 ∀(pins:List (Addr×Obj)) (s:Shared) (σ:St) (H:Hp) (Q:VK),Inv X pins σ H s→t σ H Q→
  wpAny (model X.prog X.w) X.A (eval a X.env) (fun v s₁=>wpAny (model X.prog X.w) X.A (eval b X.env) (fun u s₂=>wpAny (model X.prog X.w) X.A (compareOp op v u) (EP X pins σ Q) X.xe s₂) X.xe s₁) X.xe s
theorem k2_ (b:Expr) {op:CmpOp} (h:op≠ .In) (h2:op≠ .NotIn):behindInMarks op b=false:=by
 have e1:(op==CmpOp.In)=false:=by cases op<;>first|rfl|exact absurd rfl h
 have e2:(op==CmpOp.NotIn)=false:=by cases op<;>first|rfl|exact absurd rfl h2
 cases b<;>simp [behindInMarks,e1,e2]
def tB (t:TE):TT:=fun σ H Q=>t σ H fun x H1=>∃c,x= .bl c∧Q c H1
theorem nl_ {op:CmpOp}{t:TE} (h:PC X op a b t) (h1:behindInMarks op b=false:=by first|exact k2_ _ (by decide) (by decide)|rfl):PT X (.Compare a [op] [b] pos) (tB t):=by
 intro pins s σ H Q I hw
 refine wpAny_isTrue_Compare1 (thn (h pins s σ H _ I hw) fun v s1 h1=>thn h1 fun u s2 h2=>thn h2 fun c s3 ⟨x,H1,I1,r1,q1⟩=> ?_) h1
 obtain⟨d,rfl,q⟩:=q1
 cases r1
 exact wpAny_truthy_bool ⟨H1,I1,q⟩
theorem cZ_ {e:Expr}{t:TE} (h:PE X e t) (he:∀whole,isTrue e X.env whole=(do let v←whole;standAt e.pos;holding [v] (truthy v)):=by intro _;rfl):PT X e (tB t):=by
 intro pins s σ H Q I hw
 refine isTrue_plain (thn (h pins s σ H _ I hw) fun v s1 ⟨x,H1,I1,r1,q1⟩=> ?_) (he _)
 obtain⟨d,rfl,q⟩:=q1
 cases r1
 exact wpAny_truthy_bool ⟨H1,I1,q⟩
variable {tA tB':TT}{bC_:List Expr}
def pv_ (t u:TT):TT:=fun σ H Q=>t σ H fun c H1=>if c=true then u σ H1 Q else Q false H1
def tOr (t u:TT):TT:=fun σ H Q=>t σ H fun c H1=>if c=true then Q true H1 else u σ H1 Q
def po_ (t:TT):TT:=fun σ H Q=>t σ H fun c H1=>Q (!c) H1
theorem hm_ (ha:PT X a tA):PW X (.BoolOp .And [a] pos) tA:=by
 intro wh pins s σ H Q I h
 refine isTrue_and (thn (ha pins s σ H Q I h) fun c s1 e=> ?_)
 cases c with
 |true=>exact isTrue_and_nil e
 |false=>exact e
theorem dl_ (ha:PT X a tA):PW X (.BoolOp .Or [a] pos) tA:=by
 intro wh pins s σ H Q I h
 refine isTrue_or (thn (ha pins s σ H Q I h) fun c s1 e=> ?_)
 cases c with
 |false=>exact isTrue_or_nil e
 |true=>exact e
theorem jm_ (ha:PT X a tA) (hb:PW X (.BoolOp .And (b::bC_) pos) tB'):PW X (.BoolOp .And (a::b::bC_) pos) (pv_ tA tB'):=by
 intro wh pins s σ H Q I h
 refine isTrue_and (thn (ha pins s σ H _ I h) fun c s1 ⟨H1,I1,q1⟩=> ?_)
 cases c with
 |true=>exact hb wh pins s1 σ H1 Q I1 q1
 |false=>exact⟨H1,I1,q1⟩
theorem dY_ (ha:PT X a tA) (hb:PW X (.BoolOp .Or (b::bC_) pos) tB'):PW X (.BoolOp .Or (a::b::bC_) pos) (tOr tA tB'):=by
 intro wh pins s σ H Q I h
 refine isTrue_or (thn (ha pins s σ H _ I h) fun c s1 ⟨H1,I1,q1⟩=> ?_)
 cases c with
 |true=>exact⟨H1,I1,q1⟩
 |false=>exact hb wh pins s1 σ H1 Q I1 q1
theorem cC_ (ha:PT X a tA):PT X (.UnaryOp .Not a pos) (po_ tA):=by
 intro pins s σ H Q I h
 exact isTrue_not (ha pins s σ H (fun c H1=>Q (!c) H1) I h)
def ot_ (ta tb:TE):TE:=fun σ H Q=>ta σ H fun x H1=>∃c,x= .bl c∧if c=true then tb σ H1 Q else Q (.bl false) H1
def pm_ (ta tb:TE):TE:=fun σ H Q=>ta σ H fun x H1=>∃c,x= .bl c∧if c=true then Q (.bl true) H1 else tb σ H1 Q
def ol_ (ta:TE):TE:=fun σ H Q=>ta σ H fun x H1=>∃c,x= .bl c∧Q (.bl (!c)) H1
theorem dR_ {op}{t:TE} (h:PE X a t):PE X (.BoolOp op [a] pos) t:=fun pins s σ H Q I hw=>BoolOp_one (h pins s σ H Q I hw)
theorem ep_ (ha:PE X a ta) (hb:PE X (.BoolOp .And (b::bC_) pos) tb):PE X (.BoolOp .And (a::b::bC_) pos) (ot_ ta tb):=by
 intro pins s σ H Q I h
 refine BoolOp_and (thn (ha pins s σ H _ I h) fun v s1 ⟨x,H1,I1,r1,q1⟩=> ?_)
 obtain⟨c,rfl,q1⟩:=q1
 cases r1
 refine wpAny_truthy_bool ?_
 cases c with
 |true=>exact hb pins s1 σ H1 Q I1 q1
 |false=>exact⟨.bl false,H1,I1,rfl,q1⟩
theorem oW_ (ha:PE X a ta) (hb:PE X (.BoolOp .Or (b::bC_) pos) tb):PE X (.BoolOp .Or (a::b::bC_) pos) (pm_ ta tb):=by
 intro pins s σ H Q I h
 refine BoolOp_or (thn (ha pins s σ H _ I h) fun v s1 ⟨x,H1,I1,r1,q1⟩=> ?_)
 obtain⟨c,rfl,q1⟩:=q1
 cases r1
 refine wpAny_truthy_bool ?_
 cases c with
 |false=>exact hb pins s1 σ H1 Q I1 q1
 |true=>exact⟨.bl true,H1,I1,rfl,q1⟩
theorem ln_ (ha:PE X a ta):PE X (.UnaryOp .Not a pos) (ol_ ta):=by
 intro pins s σ H Q I h
 refine UnaryOp_ (thn (ha pins s σ H _ I h) fun v s1 ⟨x,H1,I1,r1,q1⟩=> ?_)
 obtain⟨c,rfl,q1⟩:=q1
 cases r1
 exact not_of (wpAny_truthy_bool ⟨.bl (!c),H1,I1,rfl,q1⟩)
def tIf (t:TT) (ta tb:TE):TE:=fun σ H Q=>t σ H fun c H1=>if c=true then ta σ H1 Q else tb σ H1 Q
theorem kU_ {c:Expr} (hc:PT X c tA) (ha:PE X a ta) (hb:PE X b tb):PE X (.IfExp c a b pos) (tIf tA ta tb):=by
 intro pins s σ H Q I h
 refine wpAny_IfExp (thn (hc pins s σ H _ I h) fun d s1 ⟨H1,I1,q1⟩=> ?_)
 cases d with
 |true=>exact ha pins s1 σ H1 Q I1 q1
 |false=>exact hb pins s1 σ H1 Q I1 q1
end
end L2
namespace L2
open PySem PySem.Spec PyProof.Rows
def SqL (K:PySem.W.Frag) (H:Hp) (a:Addr) (xs:List V):Prop:=
 Rd H a (.lst xs)∨
  ∃(o:Obj) (its:Array Value) (n:Nat),K.lookup a=some o∧o.cls= .type "list"∧o.dict=none∧o.data= .seq its n∧its.size≤sizeLine∧aQ_ xs its.toList
def SqT (K:PySem.W.Frag) (H:Hp) (a:Addr) (xs:List V):Prop:=
 Rd H a (.tup xs)∨
  ∃(o:Obj) (its:Array Value) (n:Nat),K.lookup a=some o∧o.cls= .type "tuple"∧o.data= .seq its n∧its.size≤sizeLine∧aQ_ xs its.toList
def pH_:Value→Option V
 | .none=>some .non
 | .bool b=>some (.bl b)
 | .int i _=>some (.int i)
 | .str x _=>some (.str x)
 | .bytes b _=>some (.byt b)
 | .float b _=>some (.flt b)
 | .ref a=>some (.ref a)
 | .type n=>some (.ty n)
 |_=>none
theorem bf_.abs {x:V}{u:Value} (r:bf_ x u):pH_ u=some x:=by
 cases x with
 |non=>cases r;rfl
 |bl _=>cases r;rfl
 |int _=>obtain⟨t,rfl⟩:=r;rfl
 |str _=>obtain⟨t,rfl⟩:=r;rfl
 |byt _=>obtain⟨t,rfl⟩:=r;rfl
 |flt _=>obtain⟨t,rfl⟩:=r;rfl
 |ref _=>cases r;rfl
 |ty _=>cases r;rfl
theorem bf_.inj {x y:V}{u:Value} (r:bf_ x u) (q:bf_ y u):x=y:=Option.some.inj (r.abs.symm.trans q.abs)
theorem aQ_.inj:∀{xs ys:List V}{us:List Value},aQ_ xs us→aQ_ ys us→xs=ys
 |_,_,_, .nil, .nil=>rfl
 |_,_,_, .cons r t, .cons r' t'=>by rw [r.inj r',aQ_.inj t t']
section
variable {X:Cx}{pins:List (Addr×Obj)}{σ:St}{H:Hp}{s:Shared}{a:Addr}{xs ys:List V}
theorem SqL.of {K:PySem.W.Frag} (h:H a=some (.lst xs)):SqL K H a xs:= .inl (.inl h)
theorem SqT.of {K:PySem.W.Frag} (h:H a=some (.tup xs)):SqT K H a xs:= .inl (.inl h)
theorem Inv.list (I:Inv X pins σ H s) (h:SqL X.K H a xs):∃its:List Value,aQ_ xs its∧PlainL s.heap a its.toArray∧xs.length≤sizeLine:=by
 rcases h with h|⟨o,its,n,hk,hc,hd,hs,hz,r⟩
 ·obtain⟨z,its,n,r,e⟩:=h.ok I.hok
  exact⟨its,r,⟨_,n,e,rfl,rfl,rfl⟩,z⟩
 ·refine⟨its.toList,r,⟨o,n,I.kIn a o hk,hc,hd,by simpa using hs⟩, ?_⟩
  have e:=r.length
  simp only [Array.length_toList] at e
  omega
theorem Inv.tuple (I:Inv X pins σ H s) (h:SqT X.K H a xs):∃its:List Value,aQ_ xs its∧IsTup s.heap a its.toArray∧xs.length≤sizeLine:=by
 rcases h with h|⟨o,its,n,hk,hc,hs,hz,r⟩
 ·obtain⟨z,its,r,p⟩:=h.ok I.hok
  exact⟨its,r,p,z⟩
 ·refine⟨its.toList,r,⟨o,I.kIn a o hk,hc,n,by simpa using hs⟩, ?_⟩
  have e:=r.length
  simp only [Array.length_toList] at e
  omega
theorem Inv.list_inj (I:Inv X pins σ H s) (h:SqL X.K H a xs) (h':SqL X.K H a ys):xs=ys:=by
 obtain⟨its,r,⟨o,n,e,_,_,d⟩,_⟩:=I.list h
 obtain⟨its',r',⟨o',n',e',_,_,d'⟩,_⟩:=I.list h'
 rw [e] at e';cases e'
 rw [d] at d'
 injection d' with d1 _
 have:its=its':=by simpa using congrArg Array.toList d1
 subst this
 exact r.inj r'
theorem Inv.tuple_inj (I:Inv X pins σ H s) (h:SqT X.K H a xs) (h':SqT X.K H a ys):xs=ys:=by
 obtain⟨its,r,⟨o,e,_,n,d⟩,_⟩:=I.tuple h
 obtain⟨its',r',⟨o',e',_,n',d'⟩,_⟩:=I.tuple h'
 rw [e] at e';cases e'
 rw [d] at d'
 injection d' with d1 _
 have:its=its':=by simpa using congrArg Array.toList d1
 subst this
 exact r.inj r'
end
abbrev Cx.wish (X:Cx) (E:Value→Shared→Prop):Cx:={X with xe:=E}
abbrev Cx.nox (X:Cx):Cx:=X.wish fun _ _=>False
theorem Cx.Ok.wish {X:Cx} (ok:X.Ok) (E:Value→Shared→Prop):(X.wish E).Ok:=
 ⟨ok.mod,ok.kind,ok.glob,ok.blt,ok.above,ok.inj,ok.has,ok.cab,ok.hd,ok.frames,ok.stk,ok.exf,ok.bs,ok.bsz,ok.noex,ok.exfs,ok.funs,ok.frf⟩
theorem Cx.Ok.unwish {X:Cx}{E:Value→Shared→Prop} (ok:(X.wish E).Ok):X.Ok:=
 ⟨ok.mod,ok.kind,ok.glob,ok.blt,ok.above,ok.inj,ok.has,ok.cab,ok.hd,ok.frames,ok.stk,ok.exf,ok.bs,ok.bsz,ok.noex,ok.exfs,ok.funs,ok.frf⟩
section
variable {X:Cx}{pins:List (Addr×Obj)}{σ:St}{H:Hp}{s:Shared}{E:Value→Shared→Prop}
theorem Inv.wish (I:Inv X pins σ H s) (E:Value→Shared→Prop):Inv (X.wish E) pins σ H s:=⟨I.ok.wish E,I.os,I.bare,I.base,I.loc,I.cell,I.free,I.freeC,I.pin,I.hok,I.len⟩
theorem Inv.unwish (I:Inv (X.wish E) pins σ H s):Inv X pins σ H s:=⟨I.ok.unwish,I.os,I.bare,I.base,I.loc,I.cell,I.free,I.freeC,I.pin,I.hok,I.len⟩
theorem SP.unwish {D:Ends}{f:Flow}{s':Shared} (h:SP (X.wish E) pins D f s'):SP X pins D f s':=by
 cases f with
 |next=>obtain⟨σ',H',I,q⟩:=h;exact⟨σ',H',I.unwish,q⟩
 |brk=>obtain⟨σ',H',I,q⟩:=h;exact⟨σ',H',I.unwish,q⟩
 |cont=>obtain⟨σ',H',I,q⟩:=h;exact⟨σ',H',I.unwish,q⟩
 |ret u=>obtain⟨v,σ',H',I,r,q⟩:=h;exact⟨v,σ',H',I.unwish,r,q⟩
theorem PSs.nox {st:List Stmt}{t:TS} (h:PSs X.nox st t):PSs X st t:=fun pins s σ H D I hw=>
 wpAny_mono (h pins s σ H D (I.wish _) hw) (fun _ _ q=>q.unwish) fun _ _ z=>False.elim z
end
section
variable {X:Cx}{st:Stmt}{bC_:List Stmt}{t u:TS}{e:Expr}{te:TE}{pos:Pos}
def on_:TS:=fun D σ H=>D.nx σ H
def pk_ (t u:TS):TS:=fun D σ H=>t {D with nx:=u D} σ H
theorem aE_:PSs X [] on_:=fun _ _ σ H _ I h=>wpAny_execs_nil ⟨σ,H,I,h⟩
theorem ac_ (h1:PS X st t) (h2:PSs X bC_ u):PSs X (st::bC_) (pk_ t u):=by
 intro pins s σ H D I h
 refine wpAny_execs_cons (thn (h1 pins s σ H {D with nx:=u D} I h) fun f s1 q=> ?_)
 cases f with
 |next=>
  obtain⟨σ',H',I',q⟩:=q
  exact h2 pins s1 σ' H' D I' q
 |ret v=>exact q
 |brk=>exact q
 |cont=>exact q
theorem af_ (h1:PS X st t):PSs X [st] t:=by
 intro pins s σ H D I h
 refine wpAny_execs_cons (thn (h1 pins s σ H D I h) fun f s1 q=> ?_)
 cases f with
 |next=>exact wpAny_execs_nil q
 |ret v=>exact q
 |brk=>exact q
 |cont=>exact q
theorem Inv.quiet {pins:List (Addr×Obj)}{σ:St}{H:Hp}{s:Shared} (I:Inv X pins σ H s):interactive X.env=false:=by simp [interactive,I.ok.kind]
def op_ (te:TE):TS:=fun D σ H=>te σ H fun _ H1=>D.nx σ H1
theorem aM_ (he:PE X e te) (hs:swapsWith e none pos.line X.env=pure false:=by rfl):PS X (.Expr e pos) (op_ te):=by
 intro pins s σ H D I h
 exact wpAny_Expr_any (thn (he pins s σ H _ I h) fun v s1 ⟨x,H1,I1,r1,q1⟩=>⟨σ,H1,I1,q1⟩) I.quiet hs
def pl_ (te:TE):TS:=fun D σ H=>te σ H D.rt
theorem au_ (he:PE X e te):PS X (.Return (some e) pos) (pl_ te):=by
 intro pins s σ H D I h
 exact wpAny_Return_some (thn (he pins s σ H _ I h) fun v s1 ⟨x,H1,I1,r1,q1⟩=>⟨x,σ,H1,I1,r1,q1⟩)
def pr_ (c:TT) (t u:TS):TS:=fun D σ H=>c σ H fun b H1=>if b=true then t D σ H1 else u D σ H1
theorem a8_ {c:Expr}{a b:List Stmt}{tc:TT} (hc:PT X c tc) (ha:PSs X a t) (hb:PSs X b u):PS X (.If c a b pos) (pr_ tc t u):=by
 intro pins s σ H D I h
 refine wpAny_If (thn (hc pins s σ H _ I h) fun d s1 ⟨H1,I1,q1⟩=> ?_)
 cases d with
 |true=>exact ha pins s1 σ H1 D I1 q1
 |false=>exact hb pins s1 σ H1 D I1 q1
def m4_:TS:=fun _ _ _=>False
theorem h5_:PS X st m4_:=fun _ _ _ _ _ _ h=>h.elim
end
abbrev TG:=V→St→Hp→(St→Hp→Prop)→Prop
abbrev TGs:=List V→St→Hp→(St→Hp→Prop)→Prop
def PG (X:Cx) (target:Expr) (t:TG):Prop:=
 ∀(pins:List (Addr×Obj)) (s:Shared) (σ:St) (H:Hp) (v:V) (u:Value) (Q:St→Hp→Prop),Inv X pins σ H s→bf_ v u→t v σ H Q→
  wpAny (model X.prog X.w) X.A (assign target X.env u) (fun _ s'=>∃σ' H',Inv X pins σ' H' s'∧Q σ' H') X.xe s
def PGs (X:Cx) (ts:List Expr) (t:TGs):Prop:=
 ∀(pins:List (Addr×Obj)) (s:Shared) (σ:St) (H:Hp) (vs:List V) (us:List Value) (Q:St→Hp→Prop),Inv X pins σ H s→aQ_ vs us→t vs σ H Q→
  wpAny (model X.prog X.w) X.A (assignInOrder ((assignEach ts X.env).map (·.2)) us) (fun _ s'=>∃σ' H',Inv X pins σ' H' s'∧Q σ' H') X.xe s
abbrev n0_:=V→V→V→Hp→(Hp→Prop)→Prop
def o8_ (X:Cx) (t:n0_):Prop:=
 ∀(pins:List (Addr×Obj)) (s:Shared) (σ:St) (H:Hp) (o i v:V) (ov iv u:Value) (Q:Hp→Prop),Inv X pins σ H s→bf_ o ov→bf_ i iv→bf_ v u→t o i v H Q→
  wpAny (model X.prog X.w) X.A (setItem ov iv u) (fun _ s'=>∃H',Inv X pins σ H' s'∧Q H') X.xe s
abbrev TIp:=V→V→Hp→VK→Prop
def PIp (X:Cx) (op:Operator) (t:TIp):Prop:=
 ∀(pins:List (Addr×Obj)) (s:Shared) (σ:St) (H:Hp) (x y:V) (v u:Value) (Q:VK),Inv X pins σ H s→bf_ x v→bf_ y u→t x y H Q→
  wpAny (model X.prog X.w) X.A (inplaceOp op v u) (EP X pins σ Q) X.xe s
section
variable {X:Cx}{pos:Pos}
def dw_ (i:Nat):TG:=fun v σ H Q=>Q (σ.set i (some v)) H
theorem am_ {i:Nat}{x:Str} (hN:X.N.Nodup) (hi:X.N[i]? =some x) (hx:Loc X.env.scope x) (hf:X.fn x=true∨X.env.scope.names.lookup x=some .local:=by first|exact .inl rfl|exact .inr rfl|assumption):PG X (.Name x pos) (dw_ i):=by
 intro pins s σ H v u Q I r h
 exact wpAny_assign_Name (d2_ I hN hi hx r (fun s' I'=>⟨_,H,I',h⟩) hf)
def n7_:TGs:=fun vs σ H Q=>vs=[]∧Q σ H
def hG_ (t:TG) (u:TGs):TGs:=fun vs σ H Q=>∃v r,vs=v::r∧t v σ H fun σ' H'=>u r σ' H' Q
theorem bL_:PGs X [] n7_:=by
 intro pins s σ H vs us Q I r h
 obtain⟨e,h⟩:=h
 subst e
 cases r
 exact assignInOrder_nil ⟨σ,H,I,h⟩
theorem az_ {e:Expr}{es:List Expr}{t:TG}{u:TGs} (h1:PG X e t) (h2:PGs X es u)
  (hs:(assignEach (e::es) X.env).map (·.2)=assign e X.env::(assignEach es X.env).map (·.2):=by rfl):PGs X (e::es) (hG_ t u):=by
 intro pins s σ H vs us Q I r h
 obtain⟨v,vr,e1,h⟩:=h
 subst e1
 cases r with
 |cons r rr=>
  rw [hs]
  refine assignInOrder_cons (thn (h1 pins s σ H _ _ _ I r h) fun _ s1 ⟨σ1,H1,I1,q1⟩=> ?_)
  exact h2 pins s1 σ1 H1 _ _ Q I1 rr q1
def nQ_ (K:PySem.W.Frag) (n:Nat) (t:TGs):TG:=fun v σ H Q=>∃a xs,v= .ref a∧SqT K H a xs∧xs.length=n∧t xs σ H Q
theorem cF_ {es:List Expr}{k:Nat}{t:TGs}{n:Nat} (hc:X.calm=true) (h:PGs X es t)
  (hn:(assignEach es X.env).length=n:=by rfl) (hst:(assignEach es X.env).findIdx? (·.1)=none:=by rfl):PG X (.Tuple es k pos) (nQ_ X.K n t):=by
 intro pins s σ H v u Q I r hw
 obtain⟨a,xs,e1,hq,hl,hw⟩:=hw
 subst e1
 cases r
 obtain⟨its,rv,ht,hz⟩:=I.tuple hq
 refine assign_Tuple_tuple (I.ok.hd hc) ht (by simp [hn,←hl,rv.length]) hst fun h' hx=> ?_
 have I1:Inv X pins σ H {s with heap:=h'}:=I.kept (t':=s.toks) fun b o e=>hx b o (Nat.ne_of_lt (Heap.lt_size e)) e
 exact h pins _ σ H xs _ Q I1 (by simpa using rv) hw
def pG_ (to ti:TE) (t:n0_):TG:=fun v σ H Q=>to σ H fun o H1=>ti σ H1 fun i H2=>t o i v H2 fun H3=>Q σ H3
theorem dn_ {o i:Expr}{to ti:TE}{t:n0_} (ho:PE X o to) (hi:PE X i ti) (hs:o8_ X t)
  (ha:∀v,assign (.Subscript o i pos) X.env v=(do
   let ov←holding [v] (eval o X.env)
   let iv←holding [v,ov] (eval i X.env)
   standAt pos
   holding [v,ov,iv] (setItem ov iv v)
   release [v,ov,iv] []):=by intro _;rfl):PG X (.Subscript o i pos) (pG_ to ti t):=by
 intro pins s σ H v u Q I r h
 rw [ha]
 refine wpAny_bind (wpAny_holding (thn (ho pins s σ H _ I h) fun ov s1 ⟨x,H1,I1,r1,q1⟩=> ?_))
 refine wpAny_bind (wpAny_holding (thn (hi pins s1 σ H1 _ I1 q1) fun iv s2 ⟨y,H2,I2,r2,q2⟩=> ?_))
 refine wpAny_bind (wpAny_standAt (wpAny_bind (wpAny_holding (thn (hs pins s2 σ H2 x y v ov iv u _ I2 r1 r2 r q2) fun _ s3 ⟨H3,I3,q3⟩=> ?_))))
 exact wpAny_release ⟨σ,H3,I3,q3⟩
def n3_ (te:TE) (g:TG):TS:=fun D σ H=>te σ H fun x H1=>g x σ H1 D.nx
theorem cD_ {tg e:Expr}{te:TE}{g:TG} (he:PE X e te) (hg:PG X tg g) (hs:swapsWithSole [tg] e pos.line X.env=pure false:=by rfl) (hw:swappedStores [tg] e X.env=pure none:=by rfl)
  (h1:(assignEach [tg] X.env).map (·.2)=[assign tg X.env]:=by rfl):PS X (.Assign [tg] e pos) (n3_ te g):=by
 intro pins s σ H D I h
 refine wpAny_Assign_stores (thn (he pins s σ H _ I h) fun v s1 ⟨x,H1,I1,r1,q1⟩=> ?_) hs hw
 rw [h1]
 exact thn (hg pins s1 σ H1 x v _ I1 r1 q1) fun _ s2 q=>q
theorem ap_ {i:Nat}{x:Str}{e:Expr}{te:TE}{pos':Pos} (hN:X.N.Nodup) (hi:X.N[i]? =some x) (hx:Loc X.env.scope x) (he:PE X e te) (hs:swapsWith e (some (.Name x pos')) pos.line X.env=pure false:=by rfl) (hf:X.fn x=true∨X.env.scope.names.lookup x=some .local:=by first|exact .inl rfl|exact .inr rfl|assumption):
  PS X (.Assign [.Name x pos'] e pos) (n3_ te (dw_ i)):=by
 intro pins s σ H D I h
 refine wpAny_Assign_Name (thn (he pins s σ H _ I h) fun v s1 ⟨y,H1,I1,r1,q1⟩=> ?_) hs
 exact d2_ I1 hN hi hx r1 (fun s2 I2=>⟨_,H1,I2,q1⟩) hf
def pu_ (i:Nat) (te:TE) (ti:TIp):TS:=fun D σ H=>∃x,σ[i]? =some (some x)∧te σ H fun y H1=>ti x y H1 fun z H2=>D.nx (σ.set i (some z)) H2
theorem jp_ {i:Nat}{x:Str}{e:Expr}{te:TE}{op:Operator}{ti:TIp}{pos':Pos} (hN:X.N.Nodup) (hi:X.N[i]? =some x) (hx:Loc X.env.scope x) (he:PE X e te) (ho:PIp X op ti) (hf:X.fn x=true∨X.env.scope.names.lookup x=some .local:=by first|exact .inl rfl|exact .inr rfl|assumption):
  PS X (.AugAssign (.Name x pos') op e pos) (pu_ i te ti):=by
 intro pins s σ H D I h
 obtain⟨v,e1,h⟩:=h
 obtain⟨m,hn,hl⟩:=I.loc
 have vis:Vis X.env.scope x:=by rcases hx with k|k;exact .inl k;exact .inr (.inl k)
 obtain⟨u,r,l⟩:=hl i x v hi e1 vis
 refine wpAny_AugAssign_Name ?_
 have go:wpAny (model X.prog X.w) X.A (eval e X.env) (fun w s₂=>wpAny (model X.prog X.w) X.A (inplaceOp op u w) (fun r s₃=>wpAny (model X.prog X.w) X.A (storeName X.env x r) (fun _=>SP X pins D .next) X.xe s₃) X.xe s₂) X.xe s:=by
  refine thn (he pins s σ H _ I h) fun w s1 ⟨y,H1,I1,r1,q1⟩=> ?_
  refine thn (ho pins s1 σ H1 v y u w _ I1 r r1 q1) fun z s2 ⟨zv,H2,I2,r2,q2⟩=> ?_
  exact d2_ I2 hN hi hx r2 (fun s3 I3=>⟨_,H2,I3,q2⟩) hf
 rcases l with⟨hk,hm⟩|⟨hk,c,hc,hcell⟩
 ·exact wpAny_loadName_local I.ok.kind hk hn hm go
 ·rcases hk with hk|hk
  ·exact wpAny_loadName_cell I.ok.kind hk hc hcell go
  ·rcases hx with k|k
   ·have:X.env.scope.names.lookup x=some .free:=hk
    rw [k] at this;cases this
   ·have:X.env.scope.names.lookup x=some .free:=hk
    rw [k] at this;cases this
def os_ (to ti te:TE) (tget:V→V→Hp→VK→Prop) (tip:TIp) (tset:n0_):TS:=fun D σ H=>to σ H fun o H1=>ti σ H1 fun i H2=>tget o i H2 fun x H3=>te σ H3 fun y H4=>tip x y H4 fun z H5=>tset o i z H5 fun H6=>D.nx σ H6
def pi_ (X:Cx) (t:V→V→Hp→VK→Prop):Prop:=
 ∀(pins:List (Addr×Obj)) (s:Shared) (σ:St) (H:Hp) (o i:V) (ov iv:Value) (Q:VK),Inv X pins σ H s→bf_ o ov→bf_ i iv→t o i H Q→
  wpAny (model X.prog X.w) X.A (getItem ov iv) (EP X pins σ Q) X.xe s
theorem jo_ {o i e:Expr}{to ti te:TE}{tget:V→V→Hp→VK→Prop}{tip:TIp}{tset:n0_}{op:Operator}{tpos:Pos} (ho:PE X o to) (hi:PE X i ti) (hg:pi_ X tget) (he:PE X e te) (hp:PIp X op tip) (hs:o8_ X tset)
  (ha:∀ov iv new,augStore i ov iv new=(do holding [new,ov,iv] (setItem ov iv new);release [new,ov,iv] [];pure .next):=by intros;rfl):PS X (.AugAssign (.Subscript o i tpos) op e pos) (os_ to ti te tget tip tset):=by
 intro pins s σ H D I h
 refine wpAny_AugAssign_SubscriptAny (thn (ho pins s σ H _ I h) fun ov s1 ⟨x1,H1,I1,r1,q1⟩=> ?_) ha
 refine thn (hi pins s1 σ H1 _ I1 q1) fun iv s2 ⟨x2,H2,I2,r2,q2⟩=> ?_
 refine thn (hg pins s2 σ H2 x1 x2 ov iv _ I2 r1 r2 q2) fun old s3 ⟨x3,H3,I3,r3,q3⟩=> ?_
 refine thn (he pins s3 σ H3 _ I3 q3) fun v s4 ⟨x4,H4,I4,r4,q4⟩=> ?_
 refine thn (hp pins s4 σ H4 x3 x4 old v _ I4 r3 r4 q4) fun new s5 ⟨x5,H5,I5,r5,q5⟩=> ?_
 exact thn (hs pins s5 σ H5 x1 x2 x5 ov iv new _ I5 r1 r2 r5 q5) fun _ s6 ⟨H6,I6,q6⟩=>⟨σ,H6,I6,q6⟩
def ipI (f:Int→Int→Int):TIp:=fun x y H Q=>∃i j,x= .int i∧y= .int j∧Q (.int (f i j)) H
theorem j5_:PIp X .Add (ipI fun i j=>i+j):=by
 intro pins s σ H x y v u Q I r1 r2 h
 obtain⟨i,j,e1,e2,q⟩:=h
 subst e1;subst e2
 obtain⟨t,rfl⟩:=r1
 obtain⟨t',rfl⟩:=r2
 exact iadd_int ⟨.int _,H,I.tok _,⟨_,rfl⟩,q⟩
theorem nN_:PIp X .Sub (ipI fun i j=>i-j):=by
 intro pins s σ H x y v u Q I r1 r2 h
 obtain⟨i,j,e1,e2,q⟩:=h
 subst e1;subst e2
 obtain⟨t,rfl⟩:=r1
 obtain⟨t',rfl⟩:=r2
 exact isub_int ⟨.int _,H,I.tok _,⟨_,rfl⟩,q⟩
end
section
variable {X:Cx}{pos:Pos}
end
structure It where
 go:Nat→Hp→Prop
 yld:Nat→Hp→V→Hp→Prop
 stop:Nat→Hp→Prop
def lH_ (X:Cx) (pins:List (Addr×Obj)) (H:Hp) (b:Addr):Prop:=
 H b=none∧b≠X.env.locals∧b∉X.fs∧(b∈X.ex∨X.s₀.heap.objs.size≤b)∧(∀x c,X.env.cells.lookup x=some c→c≠b)∧∀p∈X.pn++pins,p.1≠b
theorem Inv.fpOk {X:Cx}{pins:List (Addr×Obj)}{σ:St}{H H':Hp}{s:Shared}{b:Addr} (I:Inv X pins σ H s) (hb:s.heap.objs.size≤b) (hn:H' b=none):lH_ X pins H' b:=by
 refine⟨hn,Nat.ne_of_gt (Nat.lt_of_lt_of_le I.lt hb),I.nofs hb, .inr (Nat.le_trans I.sz hb),fun x c e z=> ?_,fun p hp z=> ?_⟩
 ·obtain⟨v,q⟩:=I.cell x c e
  exact absurd (Nat.lt_of_lt_of_le q.lt (by rw [z];exact hb)) (Nat.lt_irrefl _)
 ·exact absurd (Nat.lt_of_lt_of_le (Heap.lt_size (I.pin p hp).1) (by rw [z];exact hb)) (Nat.lt_irrefl _)
structure Turn (P:Program) (w:World) (K:PySem.W.Frag) (tg:Expr) (J:It) (fp:List Addr) (it:Addr) (tn:Nat→Heap→Prop):Prop where
 mem:it∈fp
 obj:∀i h,tn i h→∀b∈fp,∃o,h.get? b=some o∧∀v,o.data≠ .cell v
 keep:∀i h h',tn i h→(∀b∈fp,∀o,h.get? b=some o→h'.get? b=some o)→tn i h'
 item:∀(X:Cx),X.prog=P→X.w=w→X.K=K→X.calm=true→∀(i:Nat) (pins:List (Addr×Obj)) (s:Shared) (σ:St) (H:Hp) (E:Value→Shared→Prop),Inv X pins σ H s→(∀b∈fp,lH_ X pins H b)→tn i s.heap→J.go i H→
  wpAny (model P w) X.A (pyNext (.ref it)) (fun r s1=>∃u,r=some u∧
   wpAny (model P w) X.A (letOwnedTupleGo tg (.ref it) u) (fun _ s2=>∃x H',Inv X pins σ H' s2∧bf_ x u∧J.yld i H x H'∧tn (i+1) s2.heap∧∀b∈fp,H' b=none) E s1) E s
 done:∀(X:Cx),X.prog=P→X.w=w→X.K=K→X.calm=true→∀(i:Nat) (pins:List (Addr×Obj)) (s:Shared) (σ:St) (H:Hp) (E:Value→Shared→Prop),Inv X pins σ H s→(∀b∈fp,lH_ X pins H b)→tn i s.heap→J.stop i H→
  wpAny (model P w) X.A (pyNext (.ref it)) (fun r s1=>r=none∧Inv X pins σ H s1) E s
 self:∀(A:Around) (i:Nat) (s:Shared) (Q:Value→Shared→Prop) (E:Value→Shared→Prop),tn i s.heap→Q (.ref it) s→wpAny (model P w) A (pyIter (.ref it)) Q E s
abbrev TI:=St→Hp→(It→Hp→Prop)→Prop
def PIE (X:Cx) (pins:List (Addr×Obj)) (σ:St) (tg:Expr) (R:It→Hp→Prop) (itv:Value) (s2:Shared):Prop:=
 ∃(it:Addr) (fp:List Addr) (tn:Nat→Heap→Prop) (J:It) (H':Hp),itv= .ref it∧Inv X pins σ H' s2∧Turn X.prog X.w X.K tg J fp it tn∧tn 0 s2.heap∧(∀b∈fp,lH_ X pins H' b)∧R J H'
def PI (X:Cx) (tg iter:Expr) (wi:TI):Prop:=
 ∀(pins:List (Addr×Obj)) (s:Shared) (σ:St) (H:Hp) (R:It→Hp→Prop),Inv X pins σ H s→wi σ H R→
  wpAny (model X.prog X.w) X.A (eval iter X.env) (fun v s1=>wpAny (model X.prog X.w) X.A (pyIter v) (PIE X pins σ tg R) X.xe s1) X.xe s
theorem go_of {M : Model} {A : Around} {E : Value → Shared → Prop} {s : Shared} {tg : Expr} {it : Addr} {u : Value} {o : Obj} {n : String} {vs : Array Value} {Q : Unit → Shared → Prop} (ho : s.heap.get? it = some o) (hc : o.cls = .type n) (hd : o.data = .fields vs)
    (hn : ["enumerate", "zip", "dict_itemiterator", "dict_reverseitemiterator", "odict_iterator", "itertools.zip_longest", "itertools.pairwise"].contains n = false) (hQ : Q () s) : wpAny M A (letOwnedTupleGo tg (.ref it) u) Q E s := by
  unfold letOwnedTupleGo
  cases tg <;> first
    | exact wpAny_pure hQ
    | (cases u <;> first
        | exact wpAny_pure hQ
        | (refine wpAny_bind (wpAny_load ho ?_)
           rw [hc, hd]
           show wpAny M A (if (["enumerate", "zip", "dict_itemiterator", "dict_reverseitemiterator", "odict_iterator", "itertools.zip_longest", "itertools.pairwise"].contains n && vs[0]? == some (rawInt _)) = true then _ else _) Q E s
           rw [if_neg (by intro h; rw [hn, Bool.false_and] at h; cases h)]
           exact wpAny_pure hQ))
def Itl (K:PySem.W.Frag) (a:Addr):It:=
 ⟨fun i H=>∃xs x,SqL K H a xs∧xs[i]? =some x,fun i H x H'=>H'=H∧∀xs,SqL K H a xs→xs[i]? =some x,fun i H=>∃xs,SqL K H a xs∧xs.length≤i⟩
def Itr (lo:Int) (n:Nat):It:=⟨fun i _=>i<n,fun i H x H'=>H'=H∧x= .int (lo+i),fun i _=>n≤i⟩
theorem i4_ {P:Program}{w:World}{K:PySem.W.Frag}{tg:Expr} (a it:Addr):Turn P w K tg (Itl K a) [it] it (fun i h=>h.IsListIter it a i) where
 mem:=by simp
 obj:=fun i h st b hb=>by
  have e:b=it:=by simpa using hb
  subst e
  obtain⟨o,e,c,d⟩:=st
  exact⟨o,e,fun v z=>by rw [d] at z;cases z⟩
 keep:=fun i h h' st k=>st.at fun o e=>k it (by simp) o e
 item:=by
  intro X hP hw hK hc i pins s σ H E I hf st hg
  subst hP hw hK
  obtain⟨xs,x,hq,hx⟩:=hg
  obtain⟨its,rv,p,hz⟩:=I.list hq
  obtain⟨u,hu,ru⟩:=rv.get hx
  obtain⟨f0,f1,f2,f3,f4,f5⟩:=hf it (by simp)
  refine wpAny_pyNext_list_item st p.isList (x:=u) (by simpa using hu) fun h' st' sb=> ?_
  have I1:Inv X pins σ H {s with heap:=h'}:=I.turned (t':=s.toks) (fun b o hb e=>(sb.2 b hb).trans e) f0 f1 f3 f4 f5
  obtain⟨o,e,c,d⟩:=id st'
  exact⟨u,rfl,go_of (s:={s with heap:=h'}) e c d (by decide) ⟨x,H,I1,ru,⟨rfl,fun ys hy=>by rw [I.list_inj hy hq];exact hx⟩,st',fun b hb=>(hf b hb).1⟩⟩
 done:=by
  intro X hP hw hK hc i pins s σ H E I hf st hg
  subst hP hw hK
  obtain⟨xs,hq,hx⟩:=hg
  obtain⟨its,rv,p,hz⟩:=I.list hq
  obtain⟨f0,f1,f2,f3,f4,f5⟩:=hf it (by simp)
  have hl:=rv.length
  exact wpAny_pyNext_list_end (I.ok.hd hc) st p.isList (by simp;omega) fun h' eb=>⟨rfl,I.turned (t':=s.toks) (fun b o hb e=>eb b o hb e) f0 f1 f3 f4 f5⟩
 self:=fun _ _ _ _ _ st h=>wpAny_pyIter_listiter st h
theorem iJ_ {P:Program}{w:World}{K:PySem.W.Frag}{tg:Expr} (it:Addr) (lo:Int) (n:Nat):Turn P w K tg (Itr lo n) [it] it (fun i h=>IsRangeIter h it (lo+(i:Nat)*1) ((n:Int)-(i:Nat)) 1) where
 mem:=by simp
 obj:=fun i h st b hb=>by
  have e:b=it:=by simpa using hb
  subst e
  exact⟨_,st,fun v z=>by
   have z':Data.fields _=Data.cell v:=z
   cases z'⟩
 keep:=fun i h h' st k=>k it (by simp) _ st
 item:=by
  intro X hP hw hK hc i pins s σ H E I hf st hg
  subst hP hw hK
  obtain⟨f0,f1,f2,f3,f4,f5⟩:=hf it (by simp)
  have W:=Walks.range (prog:=X.prog) (w:=X.w) (I.ok.hd hc) it lo 1 n
  refine W.item i s _ _ hg st fun v h' tk hv st' kk=> ?_
  obtain⟨t,rfl⟩:=hv
  have I1:Inv X pins σ H {s with heap:=h',toks:=tk}:=I.turned (fun b o hb e=>kk b o (by simpa using hb) e) f0 f1 f3 f4 f5
  refine⟨_,rfl,go_of (s:={s with heap:=h',toks:=tk}) (n:="range_iterator") st' rfl rfl (by decide) ⟨.int (lo+i),H,I1,⟨t, ?_⟩,⟨rfl,rfl⟩,st',fun b hb=>(hf b hb).1⟩⟩
  rw [Int.mul_one]
 done:=by
  intro X hP hw hK hc i pins s σ H E I hf st hg
  subst hP hw hK
  obtain⟨f0,f1,f2,f3,f4,f5⟩:=hf it (by simp)
  exact wpAny_pyNext_range_end (I.ok.hd hc) st (by have:n≤i:=hg;omega) fun h' eb=>⟨rfl,I.turned (t':=s.toks) (fun b o hb e=>eb b o hb e) f0 f1 f3 f4 f5⟩
 self:=fun _ _ _ _ _ st h=>wpAny_pyIter_rangeiter st h
end L2
namespace L2
open PySem PySem.Spec PyProof.Rows
section
variable {X:Cx}{tg:Expr}
def o2_ (K:PySem.W.Frag) (tl:TE):TI:=fun σ H R=>tl σ H fun x H1=>∃a,x= .ref a∧(∃xs,SqL K H1 a xs)∧R (Itl K a) H1
theorem aN_ {l:Expr}{tl:TE} (hl:PE X l tl):PI X tg l (o2_ X.K tl):=by
 intro pins s σ H R I h
 refine thn (hl pins s σ H _ I h) fun v s1 ⟨x,H1,I1,r1,q1⟩=> ?_
 obtain⟨a,e,⟨xs,hq⟩,q⟩:=q1
 subst e
 cases r1
 obtain⟨its,rv,p,hz⟩:=I1.list hq
 refine wpAny_pyIter_list p.isList ?_
 refine⟨s1.heap.objs.size,[s1.heap.objs.size],_,_,H1,rfl,I1.kept (t':=s1.toks) fun b o e=>Heap.get?_push_of_some _ e,i4_ a _,⟨_,Heap.get?_push_size _ rfl,rfl,rfl⟩,fun b hb=> ?_,q⟩
 have e:b=s1.heap.objs.size:=by simpa using hb
 subst e
 exact I1.fpOk (Nat.le_refl _) (I1.hok.fresh (Nat.le_refl _))
theorem h4_ {pins:List (Addr×Obj)}{σ:St}{H:Hp}{s:Shared}{R:It→Hp→Prop}{E:Value→Shared→Prop}{lo hi:Int}{t u v:Tok}{tk:Nat} (I:Inv X pins σ H s) (h1: -(2^62)≤lo) (h2:lo<2^62) (h3: -(2^62)≤hi) (h4:hi<2^62)
  (q:R (Itr lo (hi-lo).toNat) H):wpAny (model X.prog X.w) X.A (pyIter (.ref s.heap.objs.size)) (PIE X pins σ tg R) E {s with heap:=s.heap.push {cls:= .type "range",data:= .fields #[.int lo t, .int hi u, .int 1 v]},toks:=tk}:=by
 refine wpAny_pyIter_range (IsRange.new ..) (small_one h1 h2 h3 h4) ?_
 have I1:Inv X pins σ H {s with heap:=s.heap.push {cls:= .type "range",data:= .fields #[.int lo t, .int hi u, .int 1 v]},toks:=tk}:=I.kept fun b o e=>Heap.get?_push_of_some _ e
 refine⟨(s.heap.push {cls:= .type "range",data:= .fields #[.int lo t, .int hi u, .int 1 v]}).objs.size,[(s.heap.push {cls:= .type "range",data:= .fields #[.int lo t, .int hi u, .int 1 v]}).objs.size],_,_,H,rfl,
  I1.kept (t':=tk) fun b o e=>Heap.get?_push_of_some _ e,iJ_ _ lo (hi-lo).toNat, ?_,fun b hb=> ?_,q⟩
 ·have e1:lo+((0:Nat):Int)*1=lo:=by simp
  have e2:(((hi-lo).toNat:Nat):Int)-((0:Nat):Int)=Builtin.Range.rangeSize lo hi 1:=by rw [rangeSize_one];split<;>omega
  show IsRangeIter _ _ (lo+((0:Nat):Int)*1) ((((hi-lo).toNat:Nat):Int)-((0:Nat):Int)) 1
  rw [e1,e2]
  exact Heap.get?_push_size _ rfl
 ·have e:b=(s.heap.push {cls:= .type "range",data:= .fields #[.int lo t, .int hi u, .int 1 v]}).objs.size:=by simpa using hb
  subst e
  exact I1.fpOk (Nat.le_refl _) (I1.hok.fresh (Nat.le_refl _))
def o1_ (ta:TA):TI:=fun σ H R=>ta σ H fun vs H1=>∃j:Int,vs=[.int j]∧-(2^62)≤j∧j<2^62∧R (Itr 0 j.toNat) H1
def o0_ (ta:TA):TI:=fun σ H R=>ta σ H fun vs H1=>∃i j:Int,vs=[.int i, .int j]∧(-(2^62)≤i∧i<2^62∧-(2^62)≤j∧j<2^62)∧R (Itr i (j-i).toNat) H1
theorem dm_ {a:Expr}{ta:TA}{p pos:Pos} (hg:Gl X "range") (hm:X.mg "range"=none) (ha:PA X [a] ta) (hs:starEach [a] X.env=[(false,eval a X.env)]:=by rfl):PI X tg (.Call (.Name "range" p) [a] [] pos) (o1_ ta):=by
 intro pins s σ H R I h
 refine Call_ (ds_ I hg hm boot_range (PyProof.Rows.callWith_type1 (thn (ha pos pins s σ H _ I h) fun us s1 ⟨vs,H1,I1,r1,q1⟩=> ?_) hs rfl))
 obtain⟨j,e,q1,q2,q⟩:=q1
 subst e
 cases r1 with
 |cons r rr=>
  cases rr
  obtain⟨t,rfl⟩:=r
  exact call_range_1 (h4_ I1 (by omega) (by omega) q1 q2 (by simpa using q))
theorem b3_ {a b:Expr}{ta:TA}{p pos:Pos} (hg:Gl X "range") (hm:X.mg "range"=none) (ha:PA X [a,b] ta) (hs:starEach [a,b] X.env=[(false,eval a X.env),(false,eval b X.env)]:=by rfl) (hs2:starEach [b] X.env=[(false,eval b X.env)]:=by rfl):
  PI X tg (.Call (.Name "range" p) [a,b] [] pos) (o0_ ta):=by
 intro pins s σ H R I h
 refine Call_ (ds_ I hg hm boot_range (PyProof.Rows.callWith_type1 (thn (ha pos pins s σ H _ I h) fun us s1 ⟨vs,H1,I1,r1,q1⟩=> ?_) (by rw [hs,hs2]) (by rw [hs2];rfl)))
 obtain⟨i,j,e,⟨q1,q2,q3,q4⟩,q⟩:=q1
 subst e
 cases r1 with
 |cons r rr=>
  cases rr with
  |cons r' rr=>
   cases rr
   obtain⟨t,rfl⟩:=r
   obtain⟨t',rfl⟩:=r'
   exact call_range_2 (h4_ I1 q1 q2 q3 q4 q)
def ps_ (wi:TI) (g:TG) (tb:TS):TS:=fun D σ H=>wi σ H fun J H1=>∃W:Nat→Nat→St→Hp→Prop,(∃m,W 0 m σ H1)∧∀i m σ H,W i m σ H→
 (J.stop i H∧D.nx σ H)∨(J.go i H∧∃N:St→Hp→Prop,(∀σ' H',N σ' H'→∃m',m'<m∧W (i+1) m' σ' H')∧∀x H',J.yld i H x H'→g x σ H' fun σ2 H2=>tb {D with nx:=N,ct:=N,bk:=D.nx} σ2 H2)
def gl_ (fp:List Addr) (h:Heap):List (Addr×Obj):=fp.filterMap fun b=>(h.get? b).map fun o=>(b,o)
theorem cQ_ {fp:List Addr}{h:Heap}{b:Addr}{o:Obj} (hb:b∈fp) (e:h.get? b=some o):(b,o)∈gl_ fp h:=List.mem_filterMap.mpr ⟨b,hb,by rw [e];rfl⟩
theorem jD_ {fp:List Addr}{h:Heap}{p:Addr×Obj} (hp:p∈gl_ fp h):p.1∈fp∧h.get? p.1=some p.2:=by
 obtain⟨b,hb,e⟩:=List.mem_filterMap.mp hp
 cases q:h.get? b with
 |none=>rw [q] at e;cases e
 |some o=>
  rw [q] at e
  have e':(b,o)=p:=Option.some.inj e
  subst e'
  exact⟨hb,q⟩
theorem Inv.pinned {pins:List (Addr×Obj)}{σ:St}{H:Hp}{s:Shared}{fp:List Addr} (I:Inv X pins σ H s) (hf:∀b∈fp,lH_ X pins H b) (ho:∀b∈fp,∃o,s.heap.get? b=some o∧∀v,o.data≠ .cell v):Inv X (pins++gl_ fp s.heap) σ H s:=
 I.pins_of fun p hp=>(List.mem_append.mp hp).elim (fun z=>I.pin p (List.mem_append_right _ z)) fun z=>by
  obtain⟨hb,e⟩:=jD_ z
  obtain⟨f0,f1,f2,_⟩:=hf p.1 hb
  obtain⟨o,e',d⟩:=ho p.1 hb
  rw [e] at e';cases e'
  exact⟨e,f0,f1,f2,d⟩
theorem Inv.unpinned {pins pl:List (Addr×Obj)}{σ:St}{H:Hp}{s:Shared} (I:Inv X (pins++pl) σ H s):Inv X pins σ H s:=I.pins_of fun p hp=>I.pin p (List.mem_append_right _ (List.mem_append_left _ hp))
theorem aX_ {iter:Expr}{body:List Stmt}{wi:TI}{g:TG}{tb:TS}{pos:Pos} (hp:PassesOwn (model X.prog X.w) X.A X.env X.xe) (hc:X.calm=true) (hi:PI X tg iter wi) (hg:PG X tg g) (hb:PSs X body tb)
  (hs:∀x,foldedSetIterable iter X.env x=pure x:=by intro _;rfl):PS X (.For tg iter body [] pos) (ps_ wi g tb):=by
 intro pins s σ H D I h
 refine wpAny_For (thn (hi pins s σ H _ I h) fun v s1 h1=>thn h1 fun itv s2 h2=> ?_) hs
 obtain⟨it,fp,tn,J,H2,e,I2,T,st2,f2,W,⟨m0,w0⟩,turn⟩:=h2
 subst e
 have stat:∀{H':Hp},(∀b∈fp,H' b=none)→∀b∈fp,lH_ X pins H' b:=fun hn b hb=>⟨hn b hb,(f2 b hb).2⟩
 refine codeAny_forLoop_any (fun n s'=>∃i σ' H',Inv X pins σ' H' s'∧tn i s'.heap∧(∀b∈fp,H' b=none)∧W i n σ' H') ?_ m0 ⟨0,σ,H2,I2,st2,fun b hb=>(f2 b hb).1,w0⟩
 rintro n s3 ⟨i,σ3,H3,I3,st3,fr3,w3⟩
 rcases turn i n σ3 H3 w3 with⟨stop,qn⟩|⟨go,N,hN,step⟩
 ·refine wpAny_passesOwn hp (thn (T.done X rfl rfl rfl hc i pins s3 σ3 H3 X.xe I3 (stat fr3) st3 stop) fun r s4 ⟨hr,I4⟩=> ?_)
  subst hr
  exact wpAny_execs_nil ⟨σ3,H3,I4,qn⟩
 ·refine wpAny_passesOwn hp (thn (T.item X rfl rfl rfl hc i pins s3 σ3 H3 X.xe I3 (stat fr3) st3 go) fun r s4 ⟨u,hr,h4⟩=> ?_)
  subst hr
  refine wpAny_passesOwn hp (thn h4 fun _ s5 ⟨x,H5,I5,r5,y5,st5,fr5⟩=> ?_)
  have I5':=I5.pinned (stat fr5) (T.obj _ _ st5)
  refine wpAny_passesOwn hp (thn (hg _ s5 σ3 H5 x u _ I5' r5 (step x H5 y5)) fun _ s6 ⟨σ6,H6,I6,q6⟩=> ?_)
  refine wpAny_passesOwn hp (thn (hb _ s6 σ6 H6 _ I6 q6) fun f s7 q7=> ?_)
  have again:∀{σ7:St}{H7:Hp},Inv X (pins++gl_ fp s5.heap) σ7 H7 s7→N σ7 H7→∃m,m<n∧∃i σ' H',Inv X pins σ' H' s7∧tn i s7.heap∧(∀b∈fp,H' b=none)∧W i m σ' H':=fun{σ7 H7} I7 n7=>by
   obtain⟨m',hm,w7⟩:=hN σ7 H7 n7
   refine⟨m',hm,i+1,σ7,H7,I7.unpinned,T.keep _ _ _ st5 fun b hb o e=>(I7.pin (b,o) (List.mem_append_right _ (List.mem_append_right _ (cQ_ hb e)))).1,fun b hb=> ?_,w7⟩
   obtain⟨o,e,d⟩:=T.obj _ _ st5 b hb
   exact(I7.pin (b,o) (List.mem_append_right _ (List.mem_append_right _ (cQ_ hb e)))).2.1
  cases f with
  |next=>obtain⟨σ7,H7,I7,n7⟩:=q7;exact again I7 n7
  |cont=>obtain⟨σ7,H7,I7,n7⟩:=q7;exact again I7 n7
  |brk=>obtain⟨σ7,H7,I7,q7⟩:=q7;exact⟨σ7,H7,I7.unpinned,q7⟩
  |ret v=>obtain⟨x7,σ7,H7,I7,r7,q7⟩:=q7;exact⟨x7,σ7,H7,I7.unpinned,r7,q7⟩
end
theorem aY_ {K:PySem.W.Frag}{a:Addr}{xs:List V}{g:TG}{tb:TS}{D:Ends}{σ:St}{H:Hp} (Pv:Nat→St→Hp→Prop) (h0:Pv 0 σ H) (hl:∀i σ H,i≤xs.length→Pv i σ H→SqL K H a xs)
  (hs:∀i x σ H,xs[i]? =some x→Pv i σ H→g x σ H fun σ2 H2=>tb {D with nx:=Pv (i+1),ct:=Pv (i+1),bk:=D.nx} σ2 H2) (hd:∀σ H,Pv xs.length σ H→D.nx σ H):
  ∃W:Nat→Nat→St→Hp→Prop,(∃m,W 0 m σ H)∧∀i m σ H,W i m σ H→
   ((Itl K a).stop i H∧D.nx σ H)∨((Itl K a).go i H∧∃N:St→Hp→Prop,(∀σ' H',N σ' H'→∃m',m'<m∧W (i+1) m' σ' H')∧∀x H',(Itl K a).yld i H x H'→g x σ H' fun σ2 H2=>tb {D with nx:=N,ct:=N,bk:=D.nx} σ2 H2):=by
 refine⟨fun i m σ H=>m=xs.length-i∧i≤xs.length∧Pv i σ H,⟨xs.length,by simp,Nat.zero_le _,h0⟩, ?_⟩
 rintro i m σ H ⟨rfl,hi,p⟩
 have q:=hl i σ H hi p
 by_cases hlt:i<xs.length
 ·refine .inr ⟨⟨xs,xs[i],q,by simp [hlt]⟩,Pv (i+1),fun σ' H' p'=>⟨xs.length-(i+1),by omega,rfl,hlt,p'⟩,fun x H' y=> ?_⟩
  obtain⟨e,y⟩:=y
  subst e
  exact hs i x σ _ (y xs q) p
 ·have e:i=xs.length:=by omega
  subst e
  exact .inl ⟨⟨xs,q,Nat.le_refl _⟩,hd σ H p⟩
theorem bz_ {lo:Int}{n:Nat}{g:TG}{tb:TS}{D:Ends}{σ:St}{H:Hp} (Pv:Nat→St→Hp→Prop) (h0:Pv 0 σ H)
  (hs:∀i σ H,i<n→Pv i σ H→g (.int (lo+i)) σ H fun σ2 H2=>tb {D with nx:=Pv (i+1),ct:=Pv (i+1),bk:=D.nx} σ2 H2) (hd:∀σ H,Pv n σ H→D.nx σ H):
  ∃W:Nat→Nat→St→Hp→Prop,(∃m,W 0 m σ H)∧∀i m σ H,W i m σ H→
   ((Itr lo n).stop i H∧D.nx σ H)∨((Itr lo n).go i H∧∃N:St→Hp→Prop,(∀σ' H',N σ' H'→∃m',m'<m∧W (i+1) m' σ' H')∧∀x H',(Itr lo n).yld i H x H'→g x σ H' fun σ2 H2=>tb {D with nx:=N,ct:=N,bk:=D.nx} σ2 H2):=by
 refine⟨fun i m σ H=>m=n-i∧i≤n∧Pv i σ H,⟨n,by simp,Nat.zero_le _,h0⟩, ?_⟩
 rintro i m σ H ⟨rfl,hi,p⟩
 by_cases hlt:i<n
 ·refine .inr ⟨hlt,Pv (i+1),fun σ' H' p'=>⟨n-(i+1),by omega,rfl,hlt,p'⟩,fun x H' y=> ?_⟩
  obtain⟨e,y⟩:=y
  subst e y
  exact hs i σ _ hlt p
 ·have e:i=n:=by omega
  subst e
  exact .inl ⟨Nat.le_refl _,hd σ H p⟩
end L2
namespace L2
open PySem PySem.Spec PyProof.Rows
abbrev R2:=V→V→Hp→VK→Prop
def OpR (X:Cx) (f:Value→Value→Sem Value) (r:R2):Prop:=
 ∀(pins:List (Addr×Obj)) (s:Shared) (σ:St) (H:Hp) (x y:V) (v u:Value) (Q:VK),Inv X pins σ H s→bf_ x v→bf_ y u→r x y H Q→
  wpAny (model X.prog X.w) X.A (f v u) (EP X pins σ Q) X.xe s
def UnR (X:Cx) (f:Value→Sem Value) (r:V→Hp→VK→Prop):Prop:=
 ∀(pins:List (Addr×Obj)) (s:Shared) (σ:St) (H:Hp) (x:V) (v:Value) (Q:VK),Inv X pins σ H s→bf_ x v→r x H Q→
  wpAny (model X.prog X.w) X.A (f v) (EP X pins σ Q) X.xe s
def b7_ (X:Cx) (f:Value) (r:List V→Hp→VK→Prop):Prop:=
 ∀(pins:List (Addr×Obj)) (s:Shared) (σ:St) (H:Hp) (xs:List V) (us:List Value) (Q:VK),Inv X pins σ H s→aQ_ xs us→r xs H Q→
  wpAny (model X.prog X.w) X.A (call f us) (EP X pins σ Q) X.xe s
def pI_ (X:Cx) (r:V→Hp→(Bool→Hp→Prop)→Prop):Prop:=
 ∀(pins:List (Addr×Obj)) (s:Shared) (σ:St) (H:Hp) (x:V) (v:Value) (Q:Bool→Hp→Prop),Inv X pins σ H s→bf_ x v→r x H Q→
  wpAny (model X.prog X.w) X.A (truthy v) (TP X pins σ Q) X.xe s
def tOp (r:R2) (ta tb:TE):TE:=fun σ H Q=>ta σ H fun x H1=>tb σ H1 fun y H2=>r x y H2 Q
def tUn (r:V→Hp→VK→Prop) (ta:TE):TE:=fun σ H Q=>ta σ H fun x H1=>r x H1 Q
def rI (C:Int→Int→Prop) (g:Int→Int→V):R2:=fun x y H Q=>∃i j,x= .int i∧y= .int j∧C i j∧Q (g i j) H
def rI0 (g:Int→Int→V):R2:=fun x y H Q=>∃i j,x= .int i∧y= .int j∧Q (g i j) H
def rU (g:Int→V):V→Hp→VK→Prop:=fun x H Q=>∃i,x= .int i∧Q (g i) H
section
variable {X:Cx}{a b c:Expr}{ta tb tc:TE}{pos:Pos}
theorem o6_ (ha:PE X a ta) (hb:PE X b tb) {pins:List (Addr×Obj)}{s:Shared}{σ:St}{H:Hp}{R:V→V→Hp→Prop} (I:Inv X pins σ H s)
  (h:ta σ H fun x H1=>tb σ H1 fun y H2=>R x y H2) {Q:Value→Shared→Prop}{f:Value→Value→Sem Value}
  (hf:∀v u s2 x y H2,Inv X pins σ H2 s2→bf_ x v→bf_ y u→R x y H2→wpAny (model X.prog X.w) X.A (f v u) Q X.xe s2):
  wpAny (model X.prog X.w) X.A (eval a X.env) (fun v s₁=>wpAny (model X.prog X.w) X.A (eval b X.env) (fun u s₂=>wpAny (model X.prog X.w) X.A (f v u) Q X.xe s₂) X.xe s₁) X.xe s:=by
 refine thn (ha pins s σ H _ I h) fun v s1 ⟨x,H1,I1,r1,q1⟩=> ?_
 refine thn (hb pins s1 σ H1 _ I1 q1) fun u s2 ⟨y,H2,I2,r2,q2⟩=> ?_
 exact hf v u s2 x y H2 I2 r1 r2 q2
theorem ao_ {op:Operator}{r:R2} (ho:OpR X (binaryOp op) r) (ha:PE X a ta) (hb:PE X b tb):PE X (.BinOp a op b pos) (tOp r ta tb):=by
 intro pins s σ H Q I h
 exact wpAny_BinOp (o6_ ha hb I h fun v u s2 x y H2 I2 rx ry q=>ho pins s2 σ H2 x y v u Q I2 rx ry q)
theorem oV_ {op:UnaryOp}{r:V→Hp→VK→Prop} (ho:UnR X (unaryOp op) r) (ha:PE X a ta):PE X (.UnaryOp op a pos) (tUn r ta):=by
 intro pins s σ H Q I h
 exact UnaryOp_ (thn (ha pins s σ H _ I h) fun v s1 ⟨x,H1,I1,r1,q1⟩=>ho pins s1 σ H1 x v Q I1 r1 q1)
theorem opI {f:Value→Value→Sem Value}{C:Int→Int→Prop}{g:Int→Int→Int}
  (rule:∀(i j:Int) (t u:Tok) (s:Shared) (Q:Value→Shared→Prop) (E:Value→Shared→Prop),C i j→Q (.int (g i j) s.toks) {s with toks:=s.toks+1}→wpAny (model X.prog X.w) X.A (f (.int i t) (.int j u)) Q E s):
  OpR X f (rI C fun i j=> .int (g i j)):=by
 intro pins s σ H x y v u Q I rx ry h
 obtain⟨i,j,rfl,rfl,hc,q⟩:=h
 obtain⟨t,rfl⟩:=rx
 obtain⟨t',rfl⟩:=ry
 exact rule i j t t' s _ _ hc ⟨.int (g i j),H,I.tok _,⟨_,rfl⟩,q⟩
theorem pe_ {f:Value→Value→Sem Value}{g:Int→Int→Int}
  (rule:∀(i j:Int) (t u:Tok) (s:Shared) (Q:Value→Shared→Prop) (E:Value→Shared→Prop),Q (.int (g i j) s.toks) {s with toks:=s.toks+1}→wpAny (model X.prog X.w) X.A (f (.int i t) (.int j u)) Q E s):
  OpR X f (rI0 fun i j=> .int (g i j)):=by
 intro pins s σ H x y v u Q I rx ry h
 obtain⟨i,j,rfl,rfl,q⟩:=h
 obtain⟨t,rfl⟩:=rx
 obtain⟨t',rfl⟩:=ry
 exact rule i j t t' s _ _ ⟨.int (g i j),H,I.tok _,⟨_,rfl⟩,q⟩
theorem n5_ {f:Value→Value→Sem Value}{g:Int→Int→Bool}
  (rule:∀(i j:Int) (t u:Tok) (s:Shared) (Q:Value→Shared→Prop) (E:Value→Shared→Prop),Q (.bool (g i j)) s→wpAny (model X.prog X.w) X.A (f (.int i t) (.int j u)) Q E s):
  OpR X f (rI0 fun i j=> .bl (g i j)):=by
 intro pins s σ H x y v u Q I rx ry h
 obtain⟨i,j,rfl,rfl,q⟩:=h
 obtain⟨t,rfl⟩:=rx
 obtain⟨t',rfl⟩:=ry
 exact rule i j t t' s _ _ ⟨.bl (g i j),H,I,rfl,q⟩
def pL_ (i j:Int):Prop:=0<j∧j<1073741824
def pK_ (i j:Int):Prop:=0≤j∧j≤1000000∧i.natAbs<2^64
def n9_ (i j:Int):Prop:=(-(2^64)<i∧i<2^64)∨(-(2^64)<j∧j<2^64)
theorem n9_.ok {i j:Int} (h:n9_ i j):IntMulOk i j:=by
 rcases h with⟨h1,h2⟩|⟨h1,h2⟩
 ·exact .of_left (intBits_le_64 h1 h2)
 ·exact .of_right (intBits_le_64 h1 h2)
theorem aO_:OpR X (binaryOp .Add) (rI0 fun i j=> .int (i+j)):=pe_ fun _ _ _ _ _ _ _ q=>add_int q
theorem a6_:OpR X (binaryOp .Sub) (rI0 fun i j=> .int (i-j)):=pe_ fun _ _ _ _ _ _ _ q=>sub_int q
theorem cG_:OpR X (binaryOp .Mult) (rI n9_ fun i j=> .int (i*j)):=opI fun _ _ _ _ _ _ _ hc q=>mul_int q hc.ok
theorem fv_:OpR X (binaryOp .FloorDiv) (rI pL_ fun i j=> .int (i/j)):=opI fun i j _ _ _ _ _ hc q=>by
 have h1:(0:Int)<j:=hc.1
 have h2:j<1073741824:=hc.2
 exact floordiv_int (by omega) (by rw [Int.fdiv_eq_ediv_of_nonneg i (by omega)];exact q) (.inl (PyProof.noPylong_small (by omega)))
theorem e1_:OpR X (binaryOp .Mod) (rI (fun _ j=>0<j) fun i j=> .int (i%j)):=opI fun i j _ _ _ _ _ hc q=>by
 have h1:(0:Int)<j:=hc
 exact mod_int' (by omega) (by rw [Int.fmod_eq_emod_of_nonneg i (by omega)];exact q)
theorem jB_:OpR X (binaryOp .Pow) (rI pK_ fun i j=> .int (i^j.toNat)):=opI fun _ _ _ _ _ _ _ hc q=>pow_int_small hc.1 hc.2.1 hc.2.2 q
theorem unI {f:Value→Sem Value}{g:Int→Int}
  (rule:∀(i:Int) (t:Tok) (s:Shared) (Q:Value→Shared→Prop) (E:Value→Shared→Prop),Q (.int (g i) s.toks) {s with toks:=s.toks+1}→wpAny (model X.prog X.w) X.A (f (.int i t)) Q E s):
  UnR X f (rU fun i=> .int (g i)):=by
 intro pins s σ H x v Q I rx h
 obtain⟨i,rfl,q⟩:=h
 obtain⟨t,rfl⟩:=rx
 exact rule i t s _ _ ⟨.int (g i),H,I.tok _,⟨_,rfl⟩,q⟩
theorem mZ_:UnR X (unaryOp .USub) (rU fun i=> .int (-i)):=unI fun _ _ _ _ _ q=>neg_int q
end
def pb_:V→V→Bool
 | .non, .non=>true| .non, .int _=>true| .int _, .non=>true| .non, .bl _=>true| .bl _, .non=>true| .non, .str _=>true| .str _, .non=>true
 | .int _, .int _=>true| .bl _, .bl _=>true| .str _, .str _=>true| .byt _, .byt _=>true
 | .int _, .str _=>true| .str _, .int _=>true| .bl _, .str _=>true| .str _, .bl _=>true
 |_,_=>false
def rEq:R2:=fun x y H Q=>pb_ x y=true∧Q (.bl (decide (x=y))) H
def rNe:R2:=fun x y H Q=>pb_ x y=true∧Q (.bl (!decide (x=y))) H
theorem kk_ {i j:Int}:decide (V.int i=V.int j)=(i==j):=by
 rw [Bool.eq_iff_iff]
 simp
theorem lA_ {i j:Bool}:decide (V.bl i=V.bl j)=(i==j):=by
 rw [Bool.eq_iff_iff]
 simp
theorem kj_ {i j:Str}:decide (V.str i=V.str j)=(i==j):=by
 rw [Bool.eq_iff_iff]
 simp
theorem kl_ {i j:Array UInt8}:decide (V.byt i=V.byt j)=(i.toList==j.toList):=by
 rw [Bool.eq_iff_iff]
 cases i
 cases j
 simp
section
variable {X:Cx}{a b c:Expr}{ta tb tc:TE}{pos:Pos}
theorem aP_ {pins:List (Addr×Obj)}{σ:St}{H:Hp}{s:Shared}{Q:VK}{k k':Bool} (I:Inv X pins σ H s) (q:Q (.bl k) H) (e:k=k'):EP X pins σ Q (.bool k') s:=by
 subst e
 exact⟨.bl k,H,I,rfl,q⟩
theorem ce_:OpR X (compareOp .Eq) rEq:=by
 intro pins s σ H x y v u Q I rx ry h
 obtain⟨hs,q⟩:=h
 cases x with
 |non=>
  cases rx
  cases y with
  |non=>cases ry;exact PySem.EqNone.eq_none_none (aP_ I q (by simp))
  |bl j=>cases ry;exact PySem.EqNone.eq_none_bool (aP_ I q (by simp))
  |int j=>obtain⟨t',rfl⟩:=ry;exact PySem.EqNone.eq_none_int (aP_ I q (by simp))
  |str j=>obtain⟨t',rfl⟩:=ry;exact PySem.EqNone.eq_none_str (aP_ I q (by simp))
  |_=>exact absurd (show false=true from hs) Bool.false_ne_true
 |bl i=>
  cases rx
  cases y with
  |non=>cases ry;exact PySem.EqNone.eq_bool_none (aP_ I q (by simp))
  |bl j=>cases ry;exact eq_bool (aP_ I q lA_)
  |str j=>obtain⟨t',rfl⟩:=ry;exact PySem.EqMixed.eq_bool_str (aP_ I q (by simp))
  |_=>exact absurd (show false=true from hs) Bool.false_ne_true
 |int i=>
  obtain⟨t,rfl⟩:=rx
  cases y with
  |non=>cases ry;exact PySem.EqNone.eq_int_none (aP_ I q (by simp))
  |int j=>obtain⟨t',rfl⟩:=ry;exact eq_int (aP_ I q kk_)
  |str j=>obtain⟨t',rfl⟩:=ry;exact PySem.EqMixed.eq_int_str (aP_ I q (by simp))
  |_=>exact absurd (show false=true from hs) Bool.false_ne_true
 |str i=>
  obtain⟨t,rfl⟩:=rx
  cases y with
  |non=>cases ry;exact PySem.EqNone.eq_str_none (aP_ I q (by simp))
  |bl j=>cases ry;exact PySem.EqMixed.eq_str_bool (aP_ I q (by simp))
  |int j=>obtain⟨t',rfl⟩:=ry;exact PySem.EqMixed.eq_str_int (aP_ I q (by simp))
  |str j=>obtain⟨t',rfl⟩:=ry;exact eq_str (aP_ I q kj_)
  |_=>exact absurd (show false=true from hs) Bool.false_ne_true
 |byt i=>
  obtain⟨t,rfl⟩:=rx
  cases y with
  |byt j=>obtain⟨t',rfl⟩:=ry;exact PySem.W.eq_bytes (aP_ I q kl_)
  |_=>exact absurd (show false=true from hs) Bool.false_ne_true
 |_=>cases y<;>exact absurd (show false=true from hs) Bool.false_ne_true
theorem kW_:OpR X (compareOp .NotEq) rNe:=by
 intro pins s σ H x y v u Q I rx ry h
 obtain⟨hs,q⟩:=h
 cases x with
 |non=>
  cases rx
  cases y with
  |non=>cases ry;exact PySem.EqNone.ne_none_none (aP_ I q (by simp))
  |bl j=>cases ry;exact PySem.EqNone.ne_none_bool (aP_ I q (by simp))
  |int j=>obtain⟨t',rfl⟩:=ry;exact PySem.EqNone.ne_none_int (aP_ I q (by simp))
  |str j=>obtain⟨t',rfl⟩:=ry;exact PySem.EqNone.ne_none_str (aP_ I q (by simp))
  |_=>exact absurd (show false=true from hs) Bool.false_ne_true
 |bl i=>
  cases rx
  cases y with
  |non=>cases ry;exact PySem.EqNone.ne_bool_none (aP_ I q (by simp))
  |bl j=>cases ry;exact ne_bool (aP_ I q (congrArg not lA_))
  |str j=>obtain⟨t',rfl⟩:=ry;exact PySem.EqMixed.ne_bool_str (aP_ I q (by simp))
  |_=>exact absurd (show false=true from hs) Bool.false_ne_true
 |int i=>
  obtain⟨t,rfl⟩:=rx
  cases y with
  |non=>cases ry;exact PySem.EqNone.ne_int_none (aP_ I q (by simp))
  |int j=>obtain⟨t',rfl⟩:=ry;exact ne_int (aP_ I q (congrArg not kk_))
  |str j=>obtain⟨t',rfl⟩:=ry;exact PySem.EqMixed.ne_int_str (aP_ I q (by simp))
  |_=>exact absurd (show false=true from hs) Bool.false_ne_true
 |str i=>
  obtain⟨t,rfl⟩:=rx
  cases y with
  |non=>cases ry;exact PySem.EqNone.ne_str_none (aP_ I q (by simp))
  |bl j=>cases ry;exact PySem.EqMixed.ne_str_bool (aP_ I q (by simp))
  |int j=>obtain⟨t',rfl⟩:=ry;exact PySem.EqMixed.ne_str_int (aP_ I q (by simp))
  |str j=>obtain⟨t',rfl⟩:=ry;exact ne_str (aP_ I q (congrArg not kj_))
  |_=>exact absurd (show false=true from hs) Bool.false_ne_true
 |byt i=>
  obtain⟨t,rfl⟩:=rx
  cases y with
  |byt j=>obtain⟨t',rfl⟩:=ry;exact PySem.W.ne_bytes (aP_ I q (congrArg not kl_))
  |_=>exact absurd (show false=true from hs) Bool.false_ne_true
 |_=>cases y<;>exact absurd (show false=true from hs) Bool.false_ne_true
theorem go_:OpR X (compareOp .Lt) (rI0 fun i j=> .bl (decide (i<j))):=n5_ fun _ _ _ _ _ _ _ q=>lt_int q
theorem fu_:OpR X (compareOp .LtE) (rI0 fun i j=> .bl (decide (i≤j))):=n5_ fun _ _ _ _ _ _ _ q=>le_int q
theorem kX_:OpR X (compareOp .Gt) (rI0 fun i j=> .bl (decide (j<i))):=n5_ fun _ _ _ _ _ _ _ q=>gt_int q
theorem md_:OpR X (compareOp .GtE) (rI0 fun i j=> .bl (decide (j≤i))):=n5_ fun _ _ _ _ _ _ _ q=>ge_int q
theorem lp_:OpR X (compareOp .Is) (fun x y H Q=>y= .non∧Q (.bl (decide (x= .non))) H):=by
 intro pins s σ H x y v u Q I rx ry h
 obtain⟨rfl,q⟩:=h
 cases ry
 refine is_none_gen (aP_ I q ?_)
 cases x<;>first
  |(cases rx;rfl)
  |(obtain⟨t,rfl⟩:=rx;rfl)
theorem ax_ (b:Expr) {op:CmpOp} (h:op≠ .In:=by decide) (h2:op≠ .NotIn:=by decide):behindInMarks op b=false:=by
 have e1:(op==CmpOp.In)=false:=by cases op<;>first|rfl|exact absurd rfl h
 have e2:(op==CmpOp.NotIn)=false:=by cases op<;>first|rfl|exact absurd rfl h2
 cases b<;>simp [behindInMarks,e1,e2]
theorem bX_ {op:CmpOp}{r:R2} (ho:OpR X (compareOp op) r) (ha:PE X a ta) (hb:PE X b tb) (hm:behindInMarks op b=false):PE X (.Compare a [op] [b] pos) (tOp r ta tb):=by
 intro pins s σ H Q I h
 exact wpAny_Compare1 (o6_ ha hb I h fun v u s2 x y H2 I2 rx ry q=>ho pins s2 σ H2 x y v u Q I2 rx ry q) hm
def lM_ (t:TE):TT:=fun σ H Q=>t σ H fun x H'=>∃k,x= .bl k∧Q k H'
theorem aq_ {op:CmpOp}{r:R2} (ho:OpR X (compareOp op) r) (ha:PE X a ta) (hb:PE X b tb) (hm:behindInMarks op b=false):PT X (.Compare a [op] [b] pos) (lM_ (tOp r ta tb)):=by
 intro pins s σ H Q I h
 refine wpAny_isTrue_Compare1 (thn (ha pins s σ H _ I h) fun v s1 ⟨x,H1,I1,r1,q1⟩=>thn (hb pins s1 σ H1 _ I1 q1) fun u s2 ⟨y,H2,I2,r2,q2⟩=>
  thn (ho pins s2 σ H2 x y v u _ I2 r1 r2 q2) fun c s3 ⟨z,H3,I3,r3,k,e,q3⟩=> ?_) hm
 subst e
 cases r3
 exact wpAny_truthy_bool ⟨H3,I3,q3⟩
def m6_ (r r':R2) (ta tb tc:TE):TE:=fun σ H Q=>ta σ H fun x H1=>tb σ H1 fun y H2=>r x y H2 fun z H3=>∃k,z= .bl k∧
 (if k=true then tc σ H3 fun w' H4=>r' y w' H4 Q else Q (.bl false) H3)
theorem kS_ {op op':CmpOp}{r r':R2} (ho:OpR X (compareOp op) r) (ho':OpR X (compareOp op') r') (ha:PE X a ta) (hb:PE X b tb) (hc:PE X c tc)
  (hm:lastMarks [op,op'] [b,c]=false:=by with_unfolding_all rfl):PT X (.Compare a [op,op'] [b,c] pos) (lM_ (m6_ r r' ta tb tc)):=by
 intro pins s σ H Q I h
 refine isTrue_chain (thn (ha pins s σ H _ I h) fun v s1 ⟨x,H1,I1,r1,q1⟩=>test_link (thn (hb pins s1 σ H1 _ I1 q1) fun u s2 ⟨y,H2,I2,r2,q2⟩=>
  thn (ho pins s2 σ H2 x y v u _ I2 r1 r2 q2) fun d s3 ⟨z,H3,I3,r3,k,e,q3⟩=> ?_)) hm
 subst e
 cases r3
 refine wpAny_truthy_bool ?_
 cases k with
 |false=>
  obtain⟨k',e',q'⟩:=q3
  cases e'
  exact ite_ff ⟨H3,I3,q'⟩
 |true=>
  refine ite_tt (test_last (thn (hc pins s3 σ H3 _ I3 q3) fun w' s4 ⟨z',H4,I4,r4,q4⟩=>thn (ho' pins s4 σ H4 y z' u w' _ I4 r2 r4 q4) fun d' s5 ⟨z2,H5,I5,r5,k2,e2,q5⟩=> ?_))
  subst e2
  cases r5
  exact wpAny_truthy_bool ⟨H5,I5,q5⟩
def ph_ (K:PySem.W.Frag) (x:V) (H:Hp) (k:Bool):Prop:=
 match x with
 | .non=>k=false
 | .bl b=>k=b
 | .int i=>k=(i !=0)
 | .str y=>y.length≤sizeLine∧k=((y.length:Int) !=0)
 | .byt y=>y.size≤sizeLine∧k=((y.size:Int) !=0)
 | .ref p=>(∃xs,SqL K H p xs∧k= !xs.isEmpty)∨(∃xs,SqT K H p xs∧k= !xs.isEmpty)∨∃kvs,H p=some (.dK kvs)∧k= !kvs.isEmpty
 |_=>False
theorem iZ_ {κ:Type}{kvs:List (κ×V)}{vs:List (κ×Value)} (r:KV kvs vs):(!vs.isEmpty)= !kvs.isEmpty:=by
 cases r<;>rfl
theorem dL_ {xs:List V}{its:List Value} (r:aQ_ xs its):(!its.toArray.isEmpty)= !xs.isEmpty:=by
 cases r<;>simp
theorem ey_:(sizeLine:Nat)<2^63:=by rw [sizeLine_eq];decide
theorem m0_:pI_ X (fun x H Q=>∃k,ph_ X.K x H k∧Q k H):=by
 intro pins s σ H x v Q I rx h
 obtain⟨k,e,q⟩:=h
 have hl:=ey_
 have hs:sizeLine=16777216:=sizeLine_eq
 cases x with
 |non=>
  cases rx
  have e':k=false:=e
  subst e'
  exact truthy_none ⟨H,I,q⟩
 |bl b=>
  cases rx
  have e':k=b:=e
  subst e'
  exact wpAny_truthy_bool ⟨H,I,q⟩
 |int i=>
  obtain⟨t,rfl⟩:=rx
  have e':k=(i !=0):=e
  subst e'
  exact PySem.P.truthy_int ⟨H,I,q⟩
 |str y=>
  obtain⟨t,rfl⟩:=rx
  obtain⟨hy,e'⟩:y.length≤sizeLine∧k=((y.length:Int) !=0):=e
  subst e'
  exact PySem.P.truthy_str (by omega) ⟨H,I.tok _,q⟩
 |byt y=>
  obtain⟨t,rfl⟩:=rx
  obtain⟨hy,e'⟩:y.size≤sizeLine∧k=((y.size:Int) !=0):=e
  subst e'
  exact PySem.W.truthy_bytes (by omega) ⟨H,I.tok _,q⟩
 |ref p=>
  cases rx
  have e':(∃xs,SqL X.K H p xs∧k= !xs.isEmpty)∨(∃xs,SqT X.K H p xs∧k= !xs.isEmpty)∨∃kvs,H p=some (.dK kvs)∧k= !kvs.isEmpty:=e
  rcases e' with⟨xs,hx,e'⟩|⟨xs,hx,e'⟩|⟨kvs,hx,e'⟩
  ·subst e'
   obtain⟨its,r,pl,hz⟩:=I.list hx
   have hlen:=r.length
   exact wpAny_truthy_list pl.isList (by simp only [List.size_toArray];omega) ⟨H,I.tok _,by rw [dL_ r];exact q⟩
  ·subst e'
   obtain⟨its,r,pl,hz⟩:=I.tuple hx
   have hlen:=r.length
   exact truthy_tuple pl (by simp only [List.size_toArray];omega) ⟨H,I.tok _,by rw [dL_ r];exact q⟩
  ·subst e'
   obtain⟨hz,hS,vs,r,m⟩:kvs.length≤sizeLine∧(p==sysModules)=false∧∃vs,KV kvs vs∧s.heap.DictOf (hw_ X.prog X.w) p vs:=I.hok p _ hx
   have hlen:kvs.length=vs.length:=Paired.length r
   exact wpAny_truthy_dict hS m (by omega) ⟨H,I.tok _,by rw [iZ_ r];exact q⟩
 |_=>exact(show False from e).elim
theorem kR_ (ha:PE X a ta) (he:∀whole,isTrue a X.env whole=(do let v←whole;standAt a.pos;holding [v] (truthy v))):
  PT X a (fun σ H Q=>ta σ H fun x H'=>∃k,ph_ X.K x H' k∧Q k H'):=by
 intro pins s σ H Q I h
 exact isTrue_plain (thn (ha pins s σ H _ I h) fun v s1 ⟨x,H1,I1,r1,q1⟩=>m0_ pins s1 σ H1 x v Q I1 r1 q1) (he _)
theorem di_ {x:V}{us:List Value} (r:aQ_ [x] us):∃u,us=[u]∧bf_ x u:=by
 cases r with
 |cons r1 r2=>cases r2;exact⟨_,rfl,r1⟩
theorem oe_ {x y:V}{us:List Value} (r:aQ_ [x,y] us):∃u w',us=[u,w']∧bf_ x u∧bf_ y w':=by
 cases r with
 |cons r1 r2=>
  cases r2 with
  |cons r3 r4=>cases r4;exact⟨_,_,rfl,r1,r3⟩
theorem li_:b7_ X (.builtin "abs") (fun xs H Q=>∃i,xs=[.int i]∧Q (.int (if i<0 then -i else i)) H):=by
 intro pins s σ H xs us Q I r h
 obtain⟨i,rfl,q⟩:=h
 obtain⟨u,rfl,t,rfl⟩:=di_ r
 exact call_abs_int fun u tk=>⟨.int (if i<0 then -i else i),H,I.tok _,⟨_,rfl⟩,q⟩
theorem kp_:b7_ X (.type "int") (fun xs H Q=>(∃i,xs=[.int i]∧Q (.int i) H)∨∃k,xs=[.bl k]∧Q (.int (if k then 1 else 0)) H):=by
 intro pins s σ H xs us Q I r h
 rcases h with⟨i,rfl,q⟩|⟨k,rfl,q⟩
 ·obtain⟨u,rfl,t,rfl⟩:=di_ r
  exact call_int_int ⟨.int i,H,I,⟨_,rfl⟩,q⟩
 ·obtain⟨u,rfl,r1⟩:=di_ r
  cases r1
  exact call_int_bool ⟨.int (if k then 1 else 0),H,I.tok _,⟨_,rfl⟩,q⟩
end
end L2
namespace L2
open PySem PySem.Spec PyProof.Rows
structure ObjM (h:Heap) (x dx C:Addr) (mA:Str→Option Value):Prop where
 obj:h.get? x=some (PySem.W.instObj C dx)
 ns:h.Ns1 dx mA
 ne:dx≠x
theorem jQ_ {h:Heap}{dx:Addr}{mA:Str→Option Value} (n:h.Ns1 dx mA):∃od,h.get? dx=some od∧∀name,PySem.W.lookIn name od=some (mA name):=by
 obtain⟨o,es,ep,ho,hd,hk,_,hm⟩:=n
 refine⟨o,ho,fun name=> ?_⟩
 have e:=hm name
 unfold nsFind findBy at e
 rw [←Array.find?_toList] at e
 unfold PySem.W.lookIn
 rw [hd]
 dsimp only
 split
 ·rename_i y q
  rw [q] at e
  exact congrArg some e
 ·rename_i q
  rw [q] at e
  have a:es.toList.any (·.refKey)=false:=by
   rw [List.any_eq_false]
   intro y hy
   obtain⟨z,t,hkey⟩:=hk y (Array.mem_toList_iff.mp hy)
   simp [DictEntry.refKey,hkey]
  have a':¬es.toList.any (·.refKey)=true:=by rw [a];exact Bool.false_ne_true
  rw [if_neg a']
  exact congrArg some e
theorem ObjM.look {h:Heap}{x dx C:Addr}{mA:Str→Option Value} (I:ObjM h x dx C mA):∃od,PySem.W.InstAt h x (PySem.W.instObj C dx) C (some od)∧∀name,PySem.W.lookIn name od=some (mA name):=
 let ⟨od,ho,hl⟩:=jQ_ I.ns
 ⟨od,⟨I.obj,rfl,rfl,ho⟩,hl⟩
section
variable {prog:Program}{w:World}{A:Around}{E:Value→Shared→Prop}{s:Shared}{K:PySem.W.Frag}{x dx C f:Addr}{mA:Str→Option Value}{name:Str}{v:Value}
end
section
variable {P:Program}{w:World}{H H':Hp}{h h':Heap}{a C dx:Addr}{fs fs':List (Str×V)}
theorem my_ (hok:HOk P w H h) (e:H a=some (.ins C dx fs)):∃mA,ObjM h a dx C mA∧(∀f,mT_ (fs.lookup f) (mA f))∧PySem.Within mA (fs.map (·.1))∧fs.length≤1000∧H dx=some (.own a):=by
 obtain⟨d,z,ne,ob,mA,n,r,q⟩:=(show ba_ P w H h a (.ins C dx fs) from hok a _ e)
 exact⟨mA,⟨ob,n,ne⟩,r,q,z,d⟩
end
structure Cls (K:PySem.W.Frag) (C:Addr):Prop where
 pg:PySem.W.plainGet K C Str.empty=true
 hd:PySem.W.hasDictIn K C=true
 po:PySem.W.plainOver K C=true
 sa:PySem.W.findIn K (.ref C) "__setattr__"=some (some (.builtin "object.__setattr__"))
theorem Cls.get {K:PySem.W.Frag}{C:Addr} (c:Cls K C) (f:Str):PySem.W.plainGet K C f=true:=c.pg
section
variable {X:Cx}{pins:List (Addr×Obj)}{σ:St}{H:Hp}{s:Shared}{a C dx:Addr}{fs:List (Str×V)}{f:Str}{v:V}{A:Around}{E:Value→Shared→Prop}
end
section
variable {X:Cx}{o e value:Expr}{f:Str}{pos pos' tpos:Pos}{ta tv:TE}
end
section
variable {X:Cx}{pins:List (Addr×Obj)}{σ:St}{H:Hp}{s:Shared}{A:Around}{E:Value→Shared→Prop}{Q:Value→Shared→Prop}{c:Value}{b:Bool}
inductive TyOf (K:PySem.W.Frag) (H:Hp):V→Value→Prop where
 |non:TyOf K H .non (.type "NoneType")
 |bl (x:Bool):TyOf K H (.bl x) (.type "bool")
 |int (i:Int):TyOf K H (.int i) (.type "int")
 |str (x:Str):TyOf K H (.str x) (.type "str")
 |flt (x:UInt64):TyOf K H (.flt x) (.type "float")
 |lst {a:Addr}{xs:List V} (e:H a=some (.lst xs)):TyOf K H (.ref a) (.type "list")
 |frz {a:Addr}{o:Obj}{xs:List V} (e:H a=some (.frz o (.lst xs))):TyOf K H (.ref a) (.type "list")
 |tup {a:Addr}{xs:List V} (e:H a=some (.tup xs)):TyOf K H (.ref a) (.type "tuple")
 |dK {a:Addr}{kvs:List (Key×V)} (e:H a=some (.dK kvs)):TyOf K H (.ref a) (.type "dict")
 |dT {a:Addr}{kvs:List (List Key×V)} (e:H a=some (.dT kvs)):TyOf K H (.ref a) (.type "dict")
 |ins {a C dx:Addr}{fs:List (Str×V)} (e:H a=some (.ins C dx fs)) (cl:Cls K C) (ha:PySem.W.findIn K (.ref C) "__class__"=some (some (.builtin "object.__class__")))
   (hn:PySem.W.specialIn K (.builtin "object.__class__") "__get__"=some (some (.builtin "getset_descriptor.__get__"))) (htk:PySem.W.takesIn K (.builtin "object.__class__")=some true)
   (hm:PySem.W.mroIn K C (.type "object")=some true):TyOf K H (.ref a) (.ref C)
theorem j4_ {x:V}{u t:Value} (I:Inv X pins σ H s) (rx:bf_ x u) (ty:TyOf X.K H x t) (e:PySem.W.kitOne X.K t c=some b) (h:∀tk,Q (.bool b) {s with toks:=tk}):
  wpAny (model X.prog X.w) A (call (.builtin "isinstance") [u,c]) Q E s:=by
 cases ty with
 |non=>cases (show u=Value.none from rx);exact PySem.W.kia_one PySem.W.kitx_none I.kIn True.intro e (fun z=>nomatch z) h
 |bl y=>cases (show u=Value.bool y from rx);exact PySem.W.kia_one PySem.W.kitx_bool I.kIn True.intro e (fun z=>nomatch z) h
 |int i=>obtain⟨t,q⟩:=(show∃t,u=Value.int i t from rx);cases q;exact PySem.W.kia_one PySem.W.kitx_int I.kIn True.intro e (fun z=>nomatch z) h
 |str y=>obtain⟨t,q⟩:=(show∃t,u=Value.str y t from rx);cases q;exact PySem.W.kia_one PySem.W.kitx_str I.kIn True.intro e (fun z=>nomatch z) h
 |flt y=>obtain⟨t,q⟩:=(show∃t,u=Value.float y t from rx);cases q;exact PySem.W.kia_one PySem.W.kitx_float I.kIn True.intro e (fun z=>nomatch z) h
 | @lst a xs ea=>
  cases (show u=Value.ref a from rx)
  obtain⟨_,_,n,_,h1⟩:=(show ba_ X.prog X.w H s.heap a (.lst xs) from I.hok a _ ea)
  exact PySem.W.kia_one PySem.W.kitx_list I.kIn ⟨_,h1,rfl⟩ e (fun z=>nomatch z) h
 | @frz a ob xs ea=>
  cases (show u=Value.ref a from rx)
  obtain⟨_,_,_,n,_,h1⟩:=(show ba_ X.prog X.w H s.heap a (.frz ob (.lst xs)) from I.hok a _ ea)
  exact PySem.W.kia_one PySem.W.kitx_list I.kIn ⟨_,h1,rfl⟩ e (fun z=>nomatch z) h
 | @tup a xs ea=>
  cases (show u=Value.ref a from rx)
  obtain⟨_,_,_,p⟩:=(show ba_ X.prog X.w H s.heap a (.tup xs) from I.hok a _ ea)
  obtain⟨o,h1,h2,_⟩:=p
  exact PySem.W.kia_one PySem.W.kitx_tuple I.kIn ⟨o,h1,h2⟩ e (fun z=>nomatch z) h
 | @dK a kvs ea=>
  cases (show u=Value.ref a from rx)
  obtain⟨_,_,vs,_,p⟩:=(show ba_ X.prog X.w H s.heap a (.dK kvs) from I.hok a _ ea)
  obtain⟨o,es,ep,h1,h2,_⟩:=p
  exact PySem.W.kia_one PySem.W.kitx_dict I.kIn ⟨o,h1,h2.1⟩ e (fun z=>nomatch z) h
 | @dT a kvs ea=>
  cases (show u=Value.ref a from rx)
  obtain⟨_,_,xs,_,o,es,ep,h1,h2,_⟩:=(show ba_ X.prog X.w H s.heap a (.dT kvs) from I.hok a _ ea)
  exact PySem.W.kia_one PySem.W.kitx_dict I.kIn ⟨o,h1,h2.1⟩ e (fun z=>nomatch z) h
 | @ins a C dx fs ea cl ha hn htk hm=>
  cases (show u=Value.ref a from rx)
  obtain⟨mA,O,_⟩:=my_ I.hok ea
  obtain⟨od,J,_⟩:=O.look
  exact PySem.W.kia_one (PySem.W.kitx_own (cl.get _) cl.hd ha hn htk hm) I.kIn J e (fun z=>nomatch z) h
end
end L2
namespace L2
open PySem PySem.Spec PyProof.Rows
structure Room (k:Nat) (A:Around):Prop where
 hd:A.handled=none
 dp:A.depth+3*k+5<recursionLimit
 un:A.units+16*k+200<cLine
theorem Room.mono {j k:Nat}{A:Around} (r:Room k A) (h:j≤k):Room j A:=⟨r.hd,by have:=r.dp;omega,by have:=r.un;omega⟩
theorem Room.deeper {k:Nat}{A:Around} (r:Room (k+1) A) (env:Env):Room k (A.deeper env):=
 ⟨r.hd,by have:=r.dp;show A.depth+1+3*k+5<_;omega,by have:=r.un;show A.units+3+16*k+200<_;omega⟩
theorem Room.depth {k:Nat}{A:Around} (r:Room k A):A.depth<recursionLimit:=by have:=r.dp;omega
theorem Room.units {k:Nat}{A:Around} (r:Room k A):A.units+64<cLine:=by have:=r.un;omega
def pp_:TA:=fun _ H Q=>Q [] H
def oq_ (ta:TE) (tr:TA):TA:=fun σ H Q=>ta σ H fun x H1=>tr σ H1 fun xs H2=>Q (x::xs) H2
section
variable {X:Cx}{e:Expr}{es:List Expr}{te:TE}{t:TA}{pos:Pos}
theorem ab_:PA X [] pp_:=fun _ _ _ _ H Q I h=>Calls.spliced_nil ⟨[],H,I, .nil,h⟩
theorem aa_ (ha:PE X e te) (hr:PA X es t) (hs:starEach (e::es) X.env=(false,eval e X.env)::starEach es X.env:=by rfl):PA X (e::es) (oq_ te t):=by
 intro pos pins s σ H Q I h
 rw [hs]
 show wpAny _ _ (spliced ((false,eval e X.env)::backTo pos (starEach es X.env))) _ _ s
 refine Calls.spliced_cons (thn (ha pins s σ H _ I h) fun u s1 ⟨x,H1,I1,r1,q1⟩=> ?_)
 exact thn (hr pos pins s1 σ H1 _ I1 q1) fun us s2 ⟨xs,H2,I2,r2,q2⟩=>⟨x::xs,H2,I2, .cons r1 r2,q2⟩
def pq_ (t:TA):TE:=fun σ H Q=>t σ H fun xs H1=>xs.length≤sizeLine∧∀p,H1 p=none→Q (.ref p) (upd H1 p (.lst xs))
theorem no_ (h:PA X es t):PE X (.List es pos) (pq_ t):=by
 intro pins s σ H Q I hq
 refine wpAny_List_spliced (thn (h pos pins s σ H _ I hq) fun us s1 ⟨xs,H1,I1,r,z,q⟩=>⟨by rw [←r.length];exact z, ?_⟩)
 have hf:H1 s1.heap.objs.size=none:=I1.hok.fresh (Nat.le_refl _)
 refine⟨.ref s1.heap.objs.size,upd H1 s1.heap.objs.size (.lst xs),I1.laid (t':=s1.toks) (fun b u e=>Heap.get?_push_of_some _ e) (Nat.le_refl _) ?_,rfl,q _ hf⟩
 exact⟨z,us,0,r,Heap.get?_push_size _ rfl⟩
end
abbrev Sp:=List V→Hp→VK→XK→Prop
abbrev CXT:=List Env→Hp→Shared→XK→Value→Shared→Prop
structure Env0 (P:Program) (w:World) (K:PySem.W.Frag) (mg:Str→Option Value) (base:Heap) (A:Around) (outer:List Env) (s:Shared) (H:Hp):Prop where
 frames:A.frames=some outer
 mod:Mod K mg base
 bs:∀b o,base.get? b=some o→s.heap.get? b=some o∧H b=none
 bsz:base.objs.size≤s.heap.objs.size
 funs:s.heap.FunFrames base outer
 frf:∀b∈frs outer,H b=none
 hok:HOk P w H s.heap
 bare:AllBare s.gens
def CE (outer:List Env) (P:Program) (w:World) (H:Hp) (s:Shared) (Q:VK) (u:Value) (s':Shared):Prop:=
 ∃v H',s'.os=s.os∧AllBare s'.gens∧Un (frs outer) [] H H' s.heap s'.heap∧HOk P w H' s'.heap∧bf_ v u∧Q v H'
def CR (CX:CXT) (outer:List Env) (P:Program) (w:World) (H:Hp) (s:Shared) (Q:VK) (E:XK) (r:Result) (s':Shared):Prop:=
 match r with
 | .ok (.ret u)=>CE outer P w H s Q u s'
 | .ok _=>False
 | .error e=>CX outer H s E e s'
structure FnOk (P:Program) (w:World) (K:PySem.W.Frag) (mg:Str→Option Value) (base:Heap) (CX:CXT) (k:Nat) (f:Addr) (fd:FuncData) (ps:List Str) (sp:Sp):Prop where
 len:∀vs H Q E,sp vs H Q E→vs.length=ps.length
 run:∀(A:Around) (outer:List Env) (s:Shared) (H:Hp) (args:Args) (us:List Value) (vs:List V) (Q:VK) (E:XK),Room k A→Env0 P w K mg base A outer s H→BindsTo s fd args (ps.zip us)→aQ_ vs us→sp vs H Q E→
  codeAny (model P w) A (.call (.ref f) args) (CR CX outer P w H s Q E) s
section
variable {X:Cx}{pins:List (Addr×Obj)}{σ:St}{H:Hp}{s s':Shared}
theorem Inv.env0 (I:Inv X pins σ H s):Env0 X.prog X.w X.K X.mg X.base X.A X.stack s H:=
 ⟨I.ok.frames,I.ok.mod,I.bs,Nat.le_trans I.ok.bsz I.sz,I.stack,I.stkFree,I.hok,I.bare⟩
theorem Inv.after {Q:VK}{u:Value} (I:Inv X pins σ H s) (h:CE X.stack X.prog X.w H s Q u s'):EP X pins σ Q u s':=by
 obtain⟨v,H',os,bare,un,hok,r,q⟩:=h
 obtain⟨hh,g,d,t,os'⟩:=s'
 obtain rfl:os'=s.os:=os
 exact⟨v,H',I.call (h':=hh) (g':=g) (d':=d) (t':=t) (ch:=[]) un hok bare (fun b z=>absurd z (by simp)),r,q⟩
end
def or_ (sp:Sp) (dvs:List V) (E:XK) (t:TA):TE:=fun σ H Q=>t σ H fun vs H1=>sp (vs++dvs) H1 Q E
def i1_ (K:PySem.W.Frag) (fd:FuncData) (ps:List Str) (ds:List Value):Prop:=
 ∀(s:Shared) (us:List Value),K.In s.heap→(us++ds).length=ps.length→BindsTo s fd ⟨us,[]⟩ (ps.zip (us++ds))
theorem i1_.all {K:PySem.W.Frag}{fd:FuncData}{ps:List Str} (h:∀us:List Value,us.length=ps.length→bindArgs fd ⟨us,[]⟩=pure (ps.zip us)):i1_ K fd ps []:=fun s us _ hl=>by
 rw [List.append_nil] at hl⊢
 exact .of_eq (h us hl)
def kt_ (CX:CXT) (X:Cx) (E:XK):Prop:=∀(pins:List (Addr×Obj)) (σ:St) (H:Hp) (s:Shared) (e:Value) (s':Shared),Inv X pins σ H s→CX X.stack H s E e s'→X.xe e s'
section
variable {X:Cx}{CX:CXT}{k:Nat}{f C:Addr}{fd:FuncData}{ps:List Str}{sp:Sp}{dvs:List V}{ds:List Value}{E:XK}{x m:Str}{p pos apos:Pos}{e o:Expr}{es:List Expr}{ta:TE}{t:TA}
theorem nj_ {pins:List (Addr×Obj)}{σ:St}{H:Hp}{s:Shared}{Q:VK}{us:List Value}{vs:List V} (F:FnOk X.prog X.w X.K X.mg X.base CX k f fd ps sp) (hr:Room k X.A) (hb:i1_ X.K fd ps ds) (hd:aQ_ dvs ds) (hx:kt_ CX X E)
  (I:Inv X pins σ H s) (r:aQ_ vs us) (h:sp (vs++dvs) H Q E):wpAny (model X.prog X.w) X.A (call (.ref f) us) (EP X pins σ Q) X.xe s:=by
 have r2:aQ_ (vs++dvs) (us++ds):=r.append hd
 have hl:(us++ds).length=ps.length:=by rw [←r2.length];exact F.len _ _ _ _ h
 refine wpAny_call (codeAny_mono (F.run X.A X.stack s H ⟨us,[]⟩ (us++ds) (vs++dvs) Q E hr I.env0 (hb s us I.kIn hl) r2 h) fun r s' hq=> ?_)
 cases r with
 |error e=>exact hx pins σ H s e s' I hq
 |ok fl=>
  cases fl with
  |ret u=>exact I.after hq
  |next=>exact False.elim hq
  |brk=>exact False.elim hq
  |cont=>exact False.elim hq
theorem ai_ (F:FnOk X.prog X.w X.K X.mg X.base CX k f fd ps sp) (hr:Room k X.A) (hg:Gl X x) (hm:X.mg x=some (.ref f)) (hk:PySem.W.keepIn X.K (.ref f)=true) (hb:i1_ X.K fd ps ds) (hd:aQ_ dvs ds) (hx:kt_ CX X E)
  (ha:PA X (e::es) t) (hdb:(x==("__debug__":Str))=false:=by decide) (he:starEach (e::es) X.env=(false,eval e X.env)::starEach es X.env:=by rfl) (hpl:(backTo pos (starEach es X.env)).any (·.1)=false:=by rfl):
  PE X (.Call (.Name x p) (e::es) [] pos) (or_ sp dvs E t):=by
 intro pins s σ H Q I h
 refine wpAny_Call_Name_kw (jV_ I hg hm ?_ hdb)
 refine PySem.W.callWith_K (h₀:=X.base) I.ok.mod.kin hk (thn (ha pos pins s σ H _ I h) fun us s1 ⟨vs,H1,I1,r,q⟩=>⟨I1.kIn, ?_⟩) he hpl
 exact nj_ F hr hb hd hx I1 r q
end
section
variable {X:Cx}{CX:CXT}{k:Nat}{f C:Addr}{fd:FuncData}{ps ks:List Str}{sp:Sp}{E:XK}{x m:Str}{p pos apos kpos:Pos}{e o:Expr}{es:List Expr}{kws:List Keyword}{te ta:TE}{t tk:TA}{nm:Option Str}
variable {g:List Value→List Value→List Value}{gV:List V→List V→List V}
end
structure FnScope (N P:List Str) (sc:Scope):Prop where
 kind:sc.kind= .function
 co:sc.isCoroutine=false
 gen:sc.isGenerator=false
 nd:N.Nodup
 pre:N.take P.length=P
 par:∀x∈P,sc.names.lookup x=some .local∨sc.names.lookup x=some .cell
 nofree:∀y∈sc.names,y.2≠ .free
theorem gW_ {kindOf:Str→Option NameKind}{x:Str}:∀{binds:List (Str×Value)}{m:Str→Option Value},(∀v,(x,v)∉binds)→bindL kindOf binds m x=m x
 |[],_,_=>rfl
 |(n,v)::r,m,h=>by
  unfold bindL
  rw [gW_ fun w hw=>h w (List.mem_cons_of_mem _ hw)]
  split
  ·have:x≠n:=by rintro rfl;exact h v List.mem_cons_self
   simp [this]
  ·rfl
theorem gY_ {kindOf:Str→Option NameKind}{x:Str}:∀{binds:List (Str×Value)}{m:Str→Option Value},(∀v,(x,v)∉binds)→bindC kindOf binds m x=m x
 |[],_,_=>rfl
 |(n,v)::r,m,h=>by
  unfold bindC
  rw [gY_ fun w hw=>h w (List.mem_cons_of_mem _ hw)]
  split
  ·rfl
  ·have:x≠n:=by rintro rfl;exact h v List.mem_cons_self
   simp [this]
theorem gX_ {kindOf:Str→Option NameKind}{x:Str}{v:Value}:∀{P:List Str}{vs:List Value}{i:Nat}{m:Str→Option Value},P.Nodup→P[i]? =some x→vs[i]? =some v→kindOf x=some .local→
  bindL kindOf (P.zip vs) m x=some v
 |[],_,_,_,_,h,_,_=>by simp at h
 |_::_,[],_,_,_,_,h,_=>by simp at h
 |p::P,w::vs,0,m,nd,h1,h2,hk=>by
  simp at h1 h2;subst h1;subst h2
  show bindL kindOf ((p,w)::P.zip vs) m p=_
  unfold bindL
  rw [gW_ fun v hv=>(List.nodup_cons.mp nd).1 (List.of_mem_zip hv).1,if_pos hk]
  simp
 |p::P,w::vs,i+1,m,nd,h1,h2,hk=>by
  show bindL kindOf ((p,w)::P.zip vs) m x=_
  unfold bindL
  exact gX_ (i:=i) (List.nodup_cons.mp nd).2 (by simpa using h1) (by simpa using h2) hk
theorem gZ_ {kindOf:Str→Option NameKind}{x:Str}{v:Value}:∀{P:List Str}{vs:List Value}{i:Nat}{m:Str→Option Value},P.Nodup→P[i]? =some x→vs[i]? =some v→kindOf x≠some .local→
  bindC kindOf (P.zip vs) m x=some v
 |[],_,_,_,_,h,_,_=>by simp at h
 |_::_,[],_,_,_,_,h,_=>by simp at h
 |p::P,w::vs,0,m,nd,h1,h2,hk=>by
  simp at h1 h2;subst h1;subst h2
  show bindC kindOf ((p,w)::P.zip vs) m p=_
  unfold bindC
  rw [gY_ fun v hv=>(List.nodup_cons.mp nd).1 (List.of_mem_zip hv).1,if_neg hk]
  simp
 |p::P,w::vs,i+1,m,nd,h1,h2,hk=>by
  show bindC kindOf ((p,w)::P.zip vs) m x=_
  unfold bindC
  exact gZ_ (i:=i) (List.nodup_cons.mp nd).2 (by simpa using h1) (by simpa using h2) hk
def start (N:List Str) (vs:List V):St:=vs.map some++List.replicate (N.length-vs.length) none
def mS_ (CX:CXT) (P:Program) (w:World) (K:PySem.W.Frag) (mg:Str→Option Value) (base:Heap) (N:List Str) (qual:Str) (scope:Scope) (f:Addr) (cd:Value) (A:Around) (outer:List Env) (s:Shared) (H:Hp) (E:XK):Cx where
 prog:=P
 w:=w
 K:=K
 mg:=mg
 base:=base
 A:=A.deeper (envOfC qual scope s.heap.objs.size f cd)
 N:=N
 s₀:=s
 H₀:=H
 env:=envOfC qual scope s.heap.objs.size f cd
 outer:=outer
 stack:=envOfC qual scope s.heap.objs.size f cd::outer
 ex:=[]
 calm:=true
 fn:=fun _=>true
 pn:=[]
 xe:=fun e s'=>wpAny (model P w) (A.deeper (envOfC qual scope s.heap.objs.size f cd)) (leaving (envOfC qual scope s.heap.objs.size f cd) e) (fun _ s''=>CX outer H s E e s'') (fun e' s''=>CX outer H s E e' s'') s'
theorem iE_ {sc:Scope}{n:Nat}{x:Str} (h:sc.names.lookup x=some .cell):∃c,(cellsFrom n sc.names []).lookup x=some c:=by
 have q:=PySem.W.cellsFrom_some sc.names n [] (.inl h)
 exact Option.isSome_iff_exists.mp q
theorem j6_ {CX:CXT}{P:Program}{w:World}{K:PySem.W.Frag}{mg:Str→Option Value}{base:Heap}{N ps:List Str}{qual:Str}{scope:Scope}{f:Addr}{cd:Value}{A:Around}{outer:List Env}{s s1:Shared}{H:Hp}{E:XK}{us:List Value}{vs:List V}
  (S:FnScope N ps scope) (hd:A.handled=none) (e0:Env0 P w K mg base A outer s H) (hl:vs.length=ps.length) (r:aQ_ vs us)
  (x:InCallC s s.heap.objs.size (bindL (envOfC qual scope s.heap.objs.size f cd).kindOf (ps.zip us) fun _=>none) (cellsFrom (s.heap.objs.size+1) scope.names []) (bindC (envOfC qual scope s.heap.objs.size f cd).kindOf (ps.zip us) fun _=>none) s1):
  Inv (mS_ CX P w K mg base N qual scope f cd A outer s H E) [] (start N vs) H s1:=by
 have hpl:ps.length≤N.length:=by have:=congrArg List.length S.pre;rw [List.length_take] at this;omega
 obtain⟨h1,tk,rfl,hk⟩:=x.done
 have noA:∀b:Addr,b∉(mS_ CX P w K mg base N qual scope f cd A outer s H E).ex:=fun b z=>absurd (show b∈([]:List Addr) from z) (by simp)
 refine⟨⟨e0.mod,S.kind,rfl,rfl,Nat.le_refl _,fun y z c h1 h2=> ?_,fun y hy=> ?_,fun y c _ h=> ?_,fun _=>hd,Around.frames_deeper e0.frames, .inr ⟨rfl,rfl⟩,fun b z=>absurd z (noA b),e0.bs,e0.bsz,fun b _ _=>noA b,fun b z=>absurd z (noA b),e0.funs,e0.frf⟩,
  rfl,e0.bare,Un.kept hk,⟨_,x.toInCall.ns,fun i y v h1 h2 h3=> ?_⟩,fun y c h=>⟨_,x.cell y c h⟩,e0.hok.fresh (Nat.le_refl _),fun y c h=> ?_,fun p hp=>absurd (show p∈([]:List (Addr×Obj)) from hp) (by simp),e0.hok.kept hk, ?_⟩
 ·exact name_of_addr x.apart (PySem.mem_of_lookup h1) (PySem.mem_of_lookup h2)
 ·have hy:scope.names.lookup y=some .cell∨scope.names.lookup y=some .free:=hy
  rcases hy with hy|hy
  ·exact iE_ hy
  ·exact absurd rfl (S.nofree _ (PySem.mem_of_lookup hy))
 ·exact Nat.le_of_lt (x.above y c (PySem.mem_of_lookup h))
 ·have hi:i<vs.length:=by
   unfold start at h2
   by_cases hi:i<vs.length
   ·exact hi
   ·rw [List.getElem?_append_right (by simpa using hi)] at h2
    rw [List.getElem?_replicate] at h2
    split at h2<;>cases h2
  have ha:vs[i]? =some v:=by
   unfold start at h2
   rw [List.getElem?_append_left (by simpa using hi),List.getElem?_map] at h2
   cases e:vs[i]? with
   |none=>rw [e] at h2;cases h2
   |some a=>rw [e] at h2;cases h2;rfl
  obtain⟨u,hu,rv⟩:=r.get ha
  have hp:ps[i]? =some y:=by
   rw [←S.pre,List.getElem?_take_of_lt (by omega)];exact h1
  have ndP:ps.Nodup:=by rw [←S.pre];exact S.nd.sublist (List.take_sublist _ _)
  refine⟨u,rv, ?_⟩
  rcases S.par y (List.mem_of_getElem? hp) with k|k
  ·exact .inl ⟨k,gX_ ndP hp hu k⟩
  ·obtain⟨c,e⟩:=iE_ (n:=s.heap.objs.size+1) k
   refine .inr ⟨.inl k,c,e, ?_⟩
   have q:=x.cell y c e
   rw [gZ_ ndP hp hu (by show scope.names.lookup y≠_;rw [k];decide)] at q
   exact q
 ·exact e0.hok.fresh (Nat.le_of_lt (x.above y c (PySem.mem_of_lookup h)))
 ·unfold start
  show _=N.length
  rw [List.length_append,List.length_map,List.length_replicate]
  omega
theorem o5_ {CX:CXT}{P:Program}{w:World}{K:PySem.W.Frag}{mg:Str→Option Value}{base:Heap}{k:Nat}{f:Addr}{name qual:Str}{params:Arguments}{body:List Stmt}{scope:Scope}{dV kV doc pm cdv ct oc:Value}{an od:Option Addr}
  {osl:Array (Option Value)}{N ps:List Str}{sp:Sp} (lk:K.lookup f=some ⟨oc,od, .func (PySem.W.fnOf name qual params body scope dV kV doc pm an cdv ct),osl⟩) (hcd:PySem.W.codeIn K cdv qual=true) (S:FnScope N ps scope)
  (len:∀vs H Q E,sp vs H Q E→vs.length=ps.length)
  (hbody:∀(A:Around) (outer:List Env) (s:Shared) (H:Hp) (vs:List V) (Q:VK) (E:XK),Room k (A.deeper (envOfC qual scope s.heap.objs.size f cdv))→sp vs H Q E→
   ∃t,PSs (mS_ CX P w K mg base N qual scope f cdv A outer s H E) body t∧t {nx:=fun _ H'=>Q .non H',rt:=Q} (start N vs) H):
  FnOk P w K mg base CX (k+1) f (PySem.W.fnOf name qual params body scope dV kV doc pm an cdv ct) ps sp:=by
 refine⟨len,fun A outer s H args us vs Q E hr e0 hb r hsp=> ?_⟩
 have hl:=len _ _ _ _ hsp
 have KX:K.In s.heap:=e0.mod.kin.keeps fun b o e=>(e0.bs b o e).1
 have lim:s.heap.NoLimit:=e0.mod.nolimit.keeps fun b o e=>(e0.bs b o e).1
 have hkind:∀y∈ps.zip us,scope.names.lookup y.1=some .local∨(scope.names.lookup y.1=some .cell∧((cellsFrom (s.heap.objs.size+1) scope.names []).lookup y.1).isSome=true):=fun⟨n,v⟩ hy=>by
  rcases S.par n (List.of_mem_zip hy).1 with q|q
  ·exact .inl q
  ·exact .inr ⟨q,PySem.W.cellsFrom_some _ _ _ (.inl q)⟩
 refine codeAny_call_function hr.depth (KX _ _ lk) rfl S.co S.gen rfl (PySem.W.codeRec_of KX hcd) (hb _ _ _ _ ?_)
 refine wpAny_newFunctionEnv_cells S.kind hkind fun env he s1 x=> ?_
 subst he
 refine⟨lim.keeps x.toInCall.keep,codeAny_func ?_⟩
 obtain⟨t,ht,hq⟩:=hbody A outer s H vs Q E (hr.deeper _) hsp
 have I:Inv (mS_ CX P w K mg base N qual scope f cdv A outer s H E) [] (start N vs) H s1:=j6_ S hr.hd e0 hl r x
 refine wpAny_mono (ht [] s1 (start N vs) H _ I hq) (fun fl s' hs=> ?_) fun e s' hs=>hs
 have fin:∀{σ':St}{H':Hp}{v:V}{u:Value},Inv (mS_ CX P w K mg base N qual scope f cdv A outer s H E) [] σ' H' s'→bf_ v u→Q v H'→CE outer P w H s Q u s':=
  fun{σ' H' v u} J rv q=>⟨v,H',J.os,J.bare,J.base,J.hok,rv,q⟩
 cases fl with
 |ret u=>
  obtain⟨v,σ',H',J,rv,q⟩:=hs
  exact fin J rv q
 |next=>
  obtain⟨σ',H',J,q⟩:=hs
  exact fin (v:=V.non) (u:=Value.none) J rfl q
 |brk=>
  obtain⟨_,_,_,q⟩:=hs
  exact False.elim q
 |cont=>
  obtain⟨_,_,_,q⟩:=hs
  exact False.elim q
end L2
namespace L2
open PySem PySem.Spec PyProof.Rows
section
variable {X:Cx}{x:Str}{p pos:Pos}{e:Expr}{es:List Expr}{t:TA}{id T:String}{r:List V→Hp→VK→Prop}
def tCB (r:List V→Hp→VK→Prop) (t:TA):TE:=fun σ H Q=>t σ H fun vs H1=>r vs H1 Q
theorem av_ (hc:b7_ X (.builtin id) r) (hg:Gl X x) (hm:X.mg x=none) (hv:bootBuiltins x=some (.builtin id)) (ha:PA X (e::es) t) (hn:x≠"__name__":=by decide) (hdb:(x==("__debug__":Str))=false:=by decide)
  (he:starEach (e::es) X.env=(false,eval e X.env)::starEach es X.env:=by rfl) (hpl:(backTo pos (starEach es X.env)).any (·.1)=false:=by rfl):PE X (.Call (.Name x p) (e::es) [] pos) (tCB r t):=by
 intro pins s σ H Q I h
 refine wpAny_Call_Name_kw (ds_ I hg hm hv ?_ hn hdb)
 exact PyProof.Rows.callWith_builtin1 (thn (ha pos pins s σ H _ I h) fun us s1 ⟨vs,H1,I1,r1,q1⟩=>hc pins s1 σ H1 vs us Q I1 r1 q1) he hpl
theorem aR_ (hc:b7_ X (.type T) r) (hg:Gl X x) (hm:X.mg x=none) (hv:bootBuiltins x=some (.type T)) (ha:PA X (e::es) t) (hn:x≠"__name__":=by decide) (hdb:(x==("__debug__":Str))=false:=by decide)
  (he:starEach (e::es) X.env=(false,eval e X.env)::starEach es X.env:=by rfl) (hpl:(backTo pos (starEach es X.env)).any (·.1)=false:=by rfl):PE X (.Call (.Name x p) (e::es) [] pos) (tCB r t):=by
 intro pins s σ H Q I h
 refine wpAny_Call_Name_kw (ds_ I hg hm hv ?_ hn hdb)
 exact PyProof.Rows.callWith_type1 (thn (ha pos pins s σ H _ I h) fun us s1 ⟨vs,H1,I1,r1,q1⟩=>hc pins s1 σ H1 vs us Q I1 r1 q1) he hpl
end
end L2
namespace HT
open PySem PyProof.Rows
section
open PySem.SeqAt
open PySem.AutoSeq1 (wpAny_loadPart')
open PySem.MeetsSeq PySem.MeetsSeq2 PySem.MeetsSeq3
end
section
variable {prog:Program}{w:World}{A:Around}{E:Value→Shared→Prop}{s:Shared}
def sIx (n d:Nat):Option Int→Nat
 |none=>d
 |some v=>if v<0 then(v+(n:Int)).toNat else min v.toNat n
theorem sIx_none (n d:Nat):sIx n d none=d:=rfl
theorem sIx_nat (n d k:Nat):sIx n d (some (k:Int))=min k n:=by
 show(if(k:Int)<0 then((k:Int)+(n:Int)).toNat else min (k:Int).toNat n)=min k n
 rw [if_neg (by omega),Int.toNat_natCast]
end
end HT
namespace L2
open PySem PySem.Spec PyProof.Rows
abbrev TO:=St→Hp→(Option Int→Hp→Prop)→Prop
def PO (X:Cx) (e:Option Expr) (t:TO):Prop:=
 ∀(pins:List (Addr×Obj)) (s:Shared) (σ:St) (H:Hp) (Q:Option Int→Hp→Prop),Inv X pins σ H s→t σ H Q→
  wpAny (model X.prog X.w) X.A (evalPart e X.env) (fun u s'=>∃o H',Inv X pins σ H' s'∧IsPart u o∧Q o H') X.xe s
def lN_:TO:=fun _ H Q=>Q none H
def oj_ (t:TE):TO:=fun σ H Q=>t σ H fun x H1=>∃i,x= .int i∧Q (some i) H1
theorem e6_ {ns:List Int}:∀{us:List Value},aQ_ (ns.map V.int) us→IntsAre us ns:=by
 induction ns with
 |nil=>intro us r;rw [List.map_nil] at r;cases r;exact .nil
 |cons n ns ih=>
  intro us r
  rw [List.map_cons] at r
  cases r with
  |cons r1 r2=>
   obtain⟨t,e⟩:=r1
   subst e
   exact .cons n t (ih r2)
section
variable {X:Cx}{e:Expr}{te:TE}{lo hi:Option Expr}{tl th:TO}{pos p2:Pos}
theorem db_:PO X none lN_:=by
 intro pins s σ H Q I h
 rw [evalPart_none]
 exact wpAny_pure ⟨none,H,I, .none,h⟩
theorem cE_ (h:PE X e te):PO X (some e) (oj_ te):=by
 intro pins s σ H Q I hw
 rw [evalPart_some]
 refine thn (h pins s σ H _ I hw) fun u s1 ⟨x,H1,I1,r1,q1⟩=> ?_
 obtain⟨i,rfl,q⟩:=q1
 obtain⟨t,rfl⟩:=r1
 exact⟨some i,H1,I1, .int i t,q⟩
def SlR (X:Cx) (r:V→Option Int→Option Int→Hp→VK→Prop):Prop:=
 ∀(pins:List (Addr×Obj)) (s:Shared) (σ:St) (H:Hp) (x:V) (v vl vu:Value) (lo hi:Option Int) (sl:Addr) (Q:VK),Inv X pins σ H s→bf_ x v→s.heap.IsSliceOf sl vl vu .none→IsPart vl lo→IsPart vu hi→r x lo hi H Q→
  ∃T id,typeLookup (.type T) "__getitem__"=pure (some (.builtin id))∧s.TypeIs v T∧wpAny (model X.prog X.w) X.A (getItem v (.ref sl)) (EP X pins σ Q) X.xe s
def tSl (r:V→Option Int→Option Int→Hp→VK→Prop) (te:TE) (tl th:TO):TE:=fun σ H Q=>te σ H fun x H1=>tl σ H1 fun l H2=>th σ H2 fun u H3=>r x l u H3 Q
theorem cd_ {r:V→Option Int→Option Int→Hp→VK→Prop} (hr:SlR X r) (he:PE X e te) (hl:PO X lo tl) (hu:PO X hi th):PE X (.Subscript e (.Slice lo hi none p2) pos) (tSl r te tl th):=by
 intro pins s σ H Q I h
 refine Subscript_ (thn (he pins s σ H _ I h) fun v s1 ⟨x,H1,I1,r1,q1⟩=> ?_)
 refine wpAny_Slice (thn (hl pins s1 σ H1 _ I1 q1) fun vl s2 ⟨l,H2,I2,pl,q2⟩=>thn (hu pins s2 σ H2 _ I2 q2) fun vu s3 ⟨u,H3,I3,pu,q3⟩=> ?_)
 rw [evalPart_none]
 refine wpAny_pure ?_
 have I4:Inv X pins σ H3 {s3 with heap:=s3.heap.push {cls:= .type "slice",data:= .fields #[vl,vu, .none]}}:=I3.kept (t':=s3.toks) fun b ob q=>Heap.get?_push_of_some _ q
 obtain⟨T,id,hT,ht,hg⟩:=hr pins {s3 with heap:=s3.heap.push {cls:= .type "slice",data:= .fields #[vl,vu, .none]}} σ H3 x v vl vu l u s3.heap.objs.size Q I4 r1 (Heap.IsSliceOf.new ..) pl pu q3
 show wpAny (model X.prog X.w) X.A (subscriptTail e (.Slice lo hi none p2) v (.ref s3.heap.objs.size)) (EP X pins σ Q) X.xe {s3 with heap:=s3.heap.push {cls:= .type "slice",data:= .fields #[vl,vu, .none]}}
 exact tail_any (ops:=[.ref s3.heap.objs.size,v]) ht hT hg (by with_unfolding_all rfl)
def kn_ (xs:List V) (lo hi:Option Int):List V:=(xs.drop (HT.sIx xs.length 0 lo)).take (HT.sIx xs.length xs.length hi-HT.sIx xs.length 0 lo)
theorem hL_ (xs:List V) (lo hi:Option Int):(kn_ xs lo hi).length≤xs.length:=by
 unfold kn_
 rw [List.length_take,List.length_drop]
 omega
end
end L2
namespace L2
open PySem PySem.Spec PyProof.Rows
def ixN (n:Nat) (i:Int):Option Nat:=if 0≤i then(if i<n then some i.toNat else none) else if -(n:Int)≤i then some (i+n).toNat else none
def atI {α:Type} (xs:List α) (i:Int):Option α:=(ixN xs.length i).bind fun j=>xs[j]?
theorem j1_ {n:Nat}{i:Int}{j:Nat} (h:ixN n i=some j):seqIndex? i n=some j∧j<n∧-(n:Int)≤i∧i<n:=by
 unfold ixN at h
 by_cases h0:0≤i
 ·rw [if_pos h0] at h
  by_cases h1:i<n
  ·rw [if_pos h1] at h
   have e:i.toNat=j:=Option.some.inj h
   exact⟨by rw [seqIndex_of h0 h1,e],by omega,by omega,h1⟩
  ·rw [if_neg h1] at h;cases h
 ·rw [if_neg h0] at h
  by_cases h1: -(n:Int)≤i
  ·rw [if_pos h1] at h
   have e:(i+n).toNat=j:=Option.some.inj h
   exact⟨by rw [seqIndex_neg (by omega) h1,e],by omega,h1,by omega⟩
  ·rw [if_neg h1] at h;cases h
theorem ks_ {α:Type}{xs:List α}{i:Int}{v:α} (h:atI xs i=some v):∃j,seqIndex? i xs.length=some j∧xs[j]? =some v∧j<xs.length∧-(xs.length:Int)≤i∧i<xs.length:=by
 unfold atI at h
 cases e:ixN xs.length i with
 |none=>rw [e] at h;cases h
 |some j=>
  rw [e] at h
  obtain⟨h1,h2,h3,h4⟩:=j1_ e
  exact⟨j,h1,h,h2,h3,h4⟩
theorem b0_ {α:Type}{xs:List α}{j:Nat}{v:α} (h:xs[j]? =some v):atI xs (j:Int)=some v:=by
 have hj:j<xs.length:=(List.getElem?_eq_some_iff.mp h).1
 have e:ixN xs.length (j:Int)=some j:=by
  unfold ixN
  rw [if_pos (by omega),if_pos (by omega)];simp
 unfold atI;rw [e];exact h
def mM_ (b:Expr):Prop:=∀o i,subscripted b false o i=operate [o,i] (getItem o i)
def IxR (X:Cx) (r:R2):Prop:=
 ∀(value slice:Expr) (pins:List (Addr×Obj)) (s:Shared) (σ:St) (H:Hp) (x y:V) (v u:Value) (Q:VK),Inv X pins σ H s→bf_ x v→bf_ y u→r x y H Q→
  subscripted slice false v u=operate [v,u] (getItem v u)→wpAny (model X.prog X.w) X.A (subscriptTail value slice v u) (EP X pins σ Q) X.xe s
def MtR (X:Cx) (id:String) (r:V→List V→Hp→VK→Prop):Prop:=
 ∀(pins:List (Addr×Obj)) (s:Shared) (σ:St) (H:Hp) (x:V) (xs:List V) (v:Value) (us:List Value) (Q:VK),Inv X pins σ H s→bf_ x v→aQ_ xs us→r x xs H Q→
  wpAny (model X.prog X.w) X.A (call (.builtin id) (v::us)) (EP X pins σ Q) X.xe s
section
variable {X:Cx}{a b:Expr}{ta tb:TE}{pos:Pos}
theorem aK_ {r:R2} (hr:IxR X r) (ha:PE X a ta) (hb:PE X b tb) (hs:mM_ b):PE X (.Subscript a b pos) (tOp r ta tb):=by
 intro pins s σ H Q I h
 exact Subscript_ (o6_ ha hb I h fun v u s2 x y H2 I2 rx ry q=>hr a b pins s2 σ H2 x y v u Q I2 rx ry q (hs _ _))
def pz_ (K:PySem.W.Frag):R2:=fun x y H Q=>∃p xs i v,x= .ref p∧y= .int i∧SqL K H p xs∧atI xs i=some v∧Q v H
def py_ (K:PySem.W.Frag):R2:=fun x y H Q=>∃p xs i v,x= .ref p∧y= .int i∧SqT K H p xs∧atI xs i=some v∧Q v H
theorem a9_:IxR X (pz_ X.K):=by
 intro value slice pins s σ H x y v u Q I rx ry h hs
 obtain⟨p,xs,i,z,rfl,rfl,hq,he,q⟩:=h
 cases rx
 obtain⟨t,rfl⟩:=ry
 obtain⟨its,r,pl,hz⟩:=I.list hq
 obtain⟨j,h1,h2,h3,h4,h5⟩:=ks_ he
 obtain⟨w,ew,rw'⟩:=r.get h2
 have hl:=r.length
 have hn:=ey_
 have fin:EP X pins σ Q w s:=⟨z,H,I,rw',q⟩
 by_cases h0:0≤i
 ·have hj:i.toNat=j:=by
   rw [seqIndex_of h0 h5] at h1
   exact Option.some.inj h1
  exact item_listR pl.isList h0 (by omega) (by rw [hj];simpa using ew) fin hs
 ·have hj:(i+(its.toArray.size:Int)).toNat=j:=by
   rw [seqIndex_neg (by omega) h4] at h1
   rw [List.size_toArray,←hl]
   exact Option.some.inj h1
  exact subscriptTail_builtinR (x:=w) pl.isList.typeIs slot_list_getitem.lookup
   (wpAny_getItem_list_neg (Q:=fun r s'=>r=w∧EP X pins σ Q r s') pl.isList (by omega) (by rw [List.size_toArray]<;>omega) (by omega) (by rw [hj];simpa using ew) ⟨rfl,fin⟩) hs
theorem nM_:IxR X (py_ X.K):=by
 intro value slice pins s σ H x y v u Q I rx ry h hs
 obtain⟨p,xs,i,z,rfl,rfl,hq,he,q⟩:=h
 cases rx
 obtain⟨t,rfl⟩:=ry
 obtain⟨its,r,pl,hz⟩:=I.tuple hq
 obtain⟨j,h1,h2,h3,h4,h5⟩:=ks_ he
 obtain⟨w,ew,rw'⟩:=r.get h2
 have hl:=r.length
 have hn:=ey_
 have fin:EP X pins σ Q w s:=⟨z,H,I,rw',q⟩
 exact subscriptTail_builtinR (x:=w) pl.typeIs slot_tuple_getitem.lookup
  (getItem_tuple (j:=j) (Q:=fun r s'=>r=w∧EP X pins σ Q r s') pl (by omega) (by omega) (by rw [List.size_toArray,←hl];exact h1) (by simpa using ew) ⟨rfl,fin⟩) hs
theorem iU_ (its:List Value) (n j:Nat) (u:Value):Obj.mapSeq (·.setIfInBounds j u) {cls:= .type "list",data:= .seq its.toArray n}={cls:= .type "list",data:= .seq (its.set j u).toArray n}:=by
 simp [Obj.mapSeq]
theorem Inv.lst {pins:List (Addr×Obj)}{σ:St}{H:Hp}{s:Shared}{p:Addr}{xs:List V} (I:Inv X pins σ H s) (h:H p=some (.lst xs)):
  ∃(its:List Value) (n:Nat),aQ_ xs its∧s.heap.get? p=some {cls:= .type "list",data:= .seq its.toArray n}∧xs.length≤sizeLine:=by
 obtain⟨z,its,n,r,e⟩:=I.hok p _ h
 exact⟨its,n,r,e,z⟩
theorem Inv.lstUpd {pins:List (Addr×Obj)}{σ:St}{H:Hp}{s:Shared}{p:Addr}{xs ys:List V}{its its':List Value}{n n':Nat}{f:Obj→Obj} (I:Inv X pins σ H s) (h:H p=some (.lst xs))
  (ho:s.heap.get? p=some {cls:= .type "list",data:= .seq its.toArray n}) (hf:f {cls:= .type "list",data:= .seq its.toArray n}={cls:= .type "list",data:= .seq its'.toArray n'}) (r:aQ_ ys its') (hz:ys.length≤sizeLine) (t:Nat):
  Inv X pins σ (upd H p (.lst ys)) {s with heap:=s.heap.update p f,toks:=t}:=by
 have e:(s.heap.update p f).get? p=some {cls:= .type "list",data:= .seq its'.toArray n'}:=by
  rw [Heap.get?_update_self f ho (by rw [hf]<;>rfl),hf]
 refine I.write (x:=p) (e:=p) (by rw [h];trivial) (.inl rfl) (fun b u hb q=>(Heap.get?_update_other _ _ (Ne.symm hb)).trans q) ⟨_,e⟩ ?_
 exact⟨hz,its',n',r,e⟩
def oP_:V→V→V→Hp→(Hp→Prop)→Prop:=fun o i v H Q=>∃p xs k j,o= .ref p∧i= .int k∧H p=some (.lst xs)∧ixN xs.length k=some j∧Q (upd H p (.lst (xs.set j v)))
theorem bh_:o8_ X oP_:=by
 intro pins s σ H o i v ov iv u Q I ro ri rv h
 obtain⟨p,xs,k,j,rfl,rfl,hp,hj,q⟩:=h
 cases ro
 obtain⟨t,rfl⟩:=ri
 obtain⟨its,n,r,ho,hz⟩:=I.lst hp
 obtain⟨h1,h2,h3,h4⟩:=j1_ hj
 have hl:=r.length
 have hn:=ey_
 have I':Inv X pins σ (upd H p (.lst (xs.set j v))) {s with heap:=s.heap.update p (Obj.mapSeq (·.setIfInBounds j u))}:=
  I.lstUpd hp ho (iU_ its n j u) (r.set rv j) (by rw [List.length_set];exact hz) s.toks
 by_cases h0:0≤k
 ·have hk:k.toNat=j:=by
   rw [seqIndex_of h0 h4] at h1
   exact Option.some.inj h1
  exact PySem.W.ki_setAt ho h0 (by omega) (by rw [List.size_toArray,←hl];exact h4) (by rw [hk];exact⟨_,I',q⟩)
 ·have hk:(k+(its.toArray.size:Int)).toNat=j:=by
   rw [seqIndex_neg (by omega) h3] at h1
   rw [List.size_toArray,←hl]
   exact Option.some.inj h1
  exact PySem.W.ki_setBack ho (by omega) (by rw [List.size_toArray,←hl];exact h3) (by omega) (by rw [hk];exact⟨_,I',q⟩)
theorem gf_ (lo hi:Option Int) (n:Nat):(sliceBounds lo hi none n).1=((HT.sIx n 0 lo:Nat):Int)∧(sliceBounds lo hi none n).2.1=((HT.sIx n n hi:Nat):Int)∧(sliceBounds lo hi none n).2.2=1:=by
 refine⟨?_, ?_,rfl⟩
 ·cases lo with
  |none=>simp [sliceBounds,HT.sIx]
  |some i=>
   simp only [sliceBounds,HT.sIx,Option.getD_none,show(1:Int)>0 by decide,if_true]
   by_cases h:i<0
   ·simp only [h,if_true]<;>omega
   ·simp only [h,if_false]<;>omega
 ·cases hi with
  |none=>simp [sliceBounds,HT.sIx]
  |some i=>
   simp only [sliceBounds,HT.sIx,Option.getD_none,show(1:Int)>0 by decide,if_true]
   by_cases h:i<0
   ·simp only [h,if_true]<;>omega
   ·simp only [h,if_false]<;>omega
theorem fh_ (its:List Value) (lo hi:Option Int):slicePick its.toArray lo hi none=((its.drop (HT.sIx its.length 0 lo)).take (HT.sIx its.length its.length hi-HT.sIx its.length 0 lo)).toArray:=by
 obtain⟨h1,h2,h3⟩:=gf_ lo hi its.toArray.size
 unfold slicePick
 rw [h1,h2,h3]
 simp only [sliceRange_one,pick_run,List.size_toArray]<;>rfl
def pw_ (K:PySem.W.Frag):V→Option Int→Option Int→Hp→VK→Prop:=fun x lo hi H Q=>∃a xs,x= .ref a∧SqL K H a xs∧∀p,H p=none→Q (.ref p) (upd H p (.lst (kn_ xs lo hi)))
theorem c6_:SlR X (pw_ X.K):=by
 intro pins s σ H x v vl vu lo hi sl Q I rx hs pl pu h
 obtain⟨a,xs,rfl,hx,q⟩:=h
 cases rx
 obtain⟨its,r,ht,hz⟩:=I.list hx
 have hlen:=r.length
 refine⟨"list",_,slot_list_getitem.lookup,ht.isList.typeIs, ?_⟩
 refine wpAny_getItem_list_slice ht.isList hs pl pu .none (by simp) ?_ (by rw [List.size_toArray]<;>omega)
 rw [fh_,←hlen]
 refine⟨.ref s.heap.objs.size,_,I.laid (t':=s.toks) (o:= .lst (kn_ xs lo hi)) (fun b ob q=>Heap.get?_push_of_some _ q) (Nat.le_refl _) ?_,rfl,q _ (I.hok.fresh (Nat.le_refl _))⟩
 exact⟨Nat.le_trans (hL_ xs lo hi) hz,_,0,(r.drop (HT.sIx xs.length 0 lo)).take (HT.sIx xs.length xs.length hi-HT.sIx xs.length 0 lo),Heap.get?_push_size _ rfl⟩
theorem bA_:b7_ X (.builtin "len") (fun xs H Q=>∃p ys,xs=[.ref p]∧(SqL X.K H p ys∨SqT X.K H p ys)∧Q (.int ys.length) H):=by
 intro pins s σ H xs us Q I r h
 obtain⟨p,ys,rfl,hq,q⟩:=h
 obtain⟨u,rfl,rx⟩:=di_ r
 cases rx
 have hn:=ey_
 rcases hq with hq|hq
 ·obtain⟨its,r',pl,hz⟩:=I.list hq
  have hlen:=r'.length
  exact Calls.call_len_list pl.isList (by simp only [List.size_toArray]<;>omega) ⟨.int ys.length,H,I.tok _,⟨s.toks+1,by rw [List.size_toArray,hlen]⟩,q⟩
 ·obtain⟨its,r',pl,hz⟩:=I.tuple hq
  have hlen:=r'.length
  exact len_tuple pl (by simp only [List.size_toArray]<;>omega) ⟨.int ys.length,H,I.tok _,⟨s.toks+1,by rw [List.size_toArray,hlen]⟩,q⟩
theorem gV_:b7_ X (.type "list") (fun xs H Q=>∃p ys,xs=[.ref p]∧(SqL X.K H p ys∨SqT X.K H p ys)∧∀l,H l=none→Q (.ref l) (upd H l (.lst ys))):=by
 intro pins s σ H xs us Q I r h
 obtain⟨p,ys,rfl,hq,q⟩:=h
 obtain⟨u,rfl,rx⟩:=di_ r
 cases rx
 have fin:∀(its:List Value),aQ_ ys its→ys.length≤sizeLine→∀(h':Heap) (c':Nat),(∀b o',s.heap.get? b=some o'→h'.get? b=some o')→
   h'.get? s.heap.objs.size=some {cls:= .type "list",dict:=none,data:= .seq its.toArray c',slots:= #[]}→EP X pins σ Q (.ref s.heap.objs.size) {s with heap:=h'}:=fun its r' hz h' c' kp e=>
  ⟨.ref s.heap.objs.size,_,I.laid (t':=s.toks) kp (Nat.le_refl _) (show ba_ X.prog X.w _ h' _ (.lst ys) from⟨hz,its,c',r',e⟩),rfl,q _ (I.hok.fresh (Nat.le_refl _))⟩
 rcases hq with hq|hq
 ·obtain⟨its,r',pl,hz⟩:=I.list hq
  have hlen:=r'.length
  obtain⟨o,ho,hc,n,hd⟩:=pl.isList
  exact call_list_seq p (.inl rfl) ho hc hd (fun h' c' kp e=>fin its r' hz h' c' kp e) (by simp only [List.size_toArray]<;>omega)
 ·obtain⟨its,r',pl,hz⟩:=I.tuple hq
  have hlen:=r'.length
  obtain⟨o,ho,hc,n,hd⟩:=pl
  exact call_list_seq p (.inr rfl) ho hc hd (fun h' c' kp e=>fin its r' hz h' c' kp e) (by simp only [List.size_toArray]<;>omega)
theorem f7_:b7_ X (.type "tuple") (fun xs H Q=>∃p ys,xs=[.ref p]∧((SqL X.K H p ys∧∀l,H l=none→Q (.ref l) (upd H l (.tup ys)))∨(SqT X.K H p ys∧Q (.ref p) H))):=by
 intro pins s σ H xs us Q I r h
 obtain⟨p,ys,rfl,h⟩:=h
 obtain⟨u,rfl,rx⟩:=di_ r
 cases rx
 rcases h with⟨hq,q⟩|⟨hq,q⟩
 ·obtain⟨its,r',pl,hz⟩:=I.list hq
  have hlen:=r'.length
  refine call_tuple_list pl.isList (fun h' kp=> ?_) (by simp only [List.size_toArray]<;>omega)
  have I1:Inv X pins σ H {s with heap:=h'}:=I.kept (t':=s.toks) kp
  have I2:Inv X pins σ (upd H h'.objs.size (.tup ys)) {s with heap:=h'.push {cls:= .type "tuple",data:= .seq its.toArray}}:=
   I1.laid (t':=s.toks) (fun b o e=>Heap.get?_push_of_some _ e) (Nat.le_refl _) (show ba_ X.prog X.w _ _ _ (.tup ys) from⟨hz,its,r',IsTup.new _ _⟩)
  exact⟨.ref h'.objs.size,_,I2,rfl,q _ (I1.hok.fresh (Nat.le_refl _))⟩
 ·obtain⟨its,r',pl,hz⟩:=I.tuple hq
  exact call_tuple_same pl ⟨.ref p,H,I,rfl,q⟩
def tyV (K:PySem.W.Frag) (T:String) (x:V) (H:Hp):Prop:=match x with
 | .str _=>T="str"
 | .int _=>T="int"
 | .ref p=>(T="list"∧∃xs,SqL K H p xs)∨(T="tuple"∧∃o,K.lookup p=some o∧o.cls= .type "tuple"∧o.dict=none)∨
   (T="dict"∧((∃kvs,H p=some (.dK kvs))∨∃kvs,H p=some (.dT kvs)))∨(T="set"∧∃S n,H p=some (.set S n))
 |_=>False
theorem ll_ {pins:List (Addr×Obj)}{σ:St}{H:Hp}{s:Shared}{T:String}{x:V}{v:Value} (I:Inv X pins σ H s) (r:bf_ x v) (ty:tyV X.K T x H):
  s.TypeIs v T∧∀a,v= .ref a→∃ob,s.heap.get? a=some ob∧ob.dict=none:=by
 cases x with
 |str z=>
  obtain⟨t,rfl⟩:=r
  cases (show T="str" from ty)
  exact⟨typeIs_str s z t,fun _ e=>nomatch e⟩
 |int i=>
  obtain⟨t,rfl⟩:=r
  cases (show T="int" from ty)
  exact⟨typeIs_int s i t,fun _ e=>nomatch e⟩
 |ref p=>
  cases r
  rcases ty with⟨rfl,xs,hq⟩|⟨rfl,o,hk,hc,hd⟩|⟨rfl,hk⟩|⟨rfl,S,n,hk⟩
  ·obtain⟨its,_,pl,_⟩:=I.list hq
   refine⟨pl.isList.typeIs,fun a e=> ?_⟩
   cases e
   obtain⟨o,n,e,c,hd,_⟩:=pl
   exact⟨o,e,hd⟩
  ·refine⟨⟨o,I.kIn p o hk,hc⟩,fun a e=> ?_⟩
   cases e
   exact⟨o,I.kIn _ o hk,hd⟩
  ·have z:∃o,s.heap.get? p=some o∧o.ExactDict:=by
    rcases hk with⟨kvs,hk⟩|⟨kvs,hk⟩
    ·obtain⟨_,_,_,_,o,_,_,e,ex,_⟩:=I.hok p _ hk
     exact⟨o,e,ex⟩
    ·obtain⟨_,_,_,_,o,_,_,e,ex,_⟩:=I.hok p _ hk
     exact⟨o,e,ex⟩
   obtain⟨o,e,ex⟩:=z
   refine⟨⟨o,e,ex.1⟩,fun a e2=> ?_⟩
   cases e2
   exact⟨o,e,ex.2.1⟩
  ·obtain⟨o,_,_,_,e,ex,_⟩:=I.hok p _ hk
   refine⟨⟨o,e,ex.1⟩,fun a e2=> ?_⟩
   cases e2
   exact⟨o,e,ex.2.1⟩
 |_=>exact False.elim ty
def pt_ (K:PySem.W.Frag) (T:String) (r:V→List V→Hp→VK→Prop) (to:TE):TE:=fun σ H Q=>to σ H fun x H1=>tyV K T x H1∧r x [] H1 Q
def tBM (K:PySem.W.Frag) (T:String) (r:V→List V→Hp→VK→Prop) (to:TE) (t:TA):TE:=fun σ H Q=>to σ H fun x H1=>tyV K T x H1∧t σ H1 fun xs H2=>r x xs H2 Q
variable {o e:Expr}{es:List Expr}{to:TE}{t:TA}{name:Str}{apos cpos:Pos}{T id:String}{r:V→List V→Hp→VK→Prop}
theorem np_ (pa:PlainAttrs T) (slot:Slot T name id) (hty:typeOf (.builtin id)=pure (.type "method_descriptor")) (hm:MtR X id r) (ho:PE X o to)
  (hbase:attributeBase o name X.env (eval o X.env)=eval o X.env:=by rfl) (hline:(apos.endLine==cpos.line)=true:=by rfl):PE X (.Call (.Attribute o name apos) [] [] cpos) (pt_ X.K T r to):=by
 intro pins s σ H Q I h
 refine wpAny_Call_method0_late hbase hline (thn (ho pins s σ H _ I h) fun v s1 ⟨x,H1,I1,r1,ty,q1⟩=> ?_)
 obtain⟨h1,h2⟩:=ll_ I1 r1 ty
 exact⟨T,id,pa,slot,hty,h1,h2,Calls.callWith_builtin rfl (PySem.evalArgs_none (hm pins s1 σ H1 x [] v [] Q I1 r1 .nil q1))⟩
theorem dE_ (pa:PlainAttrs T) (slot:Slot T name id) (hty:typeOf (.builtin id)=pure (.type "method_descriptor")) (hm:MtR X id r) (ho:PE X o to) (ha:PA X (e::es) t)
  (hbase:attributeBase o name X.env (eval o X.env)=eval o X.env:=by rfl)
  (hfew:((backTo cpos (starEach (e::es) X.env)).all (fun x=> !x.1)&&(backToKw cpos (keywordEach [] X.env)).all (fun x=>x.1.isSome)
   &&decide ((e::es).length+([]:List Keyword).length+(if([]:List Keyword).isEmpty then 0 else 1)<30))=true:=by rfl)
  (hline:(apos.endLine==cpos.line)=true:=by rfl) (hs:starEach (e::es) X.env=(false,eval e X.env)::starEach es X.env:=by rfl) (hplain:(backTo cpos (starEach es X.env)).any (·.1)=false:=by rfl):
  PE X (.Call (.Attribute o name apos) (e::es) [] cpos) (tBM X.K T r to t):=by
 intro pins s σ H Q I h
 refine wpAny_Call_method_late hbase hfew hline rfl (thn (ho pins s σ H _ I h) fun v s1 ⟨x,H1,I1,r1,ty,q1⟩=> ?_)
 obtain⟨h1,h2⟩:=ll_ I1 r1 ty
 refine⟨T,id,pa,slot,hty,h1,h2, ?_⟩
 have hA:=ha cpos pins s1 σ H1 _ I1 q1
 rw [hs] at hA⊢
 refine Calls.callWith_builtin (by show(false||(backTo cpos (starEach es X.env)).any (·.1))=false;rw [hplain]<;>rfl) (Calls.evalArgs_plain ?_)
 exact thn hA fun us s2 ⟨vs,H2,I2,r2,q2⟩=>hm pins s2 σ H2 x vs v us Q I2 r1 r2 q2
end
end L2
namespace L2
open PySem PySem.Spec PyProof.Rows
def MtM (X:Cx) (id:String) (r:V→List V→Hp→VK→Prop):Prop:=
 ∀(pins:List (Addr×Obj)) (s:Shared) (σ:St) (H:Hp) (x:V) (xs:List V) (v:Value) (us:List Value) (Q:VK),Inv X pins σ H s→bf_ x v→aQ_ xs us→r x xs H Q→
  wpAny (model X.prog X.w) X.A (call (.builtin id) (v::us)) (EP X pins σ Q) X.xe s
theorem aQ_.one:∀{x:V}{us:List Value},aQ_ [x] us→∃u,us=[u]∧bf_ x u
 |_,_, .cons r .nil=>⟨_,rfl,r⟩
theorem aQ_.two:∀{x y:V}{us:List Value},aQ_ [x,y] us→∃u v,us=[u,v]∧bf_ x u∧bf_ y v
 |_,_,_, .cons r (.cons q .nil)=>⟨_,_,rfl,r,q⟩
theorem aQ_.zero:∀{us:List Value},aQ_ [] us→us=[]
 |_, .nil=>rfl
theorem aQ_.eraseIdx:∀{xs:List V}{us:List Value} (i:Nat),aQ_ xs us→aQ_ (xs.eraseIdx i) (us.eraseIdx i)
 |_,_,_, .nil=> .nil
 |_,_,0, .cons _ t=>t
 |_,_,i+1, .cons r t=> .cons r (aQ_.eraseIdx i t)
theorem aQ_.reverse {xs:List V}{us:List Value} (h:aQ_ xs us):aQ_ xs.reverse us.reverse:=by
 induction h with
 |nil=>exact .nil
 |cons r t ih=>rw [List.reverse_cons,List.reverse_cons];exact aQ_.append ih (.cons r .nil)
theorem aQ_.rep {xs:List V}{us:List Value} (h:aQ_ xs us):∀k:Nat,aQ_ (List.replicate k xs).flatten (List.replicate k us).flatten
 |0=> .nil
 |k+1=>by
  rw [List.replicate_succ,List.replicate_succ,List.flatten_cons,List.flatten_cons]
  exact aQ_.append h (aQ_.rep h k)
theorem gD_ {α:Type}:∀(l:List α) (i:Nat),(l.eraseIdx i).length≤l.length
 |[],_=>Nat.le_refl _
 |_::_,0=>Nat.le_succ _
 |_::r,i+1=>Nat.succ_le_succ (gD_ r i)
theorem gM_ (its:List Value):∀(k:Nat) (acc:List Value),
  List.foldl (fun x1 x2=>x1++x2) acc.toArray (List.replicate k its.toArray)=(acc++(List.replicate k its).flatten).toArray
 |0,acc=>by simp
 |k+1,acc=>by
  have e:acc.toArray++its.toArray=(acc++its).toArray:=by simp
  have e2:(acc++its)++(List.replicate k its).flatten=acc++(List.replicate (k+1) its).flatten:=by
   rw [List.replicate_succ,List.flatten_cons,List.append_assoc]
  rw [←e2,←gM_ its k (acc++its),←e,List.replicate_succ,List.foldl_cons]
section
variable {X:Cx}{pins:List (Addr×Obj)}{σ:St}{H:Hp}{s:Shared}{l b:Addr}{xs ys zs:List V}
theorem Inv.lset {its its':List Value}{n:Nat}{f:Array Value→Array Value}{t':Nat} (I:Inv X pins σ H s) (hH:H l=some (.lst xs))
  (e:s.heap.get? l=some {cls:= .type "list",data:= .seq its.toArray n}) (hf:f its.toArray=its'.toArray) (hv:aQ_ ys its') (hz:ys.length≤sizeLine):
  Inv X pins σ (upd H l (.lst ys)) {s with heap:=s.heap.update l (Obj.mapSeq f),toks:=t'}:=by
 have q:=PySem.IsL.update e f
 rw [hf] at q
 refine I.write (x:=l) (e:=l) (by rw [hH];exact trivial) (.inl rfl) (fun b' u hb hu=>(Heap.get?_update_other s.heap (Obj.mapSeq f) (Ne.symm hb)).trans hu) ⟨_,q⟩ ?_
 exact⟨hz,its',_,hv,q⟩
theorem Inv.lnew {its:List Value}{t':Nat} (I:Inv X pins σ H s) (hv:aQ_ ys its) (hz:ys.length≤sizeLine):
  Inv X pins σ (upd H s.heap.objs.size (.lst ys)) {s with heap:=s.heap.push {cls:= .type "list",data:= .seq its.toArray},toks:=t'}:=
 I.laid (fun _ _ q=>Heap.get?_push_of_some _ q) (Nat.le_refl _) ⟨hz,its,0,hv,Heap.get?_push_size _ rfl⟩
theorem Inv.fresh (I:Inv X pins σ H s):H s.heap.objs.size=none:=I.hok.fresh (Nat.le_refl _)
theorem Inv.lstM (I:Inv X pins σ H s) (hH:H l=some (.lst xs)):xs.length≤sizeLine∧∃(its:List Value) (n:Nat),aQ_ xs its∧xs.length=its.length∧s.heap.get? l=some {cls:= .type "list",data:= .seq its.toArray n}:=by
 obtain⟨z,its,n,r,e⟩:=I.hok l _ hH
 exact⟨z,its,n,r,r.length,e⟩
theorem ic_ {n:Nat} (h:n≤sizeLine):Builtin.List.listTooLong n=false:=by
 unfold Builtin.List.listTooLong
 exact decide_eq_false (by omega)
end
section
variable {X:Cx}
def fp_:V→List V→Hp→VK→Prop:=fun x vs H Q=>∃l xs y,x= .ref l∧vs=[y]∧H l=some (.lst xs)∧xs.length<sizeLine∧Q .non (upd H l (.lst (xs++[y])))
theorem by_:MtM X "list.append" fp_:=by
 intro pins s σ H x vs v us Q I rx rv h
 obtain⟨l,xs,y,rfl,rfl,hH,hz,q⟩:=h
 cases rx
 obtain⟨u,rfl,ru⟩:=rv.one
 obtain⟨z,its,n,r,hl,e⟩:=I.lstM hH
 refine call_meets F.slot_list_append ⟨_,e,rfl⟩ F.entry_list_append (F.args_list_append_2 _ _) (PySem.list_append l its.toArray n u (by rw [List.size_toArray];omega)) ⟨e, ?_⟩
 refine⟨.non,_,I.lset (its':=its++[u]) hH e (by simp) (r.append (.cons ru .nil)) ?_,rfl,q⟩
 rw [List.length_append,List.length_singleton]
 omega
def l1_:V→List V→Hp→VK→Prop:=fun x vs H Q=>∃l b xs zs,x= .ref l∧vs=[.ref b]∧H l=some (.lst xs)∧H b=some (.lst zs)∧xs.length+zs.length≤sizeLine∧Q .non (upd H l (.lst (xs++zs)))
theorem ex_:MtM X "list.extend" l1_:=by
 intro pins s σ H x vs v us Q I rx rv h
 obtain⟨l,b,xs,zs,rfl,rfl,hH,hB,hz,q⟩:=h
 cases rx
 obtain⟨u,rfl,ru⟩:=rv.one
 cases ru
 obtain⟨z,its,n,r,hl,e⟩:=I.lstM hH
 obtain⟨z2,its2,n2,r2,hl2,e2⟩:=I.lstM hB
 have hsz:its.toArray.size+its2.toArray.size≤sizeLine:=by rw [List.size_toArray,List.size_toArray];omega
 have hlong:¬(!its.toArray.isEmpty&&Builtin.List.listTooLong (its.toArray.size+its2.toArray.size))=true:=by
  rw [ic_ hsz,Bool.and_false]
  exact Bool.false_ne_true
 refine call_meets F.slot_list_extend ⟨_,e,rfl⟩ F.entry_list_extend (F.args_list_extend_2 _ _)
  (AutoSeq1.list_extend_list_list_0 l its.toArray n b its2.toArray n2 hlong (by rw [List.size_toArray];omega) (by omega)) ⟨e,e2, ?_⟩
 refine⟨.non,_,I.lset (its':=its++its2) hH e (by simp) (r.append r2) ?_,rfl,q⟩
 rw [List.length_append]
 omega
def kO_:V→List V→Hp→VK→Prop:=fun x vs H Q=>∃l xs,x= .ref l∧vs=[]∧H l=some (.lst xs)∧Q .non (upd H l (.lst xs.reverse))
theorem iS_:MtM X "list.reverse" kO_:=by
 intro pins s σ H x vs v us Q I rx rv h
 obtain⟨l,xs,rfl,rfl,hH,q⟩:=h
 cases rx
 have hus:=rv.zero
 subst hus
 obtain⟨z,its,n,r,hl,e⟩:=I.lstM hH
 refine call_meets F.slot_list_reverse ⟨_,e,rfl⟩ F.entry_list_reverse (F.args_list_reverse_1 _) (AutoSeq1.list_reverse_list_0 l its.toArray n (by rw [List.size_toArray];omega)) ⟨e, ?_⟩
 refine⟨.non,_,I.lset (its':=its.reverse) hH e (by simp) r.reverse ?_,rfl,q⟩
 rw [List.length_reverse]
 omega
def pA_:R2:=fun x y H Q=>∃l b xs zs,x= .ref l∧y= .ref b∧H l=some (.lst xs)∧H b=some (.lst zs)∧xs.length+zs.length≤sizeLine∧∀p,H p=none→Q (.ref p) (upd H p (.lst (xs++zs)))
theorem nv_:OpR X (binaryOp .Add) pA_:=by
 intro pins s σ H x y v u Q I rx ry h
 obtain⟨l,b,xs,zs,rfl,rfl,hH,hB,hz,q⟩:=h
 cases rx
 cases ry
 obtain⟨z,its,n,r,hl,e⟩:=I.lstM hH
 obtain⟨z2,its2,n2,r2,hl2,e2⟩:=I.lstM hB
 refine PySem.P.add_list e e2 ?_ (by rw [List.size_toArray,List.size_toArray];omega)
 have ea:its.toArray++its2.toArray=(its++its2).toArray:=by simp
 rw [ea]
 exact⟨.ref _,_,I.lnew (t':=s.toks) (r.append r2) (by rw [List.length_append];omega),rfl,q _ I.fresh⟩
def px_:R2:=fun x y H Q=>∃l k xs,x= .ref l∧y= .int k∧H l=some (.lst xs)∧-(2^63)≤k∧k<2^63∧xs.length*k.toNat≤sizeLine∧
 ∀p,H p=none→Q (.ref p) (upd H p (.lst (List.replicate k.toNat xs).flatten))
theorem mr_ {α:Type} (xs:List α) (k:Nat):(List.replicate k xs).flatten.length=k*xs.length:=by
 induction k with
 |zero=>simp
 |succ k ih=>rw [List.replicate_succ,List.flatten_cons,List.length_append,ih,Nat.succ_mul,Nat.add_comm]
theorem ns_:OpR X (binaryOp .Mult) px_:=by
 intro pins s σ H x y v u Q I rx ry h
 obtain⟨l,k,xs,rfl,rfl,hH,h1,h2,hz,q⟩:=h
 cases rx
 obtain⟨t,rfl⟩:=ry
 obtain⟨z,its,n,r,hl,e⟩:=I.lstM hH
 have hlen:its.toArray.size*k.toNat≤sizeLine:=by rw [List.size_toArray,←hl];exact hz
 have hcap:¬its.toArray.size*k.toNat>(2^63-1)/8:=by
  have:(sizeLine:Nat)≤(2^63-1)/8:=by decide
  omega
 have hfit:¬(!Builtin.List.listFitsIndex k)=true:=by
  rw [fitsIndex_both h1 h2]
  exact Bool.false_ne_true
 have hlong:¬Builtin.List.listTooLong (its.toArray.size*k.toNat)=true:=by
  rw [ic_ hlen]
  exact Bool.false_ne_true
 have hnew:List.foldl (fun x1 x2=>x1++x2) #[] (List.replicate (if its.toArray.isEmpty=true then 0 else k.toNat) its.toArray)=(List.replicate k.toNat its).flatten.toArray:=by
  have f0:∀m:Nat,List.foldl (fun x1 x2=>x1++x2) #[] (List.replicate m its.toArray)=(List.replicate m its).flatten.toArray:=fun m=>by
   have:=gM_ its m []
   rw [List.nil_append] at this
   exact this
  rw [f0]
  cases its with
  |nil=>simp
  |cons a r'=>rw [if_neg (by simp)]
 refine wpAny_binaryOp_repeat_ref (T:="list") (U:="int") (by decide) ⟨_,e,rfl⟩ (fun s'=>typeIs_int s' k t) noFill_list_mul F.fills_int_mul F.slot_int_rmul repeat_list F.slot_int_index.lookup
  (call_meets F.slot_int_rmul (typeIs_int s k t) F.entry_int_rmul (F.args_int_rmul_2 _ _) (int___rmul___int_list k t l its.toArray n)
   ⟨e,rfl,⟨_,e,rfl⟩,call_meets F.slot_list_mul ⟨_,e,rfl⟩ F.entry_list_mul (F.args_list_mul_2 _ _) (AutoListH.list___mul___list_int_3 l its.toArray n k t hfit hcap hlong) ⟨e, ?_⟩⟩)
 rw [hnew]
 exact⟨.ref _,_,I.lnew (t':=s.toks) (r.rep k.toNat) (by rw [mr_,Nat.mul_comm];exact hz),rfl,q _ I.fresh⟩
end
section
variable {prog:Program}{w:World}{A:Around}{E:Value→Shared→Prop}{s:Shared}
end
section
variable {X:Cx}
end
end L2
namespace Att
open PySem PySem.W PySem.Calls PyProof.Rows
theorem eD_ {P:Params}{h:Heap}:∀(ns:List Int) (vs:List Value),WellAll P h vs (ns.map WData.int)→IntsAre vs ns:=by
 intro ns
 induction ns with
 |nil=>
  intro vs w
  rw [List.map_nil] at w
  cases w
  exact .nil
 |cons n ns ih=>
  intro vs w
  rw [List.map_cons] at w
  cases w with
  |cons a b=>
   cases a
   exact .cons _ _ (ih _ b)
theorem jh_ {l:OpenLaw}{n:Nat} (hn:l.most=some n) {P:Params}{h:Heap}{args:List WData}{vals:List Value}
  (hpre:l.row.toRowW.claim.pre args=true) (hwl:WellAll P h vals args):
  ∃a vs ns,vals=[Value.ref a]∧args=[WData.list (ns.map WData.int)]∧h.get? a=some {cls:= .type "list",data:= .seq vs.toArray}∧IntsAre vs ns∧ns.length≤n:=by
 have hsh:WShape.hasAll [] args [.list .int]=true:=(pre_splitW hpre).1
 have hc:l.pre.holds [] {args:=args}=true:=(pre_splitW hpre).2
 obtain⟨d,r,rfl,h1,h2⟩:=hasAllW_cons hsh
 obtain rfl:=hasAllW_nil h2
 obtain⟨xs,rfl,h3⟩:=hasW_list h1
 obtain⟨ns,rfl⟩:=items_int h3
 have hlen:ns.length≤n:=by
  unfold OpenLaw.pre at hc
  have h4:(WTm.not (.lt (.lit (.int (n:Int))) (.len (.arg 0)))).holds [] {args:=[.list (ns.map .int)]}=true:=by
   have h4:=(holds_andW hc).1
   rw [hn] at h4
   exact h4
  have h5:=condW_of h4 (w_not (w_lt w_lit (w_len_list (w_arg rfl))))
  rw [List.length_map] at h5
  refine Nat.le_of_not_lt fun q=> ?_
  have q':(n:Int)<((ns.length:Nat):Int):=by omega
  first
   |(rw [decide_eq_true q'] at h5;exact absurd h5 (by decide))
   |(simp at h5;omega)
 cases hwl with
 |cons w1 w2=>
  cases w2
  cases w1 with
  |list ho hall=>exact⟨_,_,ns,rfl,rfl,ho,eD_ ns _ hall,hlen⟩
theorem jq_ (l:OpenLaw) (args:List WData):l.row.toRowW.claim.post args (.bool true) args=true:=
 postW_of (r:=l.row.toRowW) (X:=(true==true))
  (show WShape.has [] (.bool true) .bool=true by first|rfl|decide|simp [WShape.has,WShape.arms,WShape.armsAll])
  (show(WTm.eq .res (.lit (.bool true))).value [] {args:=args,res:=some (.bool true),after:=args}=some (.bool (true==true)) from w_eq_bool (w_res rfl) w_lit) rfl
theorem attach_call {l:OpenLaw}{n:Nat}{q:Program}{loose:List Str}{XP:(Str→Option Value)→Heap→Prop}{YP:World→Heap→Prop}{d:DefRec}
  (hn:l.most=some n) (hdf:d.params.defaults=[])
  (call:∀(w:World) (s₀ s₁:Shared) (mg mb:Str→Option Value) (fa:Addr) (o:Obj) (pm cd doc:Value) (a:Addr) (vs:List Value) (ns:List Int),
   Ground q loose [] XP w s₀ mg mb s₁.heap→YP w s₁.heap→
   s₁.heap.get? fa=some o→o.data= .func (docDef d.name d.params d.body d.scope pm cd doc)→s₁.heap.CodeRec cd d.name→mg d.name=some (.ref fa)→
   s₁.heap.get? a=some {cls:= .type "list",data:= .seq vs.toArray}→IntsAre vs ns→ns.length≤n→s₁.gens= #[]→
   codeAny (model l.prog w) callerA (.call (.ref fa) ⟨[.ref a],[]⟩) (fun r s'=>r= .ok (.ret (.bool true))∧OldK s₁.heap s'.heap∧s'.os=s₁.os∧AllBare s'.gens) s₁):
  WalkO q loose XP YP l.row.toRowW d [] (fun f vs=>PySem.call f vs):=by
 intro w s₀ s₁ mg mb G Y fa o pm cd doc dV kV ho hd hcd hD hmg hg args vals as hpre hlay hrd hwl hlo
 obtain rfl:dV= .none:=Dflts.none hD hdf
 obtain rfl:kV= .none:=Dflts.noKw hD
 obtain⟨a,vs,ns,rfl,rfl,hobj,hints,hlen⟩:=jh_ hn hpre hwl
 refine enter_call (codeAny_mono (call w s₀ s₁ mg mb fa o pm cd doc a vs ns G Y ho (fd_plain hd) hcd hmg hobj hints hlen hg) fun r s' hq=> ?_)
 obtain⟨rfl,h2,h3,h4⟩:=hq
 exact⟨.inl ⟨.bool true, .bool true,[],rfl,fun _=>rfl, .bool true,jq_ l _,fun _=>⟨List.Pairwise.nil,fun _ hm=>(nomatch hm)⟩⟩,h2,h3,h4⟩
section
variable {prog:Program}{w:World}{A:Around}{E:Value→Shared→Prop}{s:Shared}{K:Frag}
def pg_ (h:Heap) (L d:Addr):List (Addr×Obj):=(List.range h.objs.size).filterMap fun a=>if a=L∨a=d then none else(h.get? a).map fun o=>(a,o)
end
end Att
namespace L2
open PySem PySem.Spec PyProof.Rows
theorem gc_:∀{vs:List Value}{ns:List Int},IntsAre vs ns→aQ_ (ns.map V.int) vs
 |_,_, .nil=> .nil
 |_,_, .cons n t h=> .cons ⟨t,rfl⟩ (gc_ h)
def o9_ (H:Hp):Prop:=∀b,H b=none∨∃o xs,H b=some (.frz o (.lst xs))
theorem k7_ {P:Program}{w:World}{K:PySem.W.Frag}{mg mb:Str→Option Value}{CX:CXT}{k:Nat}{fa a:Addr}{fd:FuncData}{x:Str}{sp:Sp}{s₁:Shared}{vs:List Value}{ns:List Int}
  (KX:K.In s₁.heap) (hns:s₁.heap.Ns mainGlobals mg) (hb:s₁.heap.Ns builtinsNs mb) (hbb:∀x:Str,x≠"__name__"→mb x=bootBuiltins x) (hlim:s₁.heap.NoLimit) (hg:s₁.gens= #[])
  (ha:s₁.heap.get? a=some {cls:= .type "list",data:= .seq vs.toArray}) (hi:IntsAre vs ns) (hl:ns.length≤sizeLine) (hr:Room k callerA)
  (F:∀base:Heap,K.In base→base.Ns mainGlobals mg→FnOk P w K mg base CX k fa fd [x] sp) (hbind:∀(s:Shared) (u:Value),BindsTo s fd ⟨[u],[]⟩ [(x,u)])
  (hsp:∀H:Hp,o9_ H→SqL K H a (ns.map V.int)→sp [.ref a] H (fun v _=>v= .bl true) fun _ _ _=>False)
  (hCX:∀H e s',CX [] H s₁ (fun _ _ _=>False) e s'→False):
  codeAny (model P w) callerA (.call (.ref fa) ⟨[.ref a],[]⟩) (fun r s'=>r= .ok (.ret (.bool true))∧OldK s₁.heap s'.heap∧s'.os=s₁.os∧AllBare s'.gens) s₁:=by
 have rv:=gc_ hi
 have lenV:=hi.length
 have core:∀H:Hp,o9_ H→SqL K H a (ns.map V.int)→HOk P w H s₁.heap→(∀b,H b≠none→b=a)→(H a≠none→K.lookup a=none)→
   codeAny (model P w) callerA (.call (.ref fa) ⟨[.ref a],[]⟩) (fun r s'=>r= .ok (.ret (.bool true))∧OldK s₁.heap s'.heap∧s'.os=s₁.os∧AllBare s'.gens) s₁:=by
  intro H hO hS hok hA hK
  have base_of:∀{b:Addr}{o:Obj},s₁.heap.get? b=some o→H b=none→(ld_ s₁.heap H).get? b=some o:=fun e n=>lc_ e n
  have noA:∀{b:Addr}{o:Obj}{es:Array DictEntry}{ep:Nat},s₁.heap.get? b=some o→o.data= .dict es ep→H b=none:=fun{b o es ep} e d=>by
   cases q:H b with
   |none=>rfl
   |some u=>
    have e':b=a:=hA b (by rw [q];simp)
    subst e'
    rw [ha] at e;cases e
    have d':Data.seq vs.toArray _=Data.dict es ep:=d
    cases d'
  have nsK:∀{b:Addr}{m:Str→Option Value},s₁.heap.Ns b m→(ld_ s₁.heap H).Ns b m:=fun{b m} ⟨o,es,ep,e,d,r⟩=>⟨o,es,ep,base_of e (noA e d),d,r⟩
  have hKb:K.In (ld_ s₁.heap H):=fun b o e=>base_of (KX b o e) (by
   cases q:H b with
   |none=>rfl
   |some u=>
    have e':b=a:=hA b (by rw [q];simp)
    subst e'
    rw [hK (by rw [q];simp)] at e;cases e)
  have hM:Mod K mg (ld_ s₁.heap H):=⟨hKb,nsK hns,⟨mb,nsK hb,hbb⟩,let ⟨mc,h1,h2⟩:=hlim;⟨mc,nsK h1,h2⟩⟩
  have e0:Env0 P w K mg (ld_ s₁.heap H) callerA [] s₁ H:=⟨rfl,hM,fun b o e=>mg_ e,Nat.le_of_eq (j9_ _ _),trivial,fun b hb=>absurd (show b∈([]:List Addr) from hb) (by simp),hok, .of_eq hg⟩
  refine codeAny_mono ((F _ hKb (nsK hns)).run callerA [] s₁ H ⟨[.ref a],[]⟩ [.ref a] [.ref a] _ _ hr e0 (hbind s₁ (.ref a)) (.cons rfl .nil) (hsp H hO hS)) fun r s' h=> ?_
  cases r with
  |error e=>exact(hCX H e s' h).elim
  |ok fl=>
   cases fl with
   |next=>exact False.elim h
   |brk=>exact False.elim h
   |cont=>exact False.elim h
   |ret u=>
    obtain⟨v,H',os,bare,un,hok',r',q⟩:=h
    have q':v= .bl true:=q
    subst q'
    obtain rfl:u=Value.bool true:=r'
    refine⟨rfl,OldK.of_keep fun b o e=> ?_,os,bare⟩
    cases q:H b with
    |none=>exact un.keep b o e q (by intro z;exact absurd (show b∈([]:List Addr) from z) (by simp)) (by simp)
    |some u=>
     rcases hO b with z|⟨ob,xs,z⟩
     ·rw [q] at z;cases z
     ·have z2:=un.frzs b ob _ z
      obtain⟨e1,_⟩:=hok b _ z
      obtain⟨e2,_⟩:=hok' b _ z2
      rw [e] at e1;cases e1
      exact e2
 cases hk:K.lookup a with
 |some o=>
  have e:=KX a o hk
  rw [ha] at e
  cases e
  refine core (fun _=>none) (fun _=> .inl rfl) (.inr ⟨_,vs.toArray,_,hk,rfl,rfl,rfl,by rw [List.size_toArray,lenV];exact hl,by simpa using rv⟩) (fun b u z=>by have z':(none:Option HO)=some u:=z;cases z') (fun b z=>absurd rfl z) fun z=>absurd rfl z
 |none=>
  refine core (fun b=>if b=a then some (.frz {cls:= .type "list",data:= .seq vs.toArray} (.lst (ns.map V.int))) else none) (fun b=> ?_) (.inl (.inr ⟨{cls:= .type "list",data:= .seq vs.toArray},if_pos rfl⟩)) (fun b u z=> ?_) (fun b z=> ?_) fun _=>hk
  ·by_cases hb:b=a
   ·exact .inr ⟨_,_,if_pos hb⟩
   ·exact .inl (if_neg hb)
  ·by_cases hb:b=a
   ·have z':=(if_pos hb).symm.trans z
    cases z'
    subst hb
    exact⟨ha,by rw [List.length_map];exact hl,vs,_,rv,ha⟩
   ·have z':=(if_neg hb).symm.trans z
    cases z'
  ·by_cases hb:b=a
   ·exact hb
   ·exact absurd (if_neg hb) z
end L2
namespace L2
open PySem PySem.Spec PyProof.Rows
theorem lJ_ {l:PySem.W.OpenLaw}{n k:Nat}{q:Program}{loose:List Str}{XP:(Str→Option Value)→Heap→Prop}{YP:World→Heap→Prop}{d:DefRec}{K:Params→PySem.W.Frag}{CX:World→CXT}{sp:World→Sp}{x:Str}
  (hn:l.most=some n) (hn2:n≤sizeLine) (hdf:d.params.defaults=[]) (hr:Room k callerA)
  (hY:∀(w:World) (h:Heap),YP w h→(K w.params).In h)
  (F:∀(w:World) (mg:Str→Option Value) (fa:Addr) (h:Heap),(K w.params).In h→h.Ns mainGlobals mg→mg d.name=some (.ref fa)→
   ∃fd:FuncData,(∀(s:Shared) (u:Value),BindsTo s fd ⟨[u],[]⟩ [(x,u)])∧
    ∀base:Heap,(K w.params).In base→base.Ns mainGlobals mg→FnOk l.prog w (K w.params) mg base (CX w) k fa fd [x] (sp w))
  (hsp:∀(w:World) (H:Hp) (a:Addr) (ns:List Int),ns.length≤n→o9_ H→SqL (K w.params) H a (ns.map V.int)→sp w [.ref a] H (fun v _=>v= .bl true) fun _ _ _=>False)
  (hCX:∀(w:World) (H:Hp) (s:Shared) (e:Value) (s':Shared),CX w [] H s (fun _ _ _=>False) e s'→False):
  PySem.W.WalkO q loose XP YP l.row.toRowW d [] (fun f vs=>PySem.call f vs):=by
 refine Att.attach_call hn hdf fun w s₀ s₁ mg mb fa o pm cd doc a vs ns G Y ho hd hcd hmg hobj hints hlen hg=> ?_
 have KX:=hY w _ Y
 obtain⟨fd,hb,hF⟩:=F w mg fa _ KX G.T.g hmg
 exact k7_ KX G.T.g G.T.b G.T.builtins G.T.nolimit hg hobj hints (Nat.le_trans hlen hn2) hr hF hb (fun H hO hS=>hsp w H a ns hlen hO hS) fun H e s'=>hCX w H s₁ e s'
end L2
namespace L2
open PySem PySem.Spec PyProof.Rows
def cl_ (s:Stmt):Arguments:=match s with
 | .FunctionDef _ a _ _ _ _ _ _ _ _=>a
 |_=>{posonlyargs:=[],args:=[],vararg:=none,kwonlyargs:=[],kw_defaults:=[],kwarg:=none,defaults:=[]}
def bZ_ (s:Stmt):List Stmt:=match s with
 | .FunctionDef _ _ b _ _ _ _ _ _ _=>b
 |_=>[]
def ah_ (s:Stmt):Scope:=match s with
 | .FunctionDef _ _ _ _ _ _ sc _ _ _=>sc
 |_=>{kind:= .function,names:=[],isGenerator:=false,isCoroutine:=false}
abbrev CX0:CXT:=fun _ _ _ _ _ _=>False
abbrev E0:XK:=fun _ _ _=>False
theorem aw_ {X:Cx}:kt_ CX0 X E0:=fun _ _ _ _ _ _ _ h=>h.elim
structure Fun (K:PySem.W.Frag) (x qual:Str) (st:Stmt) (f:Addr) (fd:FuncData):Prop where
 ex:∃(oc:Value) (od:Option Addr) (kV doc pm:Value) (an:Option Addr) (cdv ct:Value) (osl:Array (Option Value)),
  fd=PySem.W.fnOf x qual (cl_ st) (bZ_ st) (ah_ st) .none kV doc pm an cdv ct∧K.lookup f=some ⟨oc,od, .func fd,osl⟩∧PySem.W.codeIn K cdv qual=true
 kp:PySem.W.keepIn K (.ref f)=true
section
variable {P:Program}{w:World}{K:PySem.W.Frag}{mg:Str→Option Value}{base:Heap}
theorem Fun.ok {x qual:Str}{st:Stmt}{f:Addr}{fd:FuncData}{N ps:List Str}{k:Nat}{sp:Sp} (F:Fun K x qual st f fd) (S:FnScope N ps (ah_ st)) (len:∀vs H Q E,sp vs H Q E→vs.length=ps.length)
  (hbody:∀(cdv:Value) (A:Around) (outer:List Env) (s:Shared) (H:Hp) (vs:List V) (Q:VK) (E:XK),Room k (A.deeper (envOfC qual (ah_ st) s.heap.objs.size f cdv))→sp vs H Q E→
   ∃t,PSs (mS_ CX0 P w K mg base N qual (ah_ st) f cdv A outer s H E).nox (bZ_ st) t∧t {nx:=fun _ H'=>Q .non H',rt:=Q} (start N vs) H):FnOk P w K mg base CX0 (k+1) f fd ps sp:=by
 obtain⟨oc,od,kV,doc,pm,an,cdv,ct,osl,rfl,lk,hcd⟩:=F.ex
 refine o5_ lk hcd S len fun A outer s H vs Q E hr hsp=> ?_
 obtain⟨t,h,q⟩:=hbody cdv A outer s H vs Q E hr hsp
 exact⟨t,h.nox,q⟩
theorem Fun.binds {x qual:Str}{st:Stmt}{f:Addr}{fd:FuncData}{ps:List Str} (F:Fun K x qual st f fd)
  (h:∀(kV doc pm:Value) (an:Option Addr) (cdv ct:Value) (us:List Value),us.length=ps.length→bindArgs (PySem.W.fnOf x qual (cl_ st) (bZ_ st) (ah_ st) .none kV doc pm an cdv ct) ⟨us,[]⟩=pure (ps.zip us)):i1_ K fd ps []:=by
 obtain⟨oc,od,kV,doc,pm,an,cdv,ct,osl,rfl,lk,hcd⟩:=F.ex
 exact .all (h kV doc pm an cdv ct)
theorem nR_ {x qual:Str}{st:Stmt}{f:Addr}{oc:Value}{od an:Option Addr}{osl:Array (Option Value)}{kV doc pm cdv ct:Value} (l:K.lookup f=some ⟨oc,od, .func (PySem.W.fnOf x qual (cl_ st) (bZ_ st) (ah_ st) .none kV doc pm an cdv ct),osl⟩)
  (c:PySem.W.codeIn K cdv qual=true) (k:PySem.W.keepIn K (.ref f)=true):Fun K x qual st f (PySem.W.fnOf x qual (cl_ st) (bZ_ st) (ah_ st) .none kV doc pm an cdv ct):=⟨⟨oc,od,kV,doc,pm,an,cdv,ct,osl,rfl,l,c⟩,k⟩
end
theorem ak_ {n:Nat} (h:n≤1000):n<sizeLine:=Nat.lt_of_le_of_lt h (by decide)
section
variable {X:Cx}
theorem pv (i:Nat) {x:Str}{pos:Pos} (hN:X.N[i]? =some x:=by rfl) (hv:Vis X.env.scope x:=by first|exact Or.inl rfl|exact Or.inr (Or.inl rfl)|exact Or.inr (Or.inr rfl)) (hd:(x==("__debug__":Str))=false:=by decide)
  (hcd:(x==("__classdict__":Str))=false:=by decide):PE X (.Name x pos) (pa_ i):=nn_ hN hv hd hcd
end
theorem cW_ {A B:Prop} (h:B):if false=true then A else B:=by
 rw [if_neg Bool.false_ne_true]
 exact h
theorem cV_ {A B:Prop} (h:A):if true=true then A else B:=by
 rw [if_pos rfl]
 exact h
def al_ (H H':Hp):Prop:=∀b o,H b=some o→H' b=some o
theorem al_.refl (H:Hp):al_ H H:=fun _ _ h=>h
theorem al_.trans {H H1 H2:Hp} (a:al_ H H1) (b:al_ H1 H2):al_ H H2:=fun c o h=>b c o (a c o h)
theorem al_.free {H H':Hp} (e:al_ H H') {l:Addr} (h:H' l=Option.none):H l=Option.none:=by
 cases q:H l with
 |none=>rfl
 |some o=>
  rw [e l o q] at h
  cases h
theorem al_.seq {K:PySem.W.Frag}{H H':Hp}{a:Addr}{xs:List V} (e:al_ H H') (h:SqL K H a xs):SqL K H' a xs:=by
 rcases h with(h|⟨o,h⟩)|h
 ·exact .inl (.inl (e _ _ h))
 ·exact .inl (.inr ⟨o,e _ _ h⟩)
 ·exact .inr h
end L2
set_option maxHeartbeats 4000000
namespace L2
open PySem PySem.Spec PyProof.Rows
section
variable {κ:Type} [DecidableEq κ]
def ku_ (kvs:List (κ×V)) (k:κ):Option V:=(kvs.find? fun kv=>decide (kv.1=k)).map (·.2)
def kQ_ (kvs:List (κ×V)) (k:κ) (v:V):List (κ×V):=
 if(kvs.any fun kv=>decide (kv.1=k))=true then kvs.map (fun kv=>if kv.1=k then(kv.1,v) else kv) else kvs++[(k,v)]
theorem hT_ {p:κ×V}{r:List (κ×V)}{k:κ} (e:p.1=k):ku_ (p::r) k=some p.2:=by simp [ku_,List.find?_cons,e]
theorem hU_ {p:κ×V}{r:List (κ×V)}{k:κ} (e:¬p.1=k):ku_ (p::r) k=ku_ r k:=by simp [ku_,List.find?_cons,e]
theorem d1_ (k:κ):∀kvs:List (κ×V),(kvs.any fun kv=>decide (kv.1=k))=(ku_ kvs k).isSome
 |[]=>rfl
 |p::r=>by
  rw [List.any_cons]
  by_cases e:p.1=k
  ·simp only [hT_ e,decide_eq_true e,Bool.true_or,Option.isSome_some]
  ·rw [hU_ e,decide_eq_false e,Bool.false_or];exact d1_ k r
theorem hA_ (kvs:List (κ×V)) (k:κ) (v:V):(kQ_ kvs k v).length≤kvs.length+1:=by
 unfold kQ_
 split
 ·rw [List.length_map];omega
 ·rw [List.length_append,List.length_cons,List.length_nil];omega
theorem mT_.isSome_eq {o:Option V}{u:Option Value} (r:mT_ o u):o.isSome=u.isSome:=by
 cases o with
 |none=>cases u with
  |none=>rfl
  |some _=>exact(show False from r).elim
 |some _=>cases u with
  |none=>exact(show False from r).elim
  |some _=>rfl
end
section
variable {P:Program}{w:World}{H:Hp}{h:Heap}{a:Addr}
end
section
variable {X:Cx}{pins:List (Addr×Obj)}{σ:St}{H:Hp}{s:Shared}{a:Addr}{y v:V}{u r:Value}{o:Option V}{A:Around}{E:Value→Shared→Prop}
theorem Inv.big (I:Inv X pins σ H s):sysModules<s.heap.objs.size:=by
 have h:mainGlobals<s.heap.objs.size:=(I.mod.glob.keeps I.bk).lt
 exact Nat.lt_trans (by decide) h
theorem mF_ {h':Heap}{t':Nat}{ob:HO} (I:Inv X pins σ H s) (mu:Mut (H a)) (hs:Heap.SameBut a s.heap h') (he:∃q,h'.get? a=some q) (new:ba_ X.prog X.w (upd H a ob) h' a ob):
  Inv X pins σ (upd H a ob) {s with heap:=h',toks:=t'}:=
 I.write (x:=a) (e:=a) mu (.inl rfl) (fun b q hb z=>(hs.2 b hb).trans z) he new
end
section
variable {X:Cx}{pins:List (Addr×Obj)}{σ:St}{H:Hp}{s:Shared}{a:Addr}{kvs:List (Key×V)}{k:Key}{u:Value}{A:Around}{E:Value→Shared→Prop}
end
def pj_ (i:Expr):Prop:=∀ov iv,subscripted i false ov iv=operate [ov,iv] (getItem ov iv)
theorem lO_ {prog:Program}{w:World}{A:Around}{E:Value→Shared→Prop}{s:Shared}{env:Env}{value slice:Expr}{pos:Pos}{T id:String}{Q:Value→Shared→Prop}
  (hl:typeLookup (.type T) "__getitem__"=pure (some (.builtin id))) (hs:pj_ slice)
  (h:wpAny (model prog w) A (eval value env) (fun o s₁=>wpAny (model prog w) A (eval slice env) (fun i s₂=>s₂.TypeIs o T∧wpAny (model prog w) A (getItem o i) Q E s₂) E s₁) E s):
  wpAny (model prog w) A (eval (.Subscript value slice pos) env) Q E s:=by
 refine Subscript_ (wpAny_mono h (fun o s₁ h₁=>wpAny_mono h₁ (fun i s₂ h₂=> ?_) fun _ _ x=>x) fun _ _ x=>x)
 obtain⟨hT,h₂⟩:=h₂
 unfold subscriptTail
 refine wpAny_bind ?_
 rw [getitemInPython_of_ne hT.not_modules]
 refine wpAny_bind (wpAny_specialOf hT hl ?_)
 have fin:wpAny (model prog w) A (subscripted slice false o i) (fun r s₃=>wpAny (model prog w) A (letTemporaryGo value o r>>=fun _=>pure r) Q E s₃) E s₂:=by
  rw [hs o i]
  exact wpAny_operating (wpAny_mono h₂ (fun r s₃ h₃=>wpAny_bind (wpAny_letTemporaryGo (wpAny_pure h₃))) fun _ _ x=>x)
 first
  |exact wpAny_pure (wpAny_bind fin)
  |exact wpAny_bind (wpAny_pure (wpAny_bind fin))
  |exact wpAny_bind fin
section
variable {X:Cx}{o i e value:Expr}{pos pos' tpos:Pos}{td ty tv:TE}
end
section
variable {X:Cx}{pos:Pos}
end
section
variable {X:Cx}{pins:List (Addr×Obj)}{σ:St}{H:Hp}{s:Shared}{a:Addr}{y d:V}{u r:Value}{o:Option V}{A:Around}{E:Value→Shared→Prop}
end
section
variable {X:Cx}{o e f:Expr}{apos cpos:Pos}{td ty tx:TE}
end
section
variable {X:Cx}{pins:List (Addr×Obj)}{σ:St}{H:Hp}{s:Shared}{a:Addr}{kvs:List (Key×V)}{A:Around}{E:Value→Shared→Prop}
end
section
variable {X:Cx}{pins:List (Addr×Obj)}{σ:St}{H:Hp}{s:Shared}{a:Addr}{y:V}{u:Value}{A:Around}{E:Value→Shared→Prop}
end
end L2
namespace L2
open PySem PySem.Spec PyProof.Rows
section
variable {X:Cx}{pos:Pos}{a b c d:Expr}{ta tb tc td:TE}
theorem ec_:b7_ X (.builtin "isinstance") (fun xs H Q=>∃x n t b,xs=[x, .ty n]∧TyOf X.K H x t∧PySem.W.kitOne X.K t (.type n)=some b∧Q (.bl b) H):=by
 intro pins s σ H xs us Q I r h
 obtain⟨x,n,t,b,rfl,ty,e,q⟩:=h
 obtain⟨u,w',rfl,ru,rw'⟩:=oe_ r
 obtain rfl:w'=Value.type n:=rw'
 exact j4_ I ru ty e fun tk=>⟨.bl b,H,I.tok tk,rfl,q⟩
def i9_ (r r' r'':R2) (ta tb tc td:TE):TE:=fun σ H Q=>ta σ H fun x H1=>tb σ H1 fun y H2=>r x y H2 fun z H3=>∃k,z= .bl k∧
 (if k=true then tc σ H3 fun w' H4=>r' y w' H4 fun z' H5=>∃k',z'= .bl k'∧(if k'=true then td σ H5 fun w2 H6=>r'' w' w2 H6 Q else Q (.bl false) H5) else Q (.bl false) H3)
theorem ju_ {op op' op'':CmpOp}{r r' r'':R2} (ho:OpR X (compareOp op) r) (ho':OpR X (compareOp op') r') (ho'':OpR X (compareOp op'') r'') (ha:PE X a ta) (hb:PE X b tb) (hc:PE X c tc) (hd:PE X d td)
  (hm:lastMarks [op,op',op''] [b,c,d]=false:=by with_unfolding_all rfl):PE X (.Compare a [op,op',op''] [b,c,d] pos) (i9_ r r' r'' ta tb tc td):=by
 intro pins s σ H Q I h
 refine Compare_chain (thn (ha pins s σ H _ I h) fun v s1 ⟨x,H1,I1,r1,q1⟩=>chain_link (thn (hb pins s1 σ H1 _ I1 q1) fun u s2 ⟨y,H2,I2,r2,q2⟩=>
  thn (ho pins s2 σ H2 x y v u _ I2 r1 r2 q2) fun d s3 ⟨z,H3,I3,r3,k,e,q3⟩=> ?_)) hm
 subst e
 cases r3
 refine wpAny_truthy_bool ?_
 cases k with
 |false=>exact ite_ff ⟨.bl false,H3,I3,rfl,q3⟩
 |true=>
  refine ite_tt (chain_link (thn (hc pins s3 σ H3 _ I3 q3) fun w' s4 ⟨y',H4,I4,r4,q4⟩=>thn (ho' pins s4 σ H4 y y' u w' _ I4 r2 r4 q4) fun d' s5 ⟨z',H5,I5,r5,k',e',q5⟩=> ?_))
  subst e'
  cases r5
  refine wpAny_truthy_bool ?_
  cases k' with
  |false=>exact ite_ff ⟨.bl false,H5,I5,rfl,q5⟩
  |true=>exact ite_tt (chain_last (thn (hd pins s5 σ H5 _ I5 q5) fun w2 s6 ⟨y2,H6,I6,r6,q6⟩=>ho'' pins s6 σ H6 y' y2 w' w2 Q I6 r4 r6 q6))
end
section
open PySem.W
variable {K:Frag}
theorem fR_ {t:String}:kitOne K (.type t) (.type t)=some true:=by
 unfold kitOne
 rw [if_pos (by simp)]
theorem eC_ {t c:String}{b:Bool} (h1:(Value.type t==Value.type c)=false) (h2:kitMeta c=true) (h3:(fastBuiltinMro t).map (·.contains (Value.type c))=some b):kitOne K (.type t) (.type c)=some b:=by
 unfold kitOne
 rw [if_neg (by rw [h1];decide)]
 unfold kitCls
 show(if kitMeta c=true then subIn K (.type t) (.type c) else none)=some b
 rw [if_pos h2]
 exact h3
theorem dV_:kitOne K (.type "int") (.type "bool")=some false:=eC_ (by decide+kernel) (by decide+kernel) (by decide+kernel)
theorem gJ_:kitOne K (.type "bool") (.type "int")=some true:=eC_ (by decide+kernel) (by decide+kernel) (by decide+kernel)
end
theorem eS_ {c A B:Prop} [Decidable c] (h1:c→A) (h2:¬c→B):if decide c=true then A else B:=by
 by_cases h:c
 ·rw [if_pos (decide_eq_true h)];exact h1 h
 ·rw [if_neg (by rw [decide_eq_false h];decide)];exact h2 h
theorem j2_ {c A B:Prop} [Decidable c] (h1:¬c→A) (h2:c→B):if(!decide c)=true then A else B:=by
 by_cases h:c
 ·rw [if_neg (by rw [decide_eq_true h];decide)];exact h2 h
 ·rw [if_pos (by rw [decide_eq_false h];rfl)];exact h1 h
theorem g9_ {A B:Prop}{i j:Int} (h1:i=j→A) (h2:i≠j→B):if decide (V.int i=V.int j)=true then A else B:=eS_ (fun h=>h1 (V.int.inj h)) fun h=>h2 fun e=>h (congrArg V.int e)
theorem la_ {A B:Prop}{i j:Int} (h1:i≠j→A) (h2:i=j→B):if(!decide (V.int i=V.int j))=true then A else B:=j2_ (fun h=>h1 fun e=>h (congrArg V.int e)) fun h=>h2 (V.int.inj h)
theorem al_.put {H H1:Hp}{l:Addr}{o:HO} (s:al_ H H1) (n:H l=none):al_ H (upd H1 l o):=fun b u e=>by
 rw [ar_ (aS_ e n)];exact s b u e
theorem al_.new {H:Hp}{l:Addr}{o:HO} (n:H l=none):al_ H (upd H l o):=(al_.refl H).put n
end L2
namespace L2
open PySem PySem.Spec PyProof.Rows
theorem ko_ {prog:Program}{w:World}{A:Around}{R:Result→Shared→Prop}{s:Shared}{elt target iter:Expr}{ifs:List Expr}{scope:Scope}{pos:Pos}{it acc:Value}{env:Env} (I:Nat→Shared→Prop)
  (turn:∀n s,I n s→wpAny (model prog w) A (pyNext it) (fun r s₁=>match r with
   |none=>R (.ok .next) s₁
   |some v=>wpAny (model prog w) A (letOwnedTupleGo target it v) (fun _ s₁'=>wpAny (model prog w) A (assign target env v) (fun _ s₂=>
     wpAny (model prog w) A (forIn ifs true fun c r=>if r=true then do let ok←isTrue c env (eval c env);pure (ForInStep.yield ok) else pure (ForInStep.yield r)) (fun ok s₃=>
      if ok=true then wpAny (model prog w) A (eval elt env) (fun x s₄=>
       wpAny (model prog w) A (call (.builtin "list.append") [acc,x]) (fun _ s₅=>∃m,m<n∧I m s₅) (notedBy (model prog w) A env fun e s'=>R (.error e) s') s₄) (notedBy (model prog w) A env fun e s'=>R (.error e) s') s₃
      else∃m,m<n∧I m s₃) (notedBy (model prog w) A env fun e s'=>R (.error e) s') s₂) (notedBy (model prog w) A env fun e s'=>R (.error e) s') s₁') (notedBy (model prog w) A env fun e s'=>R (.error e) s') s₁) (notedBy (model prog w) A env fun e s'=>R (.error e) s') s)
  (n:Nat) (h:I n s):
  codeAny (model prog w) A (.compLoop (.ListComp elt [⟨target,iter,ifs,0⟩] scope pos) 0 it acc env) R s:=by
 refine codeAny_loop rfl I (fun n s hI=> ?_) n h
 show wpAny _ A ((compTurn (.ListComp elt [⟨target,iter,ifs,0⟩] scope pos) 0 it acc env).onRaise (fun x=>do noteFrame x env;theTreesLotGoes x)) _ _ s
 refine wpAny_noted ?_
 rw [compTurn_list]
 refine wpAny_bind (wpAny_standAt (wpAny_bind (wpAny_mono (turn n s hI) (fun r s₁ h₁=> ?_) fun _ _ h'=>h')))
 cases r with
 |none=>exact wpAny_pure h₁
 |some v=>
  refine wpAny_bind (wpAny_mono h₁ (fun _ s₁' h₁'=>wpAny_bind (wpAny_mono h₁' (fun _ s₂ h₂=>wpAny_bind (wpAny_mono h₂ (fun ok s₃ h₃=> ?_) fun _ _ h'=>h')) fun _ _ h'=>h')) fun _ _ h'=>h')
  cases ok with
  |false=>exact wpAny_pure ⟨rfl,h₃⟩
  |true=>
   exact wpAny_bind (wpAny_bind (wpAny_mono h₃ (fun x s₄ h₄=>wpAny_bind (wpAny_mono h₄ (fun _ s₅ h₅=>wpAny_pure (wpAny_pure ⟨rfl,h₅⟩)) fun _ _ h'=>h')) fun _ _ h'=>h'))
def hN_ (env:Env):List (Str×NameKind)→List (Str×Addr)→List (Str×Addr)
 |[],cs=>cs
 |(n,k)::r,cs=>hN_ env r (if k= .free then(n,(env.cells.lookup n).getD 0)::cs else cs)
theorem f5_ {env:Env}:∀(ns:List (Str×NameKind)) (cs:List (Str×Addr)),(∀y∈ns,y.2= .free→∃c,env.cells.lookup y.1=some c)→
  (forIn ns cs fun(x:Str×NameKind) (r:List (Str×Addr))=>(if(x.2== .free)=true then do let c←cellOf env x.1;pure (ForInStep.yield ((x.1,c)::r)) else pure (ForInStep.yield r):Sem (ForInStep (List (Str×Addr)))))=(pure (hN_ env ns cs):Sem _)
 |[],cs,_=>rfl
 |(n,k)::r,cs,h=>by
  have hr:=fun y hy=>h y (List.mem_cons_of_mem _ hy)
  by_cases hk:k= .free
  ·obtain⟨c,hc⟩:=h (n,k) List.mem_cons_self hk
   subst hk
   rw [List.forIn_cons]
   have e:cellOf env n=pure c:=by unfold cellOf;rw [hc]
   simp only [beq_self_eq_true,if_true,e,pure_bind]
   rw [f5_ r _ hr]
   show _=pure (hN_ env r (if NameKind.free=NameKind.free then(n,(env.cells.lookup n).getD 0)::cs else cs))
   rw [if_pos rfl,show env.cells.lookup n=some c from hc]
   rfl
  ·have hb:(k==NameKind.free)=false:=by simpa using hk
   rw [List.forIn_cons]
   simp only [hb,Bool.false_eq_true,if_false,pure_bind]
   rw [f5_ r _ hr]
   show _=pure (hN_ env r (if k=NameKind.free then(n,(env.cells.lookup n).getD 0)::cs else cs))
   rw [if_neg hk]
theorem i0_ {env:Env}{scope:Scope} (h:∀y∈scope.names,y.2= .free→∃c,env.cells.lookup y.1=some c):closureFor scope env=pure (hN_ env scope.names []):=by
 unfold closureFor
 have e:=f5_ scope.names [] h
 simp only [bind_pure] at e⊢
 exact e
theorem eL_ {env:Env}{x:Str}{c:Addr}:∀(ns:List (Str×NameKind)) (cs:List (Str×Addr)),(∀y∈ns,y.2= .free→∃c,env.cells.lookup y.1=some c)→(∀x c,cs.lookup x=some c→env.cells.lookup x=some c)→
  (hN_ env ns cs).lookup x=some c→env.cells.lookup x=some c
 |[],cs,_,hc,e=>hc x c e
 |(n,k)::r,cs,h,hc,e=>by
  unfold hN_ at e
  refine eL_ r _ (fun y hy=>h y (List.mem_cons_of_mem _ hy)) (fun x' c' e'=> ?_) e
  by_cases hk:k= .free
  ·rw [if_pos hk] at e'
   obtain⟨c0,h0⟩:=h (n,k) List.mem_cons_self hk
   rw [h0] at e'
   rw [List.lookup_cons] at e'
   by_cases q:x'==n
   ·rw [q] at e'
    cases e'
    rw [beq_iff_eq.mp q]
    exact h0
   ·have q':(x'==n)=false:=by simpa using q
    rw [q'] at e'
    exact hc x' c' e'
  ·rw [if_neg hk] at e'
   exact hc x' c' e'
theorem gQ_ {env:Env}{x:Str}:∀(ns:List (Str×NameKind)) (cs:List (Str×Addr)),(∃c,cs.lookup x=some c)→∃c,(hN_ env ns cs).lookup x=some c
 |[],cs,h=>h
 |(n,k)::r,cs,h=>by
  unfold hN_
  refine gQ_ r _ ?_
  by_cases hk:k= .free
  ·rw [if_pos hk,List.lookup_cons]
   by_cases q:x==n
   ·rw [q];exact⟨_,rfl⟩
   ·have q':(x==n)=false:=by simpa using q
    rw [q'];exact h
  ·rw [if_neg hk];exact h
theorem f6_ {env:Env}{x:Str}:∀(ns:List (Str×NameKind)) (cs:List (Str×Addr)),(x,NameKind.free)∈ns→∃c,(hN_ env ns cs).lookup x=some c
 |(n,k)::r,cs,h=>by
  unfold hN_
  rcases List.mem_cons.mp h with e|e
  ·cases e
   rw [if_pos rfl]
   exact gQ_ r _ ⟨_,by rw [List.lookup_cons,beq_self_eq_true]⟩
  ·exact f6_ r _ e
def Cx.comp (X:Cx) (scope:Scope) (C:Addr) (N:List Str) (s₀:Shared) (H₀:Hp) (ex:List Addr) (E:Value→Shared→Prop):Cx where
 prog:=X.prog
 w:=X.w
 K:=X.K
 mg:=X.mg
 base:=X.base
 A:=X.A
 N:=N
 s₀:=s₀
 H₀:=H₀
 env:=compEnvC scope (hN_ X.env scope.names []) C X.env
 outer:=X.stack
 stack:=X.stack
 ex:=ex
 fn:=fun _=>false
 calm:=X.calm
 pn:=[]
 xe:=E
def mN_ (X:Cx) (ifs:List Expr) (t:TT):Prop:=
 ∀(pins:List (Addr×Obj)) (s:Shared) (σ:St) (H:Hp) (Q:Bool→Hp→Prop),Inv X pins σ H s→t σ H Q→
  wpAny (model X.prog X.w) X.A (forIn ifs true fun c r=>if r=true then do let ok←isTrue c X.env (eval c X.env);pure (ForInStep.yield ok) else pure (ForInStep.yield r)) (TP X pins σ Q) X.xe s
def n2_:TT:=fun _ H Q=>Q true H
theorem bR_ {X:Cx}:mN_ X [] n2_:=fun _ _ _ H _ I h=>wpAny_tests_nil ⟨H,I,h⟩
theorem d5_ {X:Cx}{c:Expr}{t:TT} (h:PT X c t):mN_ X [c] t:=fun pins s σ H Q I q=>wpAny_tests_one (h pins s σ H Q I q)
def kx_ (own:Nat) (js:List Nat) (σ:St):St:=List.replicate own none++js.map fun j=>(σ[j]?).getD none
def mQ_ (J:It) (own:Nat) (js:List Nat) (g:TG) (ti:TT) (te:TE) (σ:St) (H1:Hp) (acc:Addr) (Q:VK):Prop:=
 ∃W:Nat→Nat→Hp→Prop,(∃m,W 0 m (upd H1 acc (.lst [])))∧∀i m H2,W i m H2→
  (J.stop i H2∧Q (.ref acc) H2)∨(J.go i H2∧∀x H3,J.yld i H2 x H3→g x (kx_ own js σ) H3 fun σ4 H4=>ti σ4 H4 fun b H5=>
   if b=true then te σ4 H5 fun y H6=>fp_ (.ref acc) [y] H6 fun _ H7=>∃m',m'<m∧W (i+1) m' H7 else∃m',m'<m∧W (i+1) m' H5)
def i8_ (own:Nat) (js:List Nat) (wi:TI) (g:TG) (ti:TT) (te:TE):TE:=fun σ H Q=>wi σ H fun J H1=>∀acc,H1 acc=none→mQ_ J own js g ti te σ H1 acc Q
end L2
namespace L2
open PySem PySem.Spec PyProof.Rows
theorem lL_ {α:Type}{t:Sem α}{Q Q':α→Shared→Prop}{M:Model}{A:Around}{E:Value→Shared→Prop}{s:Shared} (h:wpAny M A t Q (fun _ _=>False) s) (hQ:∀a s,Q a s→Q' a s):wpAny M A t Q' E s:=wpAny_mono h hQ fun _ _ f=>f.elim
theorem cB_ {scope:Scope}{env:Env}{x:Str}:∀{names:List (Str×NameKind)},((names.map fun(n,k)=>if(k==NameKind.free&&env.scope.kind== .function&&env.kindOf n==some .cell) then(n,NameKind.cell) else(n,k)).lookup x=some .cell∨
  (names.map fun(n,k)=>if(k==NameKind.free&&env.scope.kind== .function&&env.kindOf n==some .cell) then(n,NameKind.cell) else(n,k)).lookup x=some .free)→(∀y∈names,y.2≠ .cell)→(x,NameKind.free)∈names
 |[],h,_=>by simp at h
 |(n,k)::r,h,hc=>by
  have hr:∀y∈r,y.2≠ .cell:=fun y hy=>hc y (List.mem_cons_of_mem _ hy)
  have h0:k≠ .cell:=hc (n,k) List.mem_cons_self
  rw [List.map_cons,List.lookup_cons] at h
  by_cases hb:(k==NameKind.free&&env.scope.kind== .function&&env.kindOf n==some .cell)=true
  ·rw [if_pos hb] at h
   dsimp only at h
   by_cases q:x==n
   ·have hk:k= .free:=by simp only [Bool.and_eq_true,beq_iff_eq] at hb;exact hb.1.1
    rw [beq_iff_eq.mp q,hk]
    exact List.mem_cons_self
   ·have q':(x==n)=false:=by simpa using q
    rw [q'] at h
    exact List.mem_cons_of_mem _ (cB_ (scope:=scope) h hr)
  ·rw [if_neg hb] at h
   dsimp only at h
   by_cases q:x==n
   ·rw [q] at h
    dsimp only at h
    have hk:k= .free:=by
     rcases h with h|h
     ·exact absurd (Option.some.inj h) h0
     ·exact Option.some.inj h
    rw [beq_iff_eq.mp q,hk]
    exact List.mem_cons_self
   ·have q':(x==n)=false:=by simpa using q
    rw [q'] at h
    exact List.mem_cons_of_mem _ (cB_ (scope:=scope) h hr)
def mO_ (own:Nat) (g:TG):Prop:=∀v σ H (Q:St→Hp→Prop),g v σ H Q→g v σ H fun σ' H'=>Q σ' H'∧σ'.length=σ.length∧∀i,own≤i→σ'[i]? =σ[i]?
theorem a0_ {i own:Nat} (h:i<own):mO_ own (dw_ i):=fun v σ H Q q=>⟨q,List.length_set ..,fun j hj=>by rw [List.getElem?_set_ne (by omega)]⟩
theorem hO_ (own:Nat) (js:List Nat) (σ:St):(kx_ own js σ).length=own+js.length:=by simp [kx_]
theorem gR_ {own:Nat}{js:List Nat}{σ:St}{i:Nat}{v:V} (h:(kx_ own js σ)[i]? =some (some v)):own≤i∧∃j,js[i-own]? =some j∧σ[j]? =some (some v):=by
 unfold kx_ at h
 by_cases hi:i<own
 ·rw [List.getElem?_append_left (by simpa using hi),List.getElem?_replicate,if_pos hi] at h
  cases h
 ·rw [List.getElem?_append_right (by simpa using hi),List.length_replicate,List.getElem?_map] at h
  refine⟨by omega, ?_⟩
  cases e:js[i-own]? with
  |none=>rw [e] at h;cases h
  |some j=>
   rw [e] at h
   refine⟨j,rfl, ?_⟩
   have h':(σ[j]?).getD none=some v:=Option.some.inj h
   cases e2:σ[j]? with
   |none=>rw [e2] at h';cases h'
   |some o=>rw [e2] at h';exact congrArg some h'
theorem gO_ {X:Cx}{elt tg iter:Expr}{ifs:List Expr}{scope:Scope}{pos ps:Pos}{N:List Str}{own:Nat}{js:List Nat}{wi:TI}{g:TG}{ti:TT}{te:TE} (hc:X.calm=true)
  (hcell:∀y∈scope.names,y.2≠ .cell) (hkind:scope.kind= .function) (hnames:∀y∈scope.names,y.2= .local→scope.names.lookup y.1=some .local)
  (hfree:∀y∈scope.names,y.2= .free→X.env.kindOf y.1=some .cell∨X.env.kindOf y.1=some .free) (hlen:N.length=own+js.length)
  (hcap:∀(i j:Nat) (x:Str),js[i]? =some j→N[own+i]? =some x→X.N[j]? =some x∧(x,NameKind.free)∈scope.names∧(X.env.kindOf x=some .cell∨X.env.kindOf x=some .free)∧((relabel scope X.env).names.lookup x=some .cell∨(relabel scope X.env).names.lookup x=some .free))
  (hi:PI X tg iter wi) (hg:∀C s₀ H₀ ex,PG (X.comp scope C N s₀ H₀ ex fun _ _=>False) tg g) (ho:mO_ own g) (ht:∀C s₀ H₀ ex,mN_ (X.comp scope C N s₀ H₀ ex fun _ _=>False) ifs ti) (he:∀C s₀ H₀ ex,PE (X.comp scope C N s₀ H₀ ex fun _ _=>False) elt te)
  {pins:List (Addr×Obj)}{s:Shared}{σ:St}{H:Hp}{Q:VK}{use:Option (Value→Sem Unit)}{RQ:Value→Shared→Prop} (I:Inv X pins σ H s) (h:i8_ own js wi g ti te σ H Q)
  (fin:∀(acc C:Addr) (H3:Hp) (s4:Shared) (m:Str→Option Value),Inv X pins σ H3 s4→s4.heap.Ns C m→H3 C=none→C≠X.env.locals→C∉X.fs→X.s₀.heap.objs.size≤C→(∀x c,X.env.cells.lookup x=some c→c≠C)→(∀p∈X.pn++pins,p.1≠C)→
   Q (.ref acc) H3→compPost (model X.prog X.w) X.A X.xe use RQ (.ref acc) C (.ok .next) s4)
  (hs:∀x,foldedSetIterable iter X.env x=pure x:=by intro _;rfl):
  wpAny (model X.prog X.w) X.A (comprehension (.ListComp elt [⟨tg,iter,ifs,0⟩] scope pos) scope X.env ps (newList []) false (eval iter X.env) use) RQ X.xe s:=by
 have hcl:∀y∈scope.names,y.2= .free→∃c,X.env.cells.lookup y.1=some c:=fun y hy hf=>I.ok.has y.1 (hfree y hy hf)
 refine wpAny_comprehension_free (use:=use) rfl hs (i0_ hcl) hkind hnames (thn (hi pins s σ H _ I h) fun v s1 h1=>thn h1 fun itv s2 h2=> ?_)
 obtain⟨it,fp,tn,J,H2,e,I2,T,st2,f2,q⟩:=h2
 subst e
 have nf:H2 s2.heap.objs.size=none:=I2.hok.fresh (Nat.le_refl _)
 obtain⟨W,⟨m0,w0⟩,turn⟩:=q s2.heap.objs.size nf
 refine wpAny_newObj_type (wpAny_newFunctionEnv hcell (by intro y hy;simp at hy) (fun h₁ hns₁ hsb₁=> ?_) hkind)
 dsimp only at hns₁ hsb₁⊢
 generalize hP2:s2.heap.push {cls:= .type "list",dict:=none,data:= .seq ([]:List Value).toArray}=P2 at hns₁ hsb₁⊢
 have hC:P2.objs.size=s2.heap.objs.size+1:=by rw [←hP2,Heap.size_push]
 have hC1:s2.heap.objs.size<P2.objs.size:=by rw [hC];exact Nat.lt_succ_self _
 have kp:∀b o,s2.heap.get? b=some o→h₁.get? b=some o:=fun b o e=>hsb₁.extBut b o (Nat.ne_of_lt (Nat.lt_trans (Heap.lt_size e) hC1)) (Heap.get?_push_of_some _ (hP2▸Heap.get?_push_of_some _ e))
 have hacc:h₁.get? s2.heap.objs.size=some {cls:= .type "list",dict:=none,data:= .seq ([]:List Value).toArray}:=hsb₁.extBut _ _ (Nat.ne_of_lt hC1) (Heap.get?_push_of_some _ (hP2▸Heap.get?_push_size _ rfl))
 have lkc:∀x c,(hN_ X.env scope.names []).lookup x=some c→X.env.cells.lookup x=some c:=fun x c e=>eL_ scope.names [] hcl (fun _ _ z=>by simp at z) e
 have cne:∀x c,(hN_ X.env scope.names []).lookup x=some c→c<s2.heap.objs.size∧H2 c=none:=fun x c e=>by
  obtain⟨v,o,ho,hd⟩:=I2.cell x c (lkc x c e)
  exact⟨Heap.lt_size ho,I2.freeC x c (lkc x c e)⟩
 have fpl:∀b∈fp,b<s2.heap.objs.size:=fun b hb=>by
  obtain⟨o,e,_⟩:=T.obj 0 _ st2 b hb
  exact Heap.lt_size e
 have hX:(X.comp scope P2.objs.size N s2 H2 fp fun _ _=>False).Ok:={
  mod:=I.ok.mod
  kind:=hkind
  glob:=I.ok.glob
  blt:=I.ok.blt
  above:=Nat.le_of_lt hC1
  inj:=fun x y c a b=>I.ok.inj x y c (lkc x c a) (lkc y c b)
  has:=fun x hx=>f6_ scope.names [] (cB_ (scope:=scope) (env:=X.env) hx hcell)
  cab:=fun x c a _=>by cases (show false=true from a)
  hd:=I.ok.hd
  frames:=I.ok.frames
  stk:= .inl rfl
  exf:=fun b hb=>⟨Nat.ne_of_lt (Nat.lt_trans (fpl b hb) hC1),fun x c a=>(f2 b hb).2.2.2.2.1 x c (lkc x c a)⟩
  bs:=I2.bs
  bsz:=Nat.le_trans I.ok.bsz I2.sz
  noex:=fun b o e hb=>by
   rcases(f2 b hb).2.2.2.1 with z|z
   ·exact I.ok.noex b o e z
   ·exact absurd (Nat.lt_of_lt_of_le (Nat.lt_of_lt_of_le (Heap.lt_size e) I.ok.bsz) z) (Nat.lt_irrefl _)
  exfs:=fun b hb z=>by
   rcases List.mem_cons.mp (I2.stkSub b z) with z|z
   ·exact(f2 b hb).2.1 z
   ·exact(f2 b hb).2.2.1 z
  funs:=I2.stack
  frf:=I2.stkFree}
 have I3:∀tk,Inv (X.comp scope P2.objs.size N s2 H2 fp fun _ _=>False) [] (kx_ own js σ) (upd H2 s2.heap.objs.size (.lst [])) {s2 with heap:=h₁,toks:=tk}:=fun tk=>{
  ok:=hX
  os:=rfl
  bare:=I2.bare
  base:=Un.laid kp (Nat.le_refl _) nf
  loc:=⟨_,hns₁,fun i x v a b c=>by
   obtain⟨hio,j,hj,hv⟩:=gR_ b
   obtain⟨h3,h4,h5,h6⟩:=hcap (i-own) j x hj (by rw [show own+(i-own)=i by omega];exact a)
   obtain⟨m,hn,hl⟩:=I2.loc
   obtain⟨u,ru,lk⟩:=hl j x v h3 hv (.inr h5)
   refine⟨u,ru, .inr ⟨h6, ?_⟩⟩
   rcases lk with⟨z,_⟩|⟨_,c0,z1,z2⟩
   ·rcases h5 with h5|h5<;>(rw [h5] at z;cases z)
   ·obtain⟨c1,hc1⟩:=f6_ (env:=X.env) scope.names [] h4
    have:=lkc x c1 hc1
    rw [z1] at this
    cases this
    obtain⟨o,ho,hd⟩:=z2
    exact⟨c0,hc1,o,kp _ _ ho,hd⟩⟩
  cell:=fun x c a=>by
   obtain⟨v,o,ho,hd⟩:=I2.cell x c (lkc x c a)
   exact⟨v,o,kp _ _ ho,hd⟩
  free:=by
   show upd H2 _ _ P2.objs.size=none
   rw [ar_ (Nat.ne_of_gt hC1)]
   exact I2.hok.fresh (Nat.le_of_lt hC1)
  freeC:=fun x c a=>by
   rw [ar_ (Nat.ne_of_lt (cne x c a).1)]
   exact(cne x c a).2
  pin:=fun p hp=>absurd (show p∈([]:List (Addr×Obj)) from hp) (by simp)
  hok:=I2.hok.laid kp (Nat.le_refl _) ⟨Nat.zero_le _,[],0, .nil,hacc⟩
  len:=by rw [hO_];exact hlen.symm}
 have fr0:∀b∈fp,upd H2 s2.heap.objs.size (.lst []) b=none:=fun b hb=>by
  rw [ar_ (Nat.ne_of_lt (fpl b hb))]
  exact(f2 b hb).1
 have st3:tn 0 h₁:=T.keep 0 _ _ st2 fun b _ o e=>kp b o e
 have stat:∀{H':Hp},(∀b∈fp,H' b=none)→∀b∈fp,lH_ (X.comp scope P2.objs.size N s2 H2 fp fun _ _=>False) [] H' b:=fun hn b hb=>
  ⟨hn b hb,(hX.exf b hb).1,hX.exfs b hb, .inl hb,fun x c a=>(hX.exf b hb).2 x c a,fun p hp=>absurd (show p∈([]:List (Addr×Obj)) from hp) (by simp)⟩
 have loop:∀s₃:Shared,s₃={s2 with heap:=h₁,toks:=s2.toks+([]:List (Str×Value)).length}→
   codeAny (model X.prog X.w) X.A (.compLoop (.ListComp elt [⟨tg,iter,ifs,0⟩] scope pos) 0 (.ref it) (.ref s2.heap.objs.size) (compEnvC scope (hN_ X.env scope.names []) P2.objs.size X.env))
    (compPost (model X.prog X.w) X.A X.xe use RQ (.ref s2.heap.objs.size) P2.objs.size) s₃:=by
  rintro s₃ rfl
  refine ko_ (fun n s'=>∃i H',Inv (X.comp scope P2.objs.size N s2 H2 fp fun _ _=>False) [] (kx_ own js σ) H' s'∧tn i s'.heap∧(∀b∈fp,H' b=none)∧W i n H') ?_ m0 ⟨0,_,I3 _,st3,fr0,w0⟩
  rintro n s3 ⟨i,H3,J3,t3,fr3,w3⟩
  rcases turn i n H3 w3 with⟨stop,qd⟩|⟨go,step⟩
  ·refine lL_ (T.done (X.comp scope P2.objs.size N s2 H2 fp fun _ _=>False) rfl rfl rfl hc i [] s3 _ H3 _ J3 (stat fr3) t3 stop) fun r s4 ⟨hr,J4⟩=> ?_
   subst hr
   obtain⟨m,hn,_⟩:=J4.loc
   have B:Un (frs X.stack) fp H2 H3 s2.heap s4.heap:=J4.base
   have I5:Inv X pins σ H3 s4:=I2.call' J4.os B J4.hok J4.bare fun b hb=>by
    obtain⟨a1,a2,a3,a4,a5,a6⟩:=f2 b hb
    exact⟨a4,a2,a5,a6⟩
   have hp:=I2.fpOk (H':=H3) (b:=P2.objs.size) (Nat.le_of_lt hC1) J4.free
   obtain⟨a1,a2,a3,a4,a5,a6⟩:=hp
   exact fin s2.heap.objs.size P2.objs.size H3 s4 m I5 hn a1 a2 a3 (Nat.le_trans I2.sz (Nat.le_of_lt hC1)) a5 a6 qd
  ·refine lL_ (T.item (X.comp scope P2.objs.size N s2 H2 fp fun _ _=>False) rfl rfl rfl hc i [] s3 _ H3 _ J3 (stat fr3) t3 go) fun r s4 ⟨u,hr,h4⟩=> ?_
   subst hr
   refine lL_ h4 fun _ s5 ⟨x,H5,J5,r5,y5,t5,fr5⟩=> ?_
   have J5':=J5.pinned (stat fr5) (T.obj _ _ t5)
   refine lL_ (hg _ _ _ _ _ s5 _ H5 x u _ J5' r5 (ho _ _ _ _ (step x H5 y5))) fun _ s6 ⟨σ6,H6,J6,q6,hl6,ho6⟩=> ?_
   have again:∀{s7:Shared}{H7:Hp},Inv (X.comp scope P2.objs.size N s2 H2 fp fun _ _=>False) ([]++gl_ fp s5.heap) σ6 H7 s7→(∃m',m'<n∧W (i+1) m' H7)→
     ∃m,m<n∧∃i H',Inv (X.comp scope P2.objs.size N s2 H2 fp fun _ _=>False) [] (kx_ own js σ) H' s7∧tn i s7.heap∧(∀b∈fp,H' b=none)∧W i m H':=fun{s7 H7} J7 z=>by
    obtain⟨m',hm,w7⟩:=z
    refine⟨m',hm,i+1,H7,J7.unpinned.weak (by rw [hl6]) (fun k v z=> ?_),T.keep _ _ _ t5 fun b hb o e=>(J7.pin (b,o) (List.mem_append_right _ (List.mem_append_right _ (cQ_ hb e)))).1,fun b hb=> ?_,w7⟩
    ·rw [ho6 k (gR_ z).1]
     exact z
    ·obtain⟨o,e,d⟩:=T.obj _ _ t5 b hb
     exact(J7.pin (b,o) (List.mem_append_right _ (List.mem_append_right _ (cQ_ hb e)))).2.1
   refine lL_ (ht _ _ _ _ _ s6 σ6 H6 _ J6 q6) fun ok s7 ⟨H7,J7,q7⟩=> ?_
   cases ok with
   |false=>exact again J7 q7
   |true=>
    refine lL_ (he _ _ _ _ _ s7 σ6 H7 _ J7 q7) fun y s8 ⟨yv,H8,J8,r8,q8⟩=> ?_
    exact lL_ (by_ _ s8 σ6 H8 (.ref s2.heap.objs.size) [yv] (.ref s2.heap.objs.size) [y] _ J8 rfl (.cons r8 .nil) q8) fun _ s9 ⟨_,H9,J9,_,q9⟩=>again J9 q9
 exact codeAny_compStart_list (loop _ rfl) (T.self X.A 0 _ _ _ st3 (loop _ rfl))
theorem l9_ {X:Cx}{elt tg iter:Expr}{ifs:List Expr}{scope:Scope}{pos:Pos}{N:List Str}{own:Nat}{js:List Nat}{wi:TI}{g:TG}{ti:TT}{te:TE} (hc:X.calm=true)
  (hcell:∀y∈scope.names,y.2≠ .cell) (hkind:scope.kind= .function) (hnames:∀y∈scope.names,y.2= .local→scope.names.lookup y.1=some .local)
  (hfree:∀y∈scope.names,y.2= .free→X.env.kindOf y.1=some .cell∨X.env.kindOf y.1=some .free) (hlen:N.length=own+js.length)
  (hcap:∀(i j:Nat) (x:Str),js[i]? =some j→N[own+i]? =some x→X.N[j]? =some x∧(x,NameKind.free)∈scope.names∧(X.env.kindOf x=some .cell∨X.env.kindOf x=some .free)∧((relabel scope X.env).names.lookup x=some .cell∨(relabel scope X.env).names.lookup x=some .free))
  (hi:PI X tg iter wi) (hg:∀C s₀ H₀ ex,PG (X.comp scope C N s₀ H₀ ex fun _ _=>False) tg g) (ho:mO_ own g) (ht:∀C s₀ H₀ ex,mN_ (X.comp scope C N s₀ H₀ ex fun _ _=>False) ifs ti) (he:∀C s₀ H₀ ex,PE (X.comp scope C N s₀ H₀ ex fun _ _=>False) elt te)
  (hs:∀x,foldedSetIterable iter X.env x=pure x:=by intro _;rfl):PE X (.ListComp elt [⟨tg,iter,ifs,0⟩] scope pos) (i8_ own js wi g ti te):=by
 intro pins s σ H Q I h
 rw [eval_ListComp]
 refine gO_ hc hcell hkind hnames hfree hlen hcap hi hg ho ht he I h (use:=none) (fun acc C H3 s4 m I5 hn c1 c2 c3 c4 c5 c6 q=> ?_) hs
 refine⟨m,hn,fun h' sb=>⟨.ref acc,H3, ?_,rfl,q⟩⟩
 exact I5.turned (t':=s4.toks) (it:=C) (fun b o hb e=>(sb.2 b hb).trans e) c1 c2 (.inr c4) c5 c6
theorem l2_ {X:Cx}{i:Nat}{y:Str}{py spos:Pos}{elt tg iter:Expr}{ifs:List Expr}{scope:Scope}{pos:Pos}{N:List Str}{own:Nat}{js:List Nat}{wi:TI}{g:TG}{ti:TT}{te:TE} (hN:X.N.Nodup) (hi':X.N[i]? =some y) (hy:Loc X.env.scope y) (hf:X.fn y=true∨X.env.scope.names.lookup y=some .local)
  (hc:X.calm=true)
  (hcell:∀y∈scope.names,y.2≠ .cell) (hkind:scope.kind= .function) (hnames:∀y∈scope.names,y.2= .local→scope.names.lookup y.1=some .local)
  (hfree:∀y∈scope.names,y.2= .free→X.env.kindOf y.1=some .cell∨X.env.kindOf y.1=some .free) (hlen:N.length=own+js.length)
  (hcap:∀(i j:Nat) (x:Str),js[i]? =some j→N[own+i]? =some x→X.N[j]? =some x∧(x,NameKind.free)∈scope.names∧(X.env.kindOf x=some .cell∨X.env.kindOf x=some .free)∧((relabel scope X.env).names.lookup x=some .cell∨(relabel scope X.env).names.lookup x=some .free))
  (hi:PI X tg iter wi) (hg:∀C s₀ H₀ ex,PG (X.comp scope C N s₀ H₀ ex fun _ _=>False) tg g) (ho:mO_ own g) (ht:∀C s₀ H₀ ex,mN_ (X.comp scope C N s₀ H₀ ex fun _ _=>False) ifs ti) (he:∀C s₀ H₀ ex,PE (X.comp scope C N s₀ H₀ ex fun _ _=>False) elt te)
  (hsw:swapsWith (.ListComp elt [⟨tg,iter,ifs,0⟩] scope pos) (some (.Name y py)) spos.line X.env=pure true:=by rfl)
  (hs:∀x,foldedSetIterable iter X.env x=pure x:=by intro _;rfl):PS X (.Assign [.Name y py] (.ListComp elt [⟨tg,iter,ifs,0⟩] scope pos) spos) (n3_ (i8_ own js wi g ti te) (dw_ i)):=by
 intro pins s σ H D I h
 rw [exec_Assign_Name_used _ _ _ _ hsw]
 refine wpAny_bind (wpAny_standAt (wpAny_bind ?_))
 show wpAny _ X.A (do let _←comprehension (.ListComp elt [⟨tg,iter,ifs,0⟩] scope pos) scope X.env _ (newList []) false (eval iter X.env) (some (assign (.Name y py) X.env))) _ _ s
 refine wpAny_bind (wpAny_mono (gO_ hc hcell hkind hnames hfree hlen hcap hi hg ho ht he I h (use:=some (assign (.Name y py) X.env)) (RQ:=fun _ s'=>SP X pins D .next s') (fun acc C H3 s4 m I5 hn c1 c2 c3 c4 c5 c6 q=> ?_) hs) (fun _ s' hq=>wpAny_pure (wpAny_pure hq)) fun _ _ e=>e)
 show wpAny _ X.A (assign (.Name y py) X.env (.ref acc)) _ _ _
 obtain⟨o,es,ep,ho',hd,hr⟩:=hn
 have I6:Inv X (pins++[(C,o)]) σ H3 s4:=I5.pins_of fun p hp=>by
  rcases List.mem_append.mp hp with z|z
  ·exact I5.pin p (List.mem_append_right _ z)
  ·rw [List.mem_singleton.mp z]
   exact⟨ho',c1,c2,c3,fun v z=>by rw [hd] at z;cases z⟩
 refine wpAny_assign_Name (d2_ I6 hN hi' hy (v:= .ref acc) rfl (fun s' I7=> ?_) hf)
 have hp:=I7.pin (C,o) (List.mem_append_right _ (List.mem_append_right _ (by simp)))
 refine⟨m,⟨o,es,ep,hp.1,hd,hr⟩,fun h' sb=>⟨_,H3, ?_,q⟩⟩
 exact I7.unpinned.turned (t':=s'.toks) (it:=C) (fun b o hb e=>(sb.2 b hb).trans e) c1 c2 (.inr c4) c5 c6
end L2
namespace L2
open PySem PySem.Spec PyProof.Rows
def iD_ (XN:List Str) (sc scope:Scope) (own:Nat) (js:List Nat) (N:List Str):Bool:=
 (scope.names.all fun y=>decide (y.2≠ .cell)&&(decide (y.2≠ .local)||decide (scope.names.lookup y.1=some .local))&&(decide (y.2≠ .free)||decide (sc.names.lookup y.1=some .cell)||decide (sc.names.lookup y.1=some .free)))&&
  decide (scope.kind= .function)&&decide (N.length=own+js.length)&&
  (List.range js.length).all fun i=>match js[i]?,N[own+i]? with
   |some j,some x=>decide (XN[j]? =some x)&&decide (scope.names.lookup x=some .free)&&(decide (sc.names.lookup x=some .cell)||decide (sc.names.lookup x=some .free))
   |_,_=>false
theorem be_ {env:Env}:∀{names:List (Str×NameKind)}{x:Str},names.lookup x=some .free→
  (names.map fun(n,k)=>if(k==NameKind.free&&env.scope.kind== .function&&env.kindOf n==some .cell) then(n,NameKind.cell) else(n,k)).lookup x=some .cell∨
  (names.map fun(n,k)=>if(k==NameKind.free&&env.scope.kind== .function&&env.kindOf n==some .cell) then(n,NameKind.cell) else(n,k)).lookup x=some .free
 |[],_,h=>by simp at h
 |(n,k)::r,x,h=>by
  have ih:= @be_ env r x
  rw [List.map_cons,List.lookup_cons]
  rw [List.lookup_cons] at h
  by_cases hc:(k==NameKind.free&&env.scope.kind== .function&&env.kindOf n==some .cell)=true
  ·rw [if_pos hc]
   dsimp only
   cases hx:x==n with
   |true=>exact .inl rfl
   |false=>
    rw [hx] at h
    exact ih h
  ·rw [if_neg hc]
   dsimp only
   cases hx:x==n with
   |true=>
    rw [hx] at h
    exact .inr h
   |false=>
    rw [hx] at h
    exact ih h
structure CompOk (XN:List Str) (sc scope:Scope) (own:Nat) (js:List Nat) (N:List Str):Prop where
 cell:∀y∈scope.names,y.2≠ .cell
 names:∀y∈scope.names,y.2= .local→scope.names.lookup y.1=some .local
 free:∀y∈scope.names,y.2= .free→sc.names.lookup y.1=some .cell∨sc.names.lookup y.1=some .free
 kind:scope.kind= .function
 len:N.length=own+js.length
 cap:∀(i j:Nat) (x:Str),js[i]? =some j→N[own+i]? =some x→XN[j]? =some x∧scope.names.lookup x=some .free∧(sc.names.lookup x=some .cell∨sc.names.lookup x=some .free)
theorem gP_ {XN:List Str}{sc scope:Scope}{own:Nat}{js:List Nat}{N:List Str} (h:iD_ XN sc scope own js N=true):CompOk XN sc scope own js N:=by
 unfold iD_ at h
 rw [Bool.and_eq_true,Bool.and_eq_true,Bool.and_eq_true] at h
 obtain⟨⟨⟨h1,h2⟩,h3⟩,h4⟩:=h
 rw [List.all_eq_true] at h1 h4
 refine⟨fun y hy=> ?_,fun y hy e=> ?_,fun y hy e=> ?_,of_decide_eq_true h2,of_decide_eq_true h3,fun i j x a b=> ?_⟩
 ·have:=h1 y hy
  rw [Bool.and_eq_true,Bool.and_eq_true] at this
  exact of_decide_eq_true this.1.1
 ·have:=h1 y hy
  rw [Bool.and_eq_true,Bool.and_eq_true,Bool.or_eq_true] at this
  rcases this.1.2 with z|z
  ·exact absurd e (of_decide_eq_true z)
  ·exact of_decide_eq_true z
 ·have:=h1 y hy
  rw [Bool.and_eq_true,Bool.and_eq_true,Bool.or_eq_true,Bool.or_eq_true,Bool.or_eq_true] at this
  rcases this.2 with(z|z)|z
  ·exact absurd e (of_decide_eq_true z)
  ·exact .inl (of_decide_eq_true z)
  ·exact .inr (of_decide_eq_true z)
 ·have hi:i<js.length:=(List.getElem?_eq_some_iff.mp a).1
  have:=h4 i (List.mem_range.mpr hi)
  rw [a,b] at this
  dsimp only at this
  rw [Bool.and_eq_true,Bool.and_eq_true,Bool.or_eq_true] at this
  exact⟨of_decide_eq_true this.1.1,of_decide_eq_true this.1.2,this.2.imp of_decide_eq_true of_decide_eq_true⟩
section
variable {X:Cx}{XN:List Str}{sc scope:Scope}{elt tg iter:Expr}{ifs:List Expr}{pos:Pos}{N:List Str}{own:Nat}{js:List Nat}{wi:TI}{g:TG}{ti:TT}{te:TE}
theorem bH_ (hc:X.calm=true) (ok:iD_ XN sc scope own js N=true) (hsc:X.env.scope=sc) (hXN:X.N=XN) (hi:PI X tg iter wi) (hg:∀C s₀ H₀ ex,PG (X.comp scope C N s₀ H₀ ex fun _ _=>False) tg g) (ho:mO_ own g)
  (ht:∀C s₀ H₀ ex,mN_ (X.comp scope C N s₀ H₀ ex fun _ _=>False) ifs ti) (he:∀C s₀ H₀ ex,PE (X.comp scope C N s₀ H₀ ex fun _ _=>False) elt te)
  (hs:∀x,foldedSetIterable iter X.env x=pure x:=by intro _;rfl):PE X (.ListComp elt [⟨tg,iter,ifs,0⟩] scope pos) (i8_ own js wi g ti te):=by
 obtain⟨h1,h2,h3,h4,h5,h6⟩:=gP_ ok
 subst hsc hXN
 refine l9_ hc h1 h4 h2 h3 h5 (fun i j x a b=> ?_) hi hg ho ht he hs
 obtain⟨z1,z2,z3⟩:=h6 i j x a b
 exact⟨z1,PySem.mem_of_lookup z2,z3,be_ z2⟩
theorem fq_ {i:Nat}{y:Str}{py spos:Pos} (hN:X.N.Nodup) (hi':X.N[i]? =some y) (hy:Loc X.env.scope y) (hf:X.fn y=true∨X.env.scope.names.lookup y=some .local) (hc:X.calm=true) (ok:iD_ XN sc scope own js N=true) (hsc:X.env.scope=sc) (hXN:X.N=XN) (hi:PI X tg iter wi)
  (hg:∀C s₀ H₀ ex,PG (X.comp scope C N s₀ H₀ ex fun _ _=>False) tg g) (ho:mO_ own g)
  (ht:∀C s₀ H₀ ex,mN_ (X.comp scope C N s₀ H₀ ex fun _ _=>False) ifs ti) (he:∀C s₀ H₀ ex,PE (X.comp scope C N s₀ H₀ ex fun _ _=>False) elt te)
  (hsw:swapsWith (.ListComp elt [⟨tg,iter,ifs,0⟩] scope pos) (some (.Name y py)) spos.line X.env=pure true:=by rfl)
  (hs:∀x,foldedSetIterable iter X.env x=pure x:=by intro _;rfl):PS X (.Assign [.Name y py] (.ListComp elt [⟨tg,iter,ifs,0⟩] scope pos) spos) (n3_ (i8_ own js wi g ti te) (dw_ i)):=by
 obtain⟨h1,h2,h3,h4,h5,h6⟩:=gP_ ok
 subst hsc hXN
 refine l2_ hN hi' hy hf hc h1 h4 h2 h3 h5 (fun i j x a b=> ?_) hi hg ho ht he hsw hs
 obtain⟨z1,z2,z3⟩:=h6 i j x a b
 exact⟨z1,PySem.mem_of_lookup z2,z3,be_ z2⟩
end
theorem ff_ {lo:Int}{n:Nat}{own:Nat}{js:List Nat}{g:TG}{ti:TT}{te:TE}{σ:St}{H1:Hp}{acc:Addr}{Q:VK} (Pv:Nat→Hp→Prop) (h0:Pv 0 (upd H1 acc (.lst [])))
  (hs:∀i H2,i<n→Pv i H2→g (.int (lo+i)) (kx_ own js σ) H2 fun σ4 H4=>ti σ4 H4 fun b H5=>if b=true then te σ4 H5 fun y H6=>fp_ (.ref acc) [y] H6 fun _ H7=>Pv (i+1) H7 else Pv (i+1) H5) (hd:∀H2,Pv n H2→Q (.ref acc) H2)
  (mono:∀σ H (R R':St→Hp→Prop) x,(∀σ' H',R σ' H'→R' σ' H')→g x σ H R→g x σ H R') (monoT:∀σ H (R R':Bool→Hp→Prop),(∀b H',R b H'→R' b H')→ti σ H R→ti σ H R') (monoE:∀σ H (R R':VK),(∀v H',R v H'→R' v H')→te σ H R→te σ H R'):
  mQ_ (Itr lo n) own js g ti te σ H1 acc Q:=by
 refine⟨fun i m H2=>m=n-i∧i≤n∧Pv i H2,⟨n,by simp,Nat.zero_le _,h0⟩, ?_⟩
 rintro i m H2 ⟨rfl,hi,p⟩
 by_cases hlt:i<n
 ·refine .inr ⟨hlt,fun x H3 y=> ?_⟩
  obtain⟨e1,e2⟩:=y
  subst e1 e2
  refine mono _ _ _ _ _ (fun σ4 H4 q=>monoT _ _ _ _ (fun b H5 q=> ?_) q) (hs i _ hlt p)
  cases b with
  |true=>
   refine monoE _ _ _ _ (fun v H6 q=> ?_) q
   obtain⟨l,xs,y,a1,a2,a3,a4,a5⟩:=q
   exact⟨l,xs,y,a1,a2,a3,a4,n-(i+1),by omega,rfl,hlt,a5⟩
  |false=>exact⟨n-(i+1),by omega,rfl,hlt,q⟩
 ·have e:i=n:=by omega
  subst e
  exact .inl ⟨Nat.le_refl _,hd H2 p⟩
theorem bb_ {K:PySem.W.Frag}{a:Addr}{xs:List V}{own:Nat}{js:List Nat}{g:TG}{ti:TT}{te:TE}{σ:St}{H1:Hp}{acc:Addr}{Q:VK} (Pv:Nat→Hp→Prop) (h0:Pv 0 (upd H1 acc (.lst []))) (hl:∀i H2,i≤xs.length→Pv i H2→SqL K H2 a xs)
  (hs:∀i x H2,xs[i]? =some x→Pv i H2→g x (kx_ own js σ) H2 fun σ4 H4=>ti σ4 H4 fun b H5=>if b=true then te σ4 H5 fun y H6=>fp_ (.ref acc) [y] H6 fun _ H7=>Pv (i+1) H7 else Pv (i+1) H5) (hd:∀H2,Pv xs.length H2→Q (.ref acc) H2)
  (mono:∀σ H (R R':St→Hp→Prop) x,(∀σ' H',R σ' H'→R' σ' H')→g x σ H R→g x σ H R') (monoT:∀σ H (R R':Bool→Hp→Prop),(∀b H',R b H'→R' b H')→ti σ H R→ti σ H R') (monoE:∀σ H (R R':VK),(∀v H',R v H'→R' v H')→te σ H R→te σ H R'):
  mQ_ (Itl K a) own js g ti te σ H1 acc Q:=by
 refine⟨fun i m H2=>m=xs.length-i∧i≤xs.length∧Pv i H2,⟨xs.length,by simp,Nat.zero_le _,h0⟩, ?_⟩
 rintro i m H2 ⟨rfl,hi,p⟩
 have q:=hl i H2 hi p
 by_cases hlt:i<xs.length
 ·refine .inr ⟨⟨xs,xs[i],q,by simp [hlt]⟩,fun x H3 y=> ?_⟩
  obtain⟨e1,y⟩:=y
  subst e1
  refine mono _ _ _ _ _ (fun σ4 H4 q=>monoT _ _ _ _ (fun b H5 q=> ?_) q) (hs i x _ (y xs q) p)
  cases b with
  |true=>
   refine monoE _ _ _ _ (fun v H6 q=> ?_) q
   obtain⟨l,xs,y,a1,a2,a3,a4,a5⟩:=q
   exact⟨l,xs,y,a1,a2,a3,a4,_,by omega,rfl,hlt,a5⟩
  |false=>exact⟨_,by omega,rfl,hlt,q⟩
 ·have e:i=xs.length:=by omega
  subst e
  exact .inl ⟨⟨xs,q,Nat.le_refl _⟩,hd H2 p⟩
theorem a1_ {i:Nat}:∀(σ:St) (H:Hp) (R R':St→Hp→Prop) (x:V),(∀σ' H',R σ' H'→R' σ' H')→dw_ i x σ H R→dw_ i x σ H R':=fun _ _ _ _ _ k h=>k _ _ h
theorem lk_ {A B:St→Hp→Prop}{i:Nat}{x:V}{σ:St}{H:Hp} (h:A (σ.set i (some x)) H):dw_ i x σ H fun σ4 H4=>n2_ σ4 H4 fun b H5=>if b=true then A σ4 H5 else B σ4 H5:=by
 show if true=true then A (σ.set i (some x)) H else B (σ.set i (some x)) H
 rw [if_pos rfl]
 exact h
theorem ci_ {n i:Nat} (h:i<n):ixN n (i:Int)=some i:=by
 unfold ixN
 rw [if_pos (by omega),if_pos (by omega),Int.toNat_natCast]
theorem bS_:∀(σ:St) (H:Hp) (R R':Bool→Hp→Prop),(∀b H',R b H'→R' b H')→n2_ σ H R→n2_ σ H R':=fun _ _ _ _ k h=>k _ _ h
end L2
namespace L2
open PySem PySem.Spec PyProof.Rows
section
variable {X:Cx}{K:PySem.W.Frag}
end
end L2
namespace L2
open PySem PySem.Spec PyProof.Rows
inductive EqR (K:PySem.W.Frag) (H:Hp):Nat→V→V→Bool→Prop where
 |int (d:Nat) (i j:Int):EqR K H d (.int i) (.int j) (decide (i=j))
 |lists {d:Nat}{a b:Addr}{xs ys:List V} (es:Nat→Bool) (h1:SqL K H a xs) (h2:SqL K H b ys) (hl:xs.length=ys.length) (he:∀(j:Nat) x y,xs[j]? =some x→ys[j]? =some y→EqR K H d x y (es j)):EqR K H (d+1) (.ref a) (.ref b) ((List.range xs.length).all es)
 |lens {d:Nat}{a b:Addr}{xs ys:List V} (h1:SqL K H a xs) (h2:SqL K H b ys) (hl:xs.length≠ys.length):EqR K H (d+1) (.ref a) (.ref b) false
 |tuples {d:Nat}{a b:Addr}{xs ys:List V} (es:Nat→Bool) (h1:SqT K H a xs) (h2:SqT K H b ys) (he:∀(j:Nat) x y,xs[j]? =some x→ys[j]? =some y→EqR K H d x y (es j)):EqR K H (d+1) (.ref a) (.ref b) ((List.range (min xs.length ys.length)).all es&&xs.length==ys.length)
section
variable {X:Cx}{pins:List (Addr×Obj)}{σ:St}{H:Hp}{s:Shared}
theorem EqR.same (I:Inv X pins σ H s) {d:Nat}{x y:V}{e:Bool} (h:EqR X.K H d x y e):x=y→e=true:=by
 induction h with
 |int d i j=>intro q;cases q;simp
 |lists es h1 h2 hl he ih=>
  intro q
  cases q
  have z:=I.list_inj h1 h2
  subst z
  rw [List.all_eq_true]
  intro j hj
  rw [List.mem_range] at hj
  have hx:=List.getElem?_eq_getElem hj
  exact ih j _ _ hx hx rfl
 |lens h1 h2 hl=>
  intro q
  cases q
  exact absurd (congrArg List.length (I.list_inj h1 h2)) hl
 | @tuples d a b xs ys es h1 h2 he ih=>
  intro q
  cases q
  have z:=I.tuple_inj h1 h2
  subst z
  rw [Bool.and_eq_true]
  refine⟨?_,by simp⟩
  rw [List.all_eq_true]
  intro j hj
  rw [List.mem_range,Nat.min_self] at hj
  have hx:=List.getElem?_eq_getElem hj
  exact ih j _ _ hx hx rfl
theorem aB_ (A:Around):A.in1.units=A.units+1:=rfl
theorem EqR.at_ (I:Inv X pins σ H s) {d:Nat}{x y:V}{e:Bool} (h:EqR X.K H d x y e):∀{A:Around}{u v:Value},A.units+d<cLine→bf_ x u→bf_ y v→SeqAt.RcAt A s u v e∧SeqAt.RcNeAt A s u v (!e)∧SeqAt.EqAt A s u v e:=by
 induction h with
 |int d i j=>
  intro A u v hu ru rv
  obtain⟨t,rfl⟩:=ru
  obtain⟨t',rfl⟩:=rv
  have e:decide (i=j)=(i==j):=by rw [Bool.beq_eq_decide_eq]
  rw [e]
  exact⟨SeqAt.RcAt.int_int i t j t',SeqAt.RcNeAt.int_int i t j t',SeqAt.EqAt.int_int i t j t'⟩
 | @lists d a b xs ys es h1 h2 hl he ih=>
  intro A u v hu ru rv
  obtain rfl:u=Value.ref a:=ru
  obtain rfl:v=Value.ref b:=rv
  obtain⟨is,r1,p1,z1⟩:=I.list h1
  obtain⟨js,r2,p2,z2⟩:=I.list h2
  have l1:=r1.length
  have l2:=r2.length
  have ln:xs.length=is.toArray.size:=by simpa using l1
  have sz:is.toArray.size=js.toArray.size:=by simp only [List.size_toArray];omega
  have it:∀j (q1:j<is.toArray.size) (q2:j<js.toArray.size),SeqAt.EqAt A.in1 s is.toArray[j] js.toArray[j] (es j):=fun j q1 q2=>by
   simp only [List.size_toArray] at q1 q2
   have hx:xs[j]? =some xs[j]:=List.getElem?_eq_getElem (by omega)
   have hy:ys[j]? =some ys[j]:=List.getElem?_eq_getElem (by omega)
   obtain⟨u1,e1,ru1⟩:=r1.get hx
   obtain⟨u2,e2,ru2⟩:=r2.get hy
   have g1:is.toArray[j]=u1:=by
    rw [List.getElem?_eq_getElem q1] at e1
    simpa using Option.some.inj e1
   have g2:js.toArray[j]=u2:=by
    rw [List.getElem?_eq_getElem q2] at e2
    simpa using Option.some.inj e2
   rw [g1,g2]
   exact(ih j _ _ hx hy (by rw [aB_];omega) ru1 ru2).2.2
  rw [ln]
  have R:=SeqAt.RcAt.lists (A:=A) p1.isList p2.isList sz (by omega) it
  refine⟨R,SeqAt.RcNeAt.lists p1.isList p2.isList sz (by omega) it, ?_⟩
  by_cases q:a=b
  ·subst q
   have:=(EqR.lists es h1 h2 hl he).same I rfl
   rw [ln] at this
   rw [this]
   exact SeqAt.EqAt.same _
  ·exact SeqAt.EqAt.of_refs q R
 | @lens d a b xs ys h1 h2 hl=>
  intro A u v hu ru rv
  obtain rfl:u=Value.ref a:=ru
  obtain rfl:v=Value.ref b:=rv
  obtain⟨is,r1,p1,z1⟩:=I.list h1
  obtain⟨js,r2,p2,z2⟩:=I.list h2
  have l1:=r1.length
  have l2:=r2.length
  have sz:(is.toArray.size !=js.toArray.size)=true:=by
   simp only [List.size_toArray,bne_iff_ne,ne_eq]
   omega
  have R:=SeqAt.RcAt.lists_lengths (A:=A) p1.isList p2.isList sz (by omega)
  refine⟨R,SeqAt.RcNeAt.lists_lengths p1.isList p2.isList sz (by omega), ?_⟩
  by_cases q:a=b
  ·subst q
   exact absurd (congrArg List.length (I.list_inj h1 h2)) hl
  ·exact SeqAt.EqAt.of_refs q R
 | @tuples d a b xs ys es h1 h2 he ih=>
  intro A u v hu ru rv
  obtain rfl:u=Value.ref a:=ru
  obtain rfl:v=Value.ref b:=rv
  obtain⟨is,r1,p1,z1⟩:=I.tuple h1
  obtain⟨js,r2,p2,z2⟩:=I.tuple h2
  have l1:=r1.length
  have l2:=r2.length
  have ln:xs.length=is.toArray.size:=by simpa using l1
  have ln2:ys.length=js.toArray.size:=by simpa using l2
  have it:∀j (q1:j<is.toArray.size) (q2:j<js.toArray.size),SeqAt.EqAt A.in1 s is.toArray[j] js.toArray[j] (es j):=fun j q1 q2=>by
   simp only [List.size_toArray] at q1 q2
   have hx:xs[j]? =some xs[j]:=List.getElem?_eq_getElem (by omega)
   have hy:ys[j]? =some ys[j]:=List.getElem?_eq_getElem (by omega)
   obtain⟨u1,e1,ru1⟩:=r1.get hx
   obtain⟨u2,e2,ru2⟩:=r2.get hy
   have g1:is.toArray[j]=u1:=by
    rw [List.getElem?_eq_getElem q1] at e1
    simpa using Option.some.inj e1
   have g2:js.toArray[j]=u2:=by
    rw [List.getElem?_eq_getElem q2] at e2
    simpa using Option.some.inj e2
   rw [g1,g2]
   exact(ih j _ _ hx hy (by rw [aB_];omega) ru1 ru2).2.2
  rw [ln,ln2]
  have R:=SeqAt.RcAt.tuples (A:=A) (show s.heap.IsTuple a is.toArray from p1) (show s.heap.IsTuple b js.toArray from p2) (by omega) it
  refine⟨R,SeqAt.RcNeAt.tuples (show s.heap.IsTuple a is.toArray from p1) (show s.heap.IsTuple b js.toArray from p2) (by omega) it, ?_⟩
  by_cases q:a=b
  ·subst q
   have:=(EqR.tuples es h1 h2 he).same I rfl
   rw [ln,ln2] at this
   rw [this]
   exact SeqAt.EqAt.same _
  ·exact SeqAt.EqAt.of_refs q R
def oS_ (K:PySem.W.Frag) (neg:Bool):R2:=fun x y H Q=>∃d e,EqR K H d x y e∧d≤8∧Q (.bl (if neg then !e else e)) H
theorem nu_ {k:Nat} (hr:Room k X.A):OpR X (compareOp .Eq) (oS_ X.K false):=by
 intro pins s σ H x y v u Q I rx ry h
 obtain⟨d,e,r,hd,q⟩:=h
 have hu:=hr.un
 exact(r.at_ I (A:=X.A) (by omega) rx ry).1 X.prog X.w X.xe _ ⟨.bl e,H,I,rfl,q⟩
theorem gn_ {k:Nat} (hr:Room k X.A):OpR X (compareOp .NotEq) (oS_ X.K true):=by
 intro pins s σ H x y v u Q I rx ry h
 obtain⟨d,e,r,hd,q⟩:=h
 have hu:=hr.un
 exact(r.at_ I (A:=X.A) (by omega) rx ry).2.1 X.prog X.w X.xe _ ⟨.bl (!e),H,I,rfl,q⟩
theorem eb_ (hc:X.calm=true):b7_ X (.builtin "sum") (fun xs H Q=>∃(p:Addr) (ns:List Int),xs=[.ref p]∧SqL X.K H p (ns.map V.int)∧Q (.int ns.sum) H):=by
 intro pins s σ H xs us Q I r h
 obtain⟨p,ns,rfl,hq,q⟩:=h
 obtain⟨u,rfl,rx⟩:=di_ r
 cases rx
 obtain⟨its,r',pl,hz⟩:=I.list hq
 have hi:IntsAre its ns:=e6_ r'
 obtain⟨ys,e⟩:=hi.allInts.items
 have hl:=pl.isList
 rw [e] at hl
 refine sum_intListG (I.ok.hd hc) hl fun h' tk t' hk=>⟨.int ns.sum,H,I.kept hk,⟨t', ?_⟩,q⟩
 have n1:=hi.numsOf
 rw [show its=its.toArray.toList from rfl,e,nums_intItems] at n1
 rw [preSum_eq,List.take_of_length_le (by simp),n1]
def CDB (_ j:Int):Prop:=j≠0∧j.natAbs<2^512
theorem kY_:OpR X (binaryOp .FloorDiv) (rI CDB fun i j=> .int (i.fdiv j)):=opI fun i j _ _ _ _ _ hc q=>floordiv_int hc.1 q (.inl (PyProof.noPylong_of_log2 (by
 have h0:j.natAbs≠0:=by have:=hc.1;omega
 have:=(Nat.log2_lt h0).mpr hc.2
 omega)))
end
end L2
namespace L2
open PySem PySem.Spec PyProof.Rows
section
variable {prog:Program}{w:World}{A:Around}{E:Value→Shared→Prop}{s:Shared}
end
section
variable {X:Cx}{e:Expr}{te:TE}{p1 p2 p3 pos:Pos}
end
end L2
namespace L2
open PySem PySem.Spec PyProof.Rows
def Ite (K:PySem.W.Frag) (a:Addr):It:=
 ⟨fun i H=>∃xs x,SqL K H a xs∧xs[i]? =some x,fun i H v H'=>∃x p,(∀xs,SqL K H a xs→xs[i]? =some x)∧v= .ref p∧H p=none∧H'=upd H p (.tup [.int i,x]),fun i H=>∃xs,SqL K H a xs∧xs.length≤i⟩
theorem i5_ {P:Program}{w:World}{K:PySem.W.Frag}{elts:List Expr}{k:Nat}{pos:Pos} (a e it:Addr) (hne:e≠it):
  Turn P w K (.Tuple elts k pos) (Ite K a) [e,it] e (fun i h=>(∃old,IsEnum h e it (i:Nat) old)∧h.IsListIter it a i) where
 mem:=by simp
 obj:=fun i h st b hb=>by
  obtain⟨⟨old,h1⟩,o,h2,h3,h4⟩:=st
  rcases List.mem_cons.mp hb with z|z
  ·subst z
   exact⟨_,h1,fun v y=>by cases y⟩
  ·rw [List.mem_singleton.mp z]
   exact⟨o,h2,fun v y=>by rw [h4] at y;cases y⟩
 keep:=fun i h h' st kk=>⟨st.1.imp fun old z=>kk e (by simp) _ z,st.2.at fun o z=>kk it (by simp) o z⟩
 item:=by
  intro X hP hw hK hc i pins s σ H E I hf st hg
  subst hP hw hK
  obtain⟨xs,x,hq,hx⟩:=hg
  obtain⟨its,rv,p,hz⟩:=I.list hq
  obtain⟨u,hu,ru⟩:=rv.get hx
  obtain⟨⟨old,he⟩,hit⟩:=st
  have nf:H s.heap.objs.size=none:=I.hok.fresh (Nat.le_refl _)
  have ltE:e<s.heap.objs.size:=Heap.lt_size he
  refine wpAny_pyNext_enum_item he hit p.isList (x:=u) (by simpa using hu) hne fun h' ho hit' hT hsz hk=>⟨.ref s.heap.objs.size,rfl, ?_⟩
  refine wpAny_letOwnedTupleGo_enum ho fun h2 he2 sb=> ?_
  have k2:∀b o,b≠e→b≠it→s.heap.get? b=some o→h2.get? b=some o:=fun b o n1 n2 z=>(sb.2 b n1).trans (hk b o n1 n2 z)
  have hT2:h2.get? s.heap.objs.size=some {cls:= .type "tuple",data:= .seq #[.int i s.toks,u]}:=(sb.2 _ (Nat.ne_of_gt ltE)).trans hT
  have hch:∀b,b∉[e,it]→b≠e∧b≠it:=fun b z=>⟨fun y=>z (by simp [y]),fun y=>z (by simp [y])⟩
  refine⟨.ref s.heap.objs.size,upd H s.heap.objs.size (.tup [.int i,x]), ?_,rfl,⟨x,_,fun ys hy=>by rw [I.list_inj hy hq];exact hx,rfl,nf,rfl⟩,⟨⟨u,by simpa using he2⟩,hit'.at fun o z=>(sb.2 it hne.symm).trans z⟩,fun b hb=> ?_⟩
  ·refine I.step (s:=s) (h':=h2) (g':=s.gens) (d':=s.drawn) (t':=s.toks+1) (ch:=[e,it]) (fun b hb=> ?_) (fun b o _ _ c z _=>k2 b o (hch b c).1 (hch b c).2 z) (fun b o _ _ c z _=>⟨o.slots,k2 b o (hch b c).1 (hch b c).2 z⟩)
    (fun b o c z n=> ?_) (fun b o c z=>⟨o,k2 b o (hch b c).1 (hch b c).2 z⟩) (fun b ys z=> ?_) (fun b o v z=> ?_) (fun b ps z=>⟨#[], ?_⟩) (fun m hm=> ?_) (fun b v z=> ?_) I.bare
   ·obtain⟨a1,a2,a3,a4,a5,a6⟩:=hf b hb
    exact⟨a4,a2,a5,a6⟩
   ·rw [ar_ (Nat.ne_of_lt (Heap.lt_size z))]
    exact n
   ·rw [ar_ (aS_ z nf)]
    exact z
   ·rw [ar_ (aS_ z nf)]
    exact z
   ·rw [ar_ (aS_ z nf),z]
    simp
   ·obtain⟨o,es,ep,ho',r⟩:=hm
    exact⟨o,es,ep,k2 _ o (fun y=>(hf e (by simp)).2.1 y.symm) (fun y=>(hf it (by simp)).2.1 y.symm) ho',r⟩
   ·by_cases hb:b=s.heap.objs.size
    ·subst hb
     rw [ae_] at z
     cases z
     exact⟨by show 2≤sizeLine;decide,[.int i s.toks,u], .cons ⟨_,rfl⟩ (.cons ru .nil),⟨_,hT2,rfl,_,rfl⟩⟩
    ·rw [ar_ hb] at z
     refine(I.hok b v z).stay (fun c o hc y=>k2 c o ?_ ?_ y) (fun c y=> ?_) fun c ys y=> ?_
     ·rcases hc with q|q
      ·rw [q];exact fun y=>by rw [y,(hf e (by simp)).1] at z;cases z
      ·exact fun y=>by rw [y,(hf e (by simp)).1] at q;cases q
     ·rcases hc with q|q
      ·rw [q];exact fun y=>by rw [y,(hf it (by simp)).1] at z;cases z
      ·exact fun y=>by rw [y,(hf it (by simp)).1] at q;cases q
     ·rw [ar_ (aS_ y nf)];exact y
     ·rw [ar_ (aS_ y nf)];exact y
  ·obtain⟨o,z,_⟩:=(show∃o,s.heap.get? b=some o∧True from by
    rcases List.mem_cons.mp hb with q|q
    ·rw [q];exact⟨_,he,trivial⟩
    ·rw [List.mem_singleton.mp q]
     obtain⟨o,y,_⟩:=hit
     exact⟨o,y,trivial⟩)
   rw [ar_ (Nat.ne_of_lt (Heap.lt_size z))]
   exact(hf b hb).1
 done:=by
  intro X hP hw hK hc i pins s σ H E I hf st hg
  subst hP hw hK
  obtain⟨xs,hq,hx⟩:=hg
  obtain⟨its,rv,p,hz⟩:=I.list hq
  obtain⟨⟨old,he⟩,hit⟩:=st
  have hl:=rv.length
  obtain⟨f0,f1,f2,f3,f4,f5⟩:=hf it (by simp)
  exact wpAny_pyNext_enum_end (I.ok.hd hc) he hit p.isList (by simp;omega) fun h' eb=>⟨rfl,I.turned (t':=s.toks) (fun b o hb z=>eb b o hb z) f0 f1 f3 f4 f5⟩
 self:=fun _ _ _ _ _ st h=>let ⟨⟨_,z⟩,_⟩:=st;wpAny_pyIter_enum z h
section
variable {X:Cx}{elts:List Expr}{k:Nat}{tpos p pos:Pos}{e:Expr}{te:TE}
def o3_ (K:PySem.W.Frag) (tl:TE):TI:=fun σ H R=>tl σ H fun x H1=>∃a,x= .ref a∧(∃xs,SqL K H1 a xs)∧R (Ite K a) H1
theorem jt_ (hg:Gl X "enumerate") (hm:X.mg "enumerate"=none) (hl:PE X e te) (he:starEach [e] X.env=[(false,eval e X.env)]:=by rfl):PI X (.Tuple elts k tpos) (.Call (.Name "enumerate" p) [e] [] pos) (o3_ X.K te):=by
 intro pins s σ H R I h
 refine wpAny_Call_Name_kw (ds_ I hg hm boot_enumerate ?_)
 refine PyProof.Rows.callWith_type1 (thn ((aa_ hl ab_ he) _ pins s σ H (fun vs H1=>match vs with|[x]=>(∃a,x= .ref a∧(∃xs,SqL X.K H1 a xs)∧R (Ite X.K a) H1)|_=>False) I h) fun us s1 ⟨vs,H1,I1,r1,q1⟩=> ?_) he (by rfl)
 match vs,q1,r1 with
 |[x],q1,r1=>
 obtain⟨a,rfl,⟨xs,hq⟩,q⟩:=q1
 obtain⟨u,rfl,ru⟩:=di_ r1
 obtain rfl:u=Value.ref a:=ru
 obtain⟨its,rv,pl,hz⟩:=I1.list hq
 refine call_enumerate_list pl.isList fun h' hen hit hsz hk=> ?_
 refine wpAny_pyIter_enum hen ?_
 refine⟨_,[_,_],_,_,H1,rfl,I1.kept (t':=s1.toks) hk,i5_ a _ _ (Nat.ne_of_gt (Nat.lt_succ_self _)),⟨⟨_,by simpa using hen⟩,hit⟩,fun b hb=> ?_,q⟩
 have fr:∀b,s1.heap.objs.size≤b→lH_ X pins H1 b:=fun b z=>I1.fpOk z (I1.hok.fresh z)
 rcases List.mem_cons.mp hb with z|z
 ·rw [z];exact fr _ (Nat.le_succ _)
 ·rw [List.mem_singleton.mp z];exact fr _ (Nat.le_refl _)
end
theorem iz_ {K:PySem.W.Frag}{a:Addr}{xs:List V}{g:TG}{tb:TS}{D:Ends}{σ:St}{H:Hp} (Pv:Nat→St→Hp→Prop) (h0:Pv 0 σ H) (hl:∀i σ H,i≤xs.length→Pv i σ H→SqL K H a xs)
  (hs:∀i x σ H p,xs[i]? =some x→Pv i σ H→H p=none→g (.ref p) σ (upd H p (.tup [.int i,x])) fun σ2 H2=>tb {D with nx:=Pv (i+1),ct:=Pv (i+1),bk:=D.nx} σ2 H2) (hd:∀σ H,Pv xs.length σ H→D.nx σ H):
  ∃W:Nat→Nat→St→Hp→Prop,(∃m,W 0 m σ H)∧∀i m σ H,W i m σ H→
   ((Ite K a).stop i H∧D.nx σ H)∨((Ite K a).go i H∧∃N:St→Hp→Prop,(∀σ' H',N σ' H'→∃m',m'<m∧W (i+1) m' σ' H')∧∀x H',(Ite K a).yld i H x H'→g x σ H' fun σ2 H2=>tb {D with nx:=N,ct:=N,bk:=D.nx} σ2 H2):=by
 refine⟨fun i m σ H=>m=xs.length-i∧i≤xs.length∧Pv i σ H,⟨xs.length,by simp,Nat.zero_le _,h0⟩, ?_⟩
 rintro i m σ H ⟨rfl,hi,p⟩
 have q:=hl i σ H hi p
 by_cases hlt:i<xs.length
 ·refine .inr ⟨⟨xs,xs[i],q,by simp [hlt]⟩,Pv (i+1),fun σ' H' p'=>⟨xs.length-(i+1),by omega,rfl,hlt,p'⟩,fun x H' y=> ?_⟩
  obtain⟨z,pp,e1,e2,e3,e4⟩:=y
  subst e2 e4
  exact hs i z σ H pp (e1 xs q) p e3
 ·have e:i=xs.length:=by omega
  subst e
  exact .inl ⟨⟨xs,q,Nat.le_refl _⟩,hd σ H p⟩
def oR_ (K:PySem.W.Frag):V→V→Hp→VK→Prop:=fun o i H Q=>∃(p:Addr) (xs:List V) (j:Nat) (k:Int) (v:V),o= .ref p∧i= .int k∧k=j∧SqL K H p xs∧xs[j]? =some v∧Q v H
theorem ix_ {X:Cx}:pi_ X (oR_ X.K):=by
 intro pins s σ H o i ov iv Q I r1 r2 h
 obtain⟨p,xs,j,k,v,rfl,rfl,e,hq,hx,q⟩:=h
 cases r1
 obtain⟨t,rfl⟩:=r2
 obtain⟨its,r,pl,hz⟩:=I.list hq
 obtain⟨w,ew,rw'⟩:=r.get hx
 have hl:=r.length
 have hn:=ey_
 have hj:j<xs.length:=(List.getElem?_eq_some_iff.mp hx).1
 exact wpAny_getItem_list pl.isList (by omega) (by omega) (by rw [e,Int.toNat_natCast];simpa using ew) ⟨v,H,I,rw',q⟩
end L2
namespace L2
open PySem PySem.Spec PyProof.Rows
section
variable {X:Cx}{e:Expr}{te:TE}{st:Expr}{ts:TO}{pos p2:Pos}
def m3_ (K:PySem.W.Frag) (te:TE) (ts:TO):TE:=fun σ H Q=>te σ H fun x H1=>ts σ H1 fun o H2=>o=some (-1)∧∃a xs,x= .ref a∧SqL K H2 a xs∧∀p,H2 p=none→Q (.ref p) (upd H2 p (.lst xs.reverse))
theorem kT_ (he:PE X e te) (hst:PO X (some st) ts):PE X (.Subscript e (.Slice none none (some st) p2) pos) (m3_ X.K te ts):=by
 intro pins s σ H Q I h
 refine Subscript_ (thn (he pins s σ H _ I h) fun v s1 ⟨x,H1,I1,r1,q1⟩=> ?_)
 refine wpAny_Slice ?_
 rw [evalPart_none]
 refine wpAny_pure (wpAny_pure (thn (hst pins s1 σ H1 _ I1 q1) fun vk s2 ⟨o,H2,I2,pk,q2⟩=> ?_))
 obtain⟨rfl,a,xs,rfl,hx,q⟩:=q2
 obtain rfl:v=Value.ref a:=r1
 have I4:Inv X pins σ H2 {s2 with heap:=s2.heap.push {cls:= .type "slice",data:= .fields #[.none, .none,vk]}}:=I2.kept (t':=s2.toks) fun b ob q=>Heap.get?_push_of_some _ q
 obtain⟨its,r,ht,hz⟩:=I4.list hx
 have hlen:=r.length
 show wpAny (model X.prog X.w) X.A (subscriptTail e (.Slice none none (some st) p2) (.ref a) (.ref s2.heap.objs.size)) (EP X pins σ Q) X.xe {s2 with heap:=s2.heap.push {cls:= .type "slice",data:= .fields #[.none, .none,vk]}}
 refine tail_any (ops:=[.ref a, .ref s2.heap.objs.size]) (T:="list") ht.isList.typeIs slot_list_getitem.lookup ?_ (by with_unfolding_all rfl)
 refine wpAny_getItem_list_slice ht.isList (Heap.IsSliceOf.new ..) .none .none pk (by decide) ?_ (by rw [List.size_toArray]<;>omega)
 rw [PySem.W.krv_pick]
 refine⟨.ref _,_,I4.laid (t':=s2.toks) (o:= .lst xs.reverse) (fun b ob q=>Heap.get?_push_of_some _ q) (Nat.le_refl _) ?_,rfl,q _ (I4.hok.fresh (Nat.le_refl _))⟩
 exact⟨by simpa using hz,_,0,r.reverse,Heap.get?_push_size _ rfl⟩
end
section
variable {X:Cx}{st:Stmt}{t:TS}
end
end L2
namespace L2
open PySem PySem.Spec PyProof.Rows
inductive D where
 |i (n:Int)|l (xs:List D)|t (xs:List D)
mutual
def Is (H:Hp):D→V→Prop
 | .i n,v=>v= .int n
 | .l xs,v=>∃a vs,v= .ref a∧H a=some (.lst vs)∧Iss H xs vs
 | .t xs,v=>∃a vs,v= .ref a∧H a=some (.tup vs)∧Iss H xs vs
def Iss (H:Hp):List D→List V→Prop
 |[],vs=>vs=[]
 |x::xs,vs=>∃u us,vs=u::us∧Is H x u∧Iss H xs us
end
theorem mv_ {H:Hp}{n:Int}:Is H (.i n) (.int n):=by unfold Is;rfl
theorem bJ_ {H:Hp}{a:Addr}{xs:List D}{vs:List V} (h:H a=some (.lst vs)) (k:Iss H xs vs):Is H (.l xs) (.ref a):=by unfold Is;exact⟨a,vs,rfl,h,k⟩
theorem iY_ {H:Hp}{a:Addr}{xs:List D}{vs:List V} (h:H a=some (.tup vs)) (k:Iss H xs vs):Is H (.t xs) (.ref a):=by unfold Is;exact⟨a,vs,rfl,h,k⟩
theorem dg_ {H:Hp}{n:Int}{v:V} (h:Is H (.i n) v):v= .int n:=by unfold Is at h;exact h
theorem bm_ {H:Hp}{xs:List D}{v:V} (h:Is H (.l xs) v):∃a vs,v= .ref a∧H a=some (.lst vs)∧Iss H xs vs:=by unfold Is at h;exact h
theorem g7_ {H:Hp}{xs:List D}{v:V} (h:Is H (.t xs) v):∃a vs,v= .ref a∧H a=some (.tup vs)∧Iss H xs vs:=by unfold Is at h;exact h
theorem aj_ {H:Hp}:Iss H [] []:=by unfold Iss;rfl
theorem ag_ {H:Hp}{x:D}{xs:List D}{u:V}{us:List V} (h:Is H x u) (k:Iss H xs us):Iss H (x::xs) (u::us):=by unfold Iss;exact⟨u,us,rfl,h,k⟩
theorem aC_ {H:Hp}{x:D}{xs:List D}{vs:List V} (h:Iss H (x::xs) vs):∃u us,vs=u::us∧Is H x u∧Iss H xs us:=by unfold Iss at h;exact h
theorem a7_ {H:Hp}{vs:List V} (h:Iss H [] vs):vs=[]:=by unfold Iss at h;exact h
mutual
theorem Is.mono {H H':Hp} (s:al_ H H'):∀{d:D}{v:V},Is H d v→Is H' d v
 | .i _,_,h=>by rw [dg_ h];exact mv_
 | .l xs,_,h=>by
  obtain⟨a,vs,e,q,r⟩:=bm_ h
  rw [e]
  exact bJ_ (s _ _ q) (Iss.mono s r)
 | .t xs,_,h=>by
  obtain⟨a,vs,e,q,r⟩:=g7_ h
  rw [e]
  exact iY_ (s _ _ q) (Iss.mono s r)
theorem Iss.mono {H H':Hp} (s:al_ H H'):∀{xs:List D}{vs:List V},Iss H xs vs→Iss H' xs vs
 |[],_,h=>by rw [a7_ h];exact aj_
 |x::xs,_,h=>by
  obtain⟨u,us,e,q,r⟩:=aC_ h
  rw [e]
  exact ag_ (Is.mono s q) (Iss.mono s r)
end
theorem Iss.length {H:Hp}:∀{xs:List D}{vs:List V},Iss H xs vs→vs.length=xs.length
 |[],_,h=>by rw [a7_ h];rfl
 |x::xs,_,h=>by
  obtain⟨u,us,rfl,_,r⟩:=aC_ h
  rw [List.length_cons,List.length_cons,r.length]
theorem Iss.get {H:Hp}:∀{xs:List D}{vs:List V}{j:Nat}{x:D},Iss H xs vs→xs[j]? =some x→∃v,vs[j]? =some v∧Is H x v
 |[],_,_,_,_,e=>by simp at e
 |x::xs,_,0,_,h,e=>by
  obtain⟨u,us,rfl,q,_⟩:=aC_ h
  simp at e
  subst e
  exact⟨u,rfl,q⟩
 |x::xs,_,j+1,_,h,e=>by
  obtain⟨u,us,rfl,_,r⟩:=aC_ h
  obtain⟨v,e',k⟩:=r.get (j:=j) (by simpa using e)
  exact⟨v,by simpa using e',k⟩
theorem Iss.of_get {H:Hp}{xs:List D}{vs:List V}{j:Nat}{v:V} (h:Iss H xs vs) (e:vs[j]? =some v):∃x,xs[j]? =some x∧Is H x v:=by
 have hj:j<vs.length:=(List.getElem?_eq_some_iff.mp e).1
 have hj':j<xs.length:=by rw [←h.length];exact hj
 obtain⟨u,e1,k⟩:=h.get (List.getElem?_eq_getElem hj')
 rw [e] at e1
 cases e1
 exact⟨_,List.getElem?_eq_getElem hj',k⟩
theorem Iss.append {H:Hp}:∀{xs ys:List D}{vs ws:List V},Iss H xs vs→Iss H ys ws→Iss H (xs++ys) (vs++ws)
 |[],_,_,_,h,k=>by rw [a7_ h];exact k
 |x::xs,_,_,_,h,k=>by
  obtain⟨u,us,rfl,q,r⟩:=aC_ h
  exact ag_ q (r.append k)
theorem Iss.take {H:Hp}:∀{xs:List D}{vs:List V} (n:Nat),Iss H xs vs→Iss H (xs.take n) (vs.take n)
 |[],_,n,h=>by rw [a7_ h];simp;exact aj_
 |x::xs,_,0,h=>by simp;exact aj_
 |x::xs,_,n+1,h=>by
  obtain⟨u,us,rfl,q,r⟩:=aC_ h
  exact ag_ q (r.take n)
theorem Iss.drop {H:Hp}:∀{xs:List D}{vs:List V} (n:Nat),Iss H xs vs→Iss H (xs.drop n) (vs.drop n)
 |[],_,n,h=>by rw [a7_ h];simp;exact aj_
 |x::xs,_,0,h=>h
 |x::xs,_,n+1,h=>by
  obtain⟨u,us,rfl,q,r⟩:=aC_ h
  exact r.drop n
theorem Iss.rep {H:Hp}{x:D}{v:V} (h:Is H x v):∀n:Nat,Iss H (List.replicate n x) (List.replicate n v)
 |0=>aj_
 |n+1=>by rw [List.replicate_succ,List.replicate_succ];exact ag_ h (Iss.rep h n)
mutual
def Kin:D→D→Prop
 | .i _, .i _=>True
 | .l xs, .l ys=>eO_ xs ys
 | .t xs, .t ys=>eO_ xs ys
 |_,_=>False
def eO_:List D→List D→Prop
 |x::xs,y::ys=>Kin x y∧eO_ xs ys
 |_,_=>True
end
mutual
def eqD:D→D→Bool
 | .i a, .i b=>decide (a=b)
 | .l xs, .l ys=>e9_ xs ys
 | .t xs, .t ys=>e9_ xs ys
 |_,_=>false
def e9_:List D→List D→Bool
 |[],[]=>true
 |x::xs,y::ys=>eqD x y&&e9_ xs ys
 |_,_=>false
end
mutual
def dep:D→Nat
 | .i _=>0
 | .l xs=>fe_ xs+1
 | .t xs=>fe_ xs+1
def fe_:List D→Nat
 |[]=>0
 |x::xs=>max (dep x) (fe_ xs)
end
mutual
theorem hI_:∀{a b:D},eqD a b=true↔a=b
 | .i a, .i b=>by simp [eqD]
 | .i _, .l _=>by simp [eqD]
 | .i _, .t _=>by simp [eqD]
 | .l _, .i _=>by simp [eqD]
 | .l xs, .l ys=>by simp [eqD,d8_ (xs:=xs) (ys:=ys)]
 | .l _, .t _=>by simp [eqD]
 | .t _, .i _=>by simp [eqD]
 | .t _, .l _=>by simp [eqD]
 | .t xs, .t ys=>by simp [eqD,d8_ (xs:=xs) (ys:=ys)]
theorem d8_:∀{xs ys:List D},e9_ xs ys=true↔xs=ys
 |[],[]=>by simp [e9_]
 |[],_::_=>by simp [e9_]
 |_::_,[]=>by simp [e9_]
 |x::xs,y::ys=>by simp [e9_,hI_ (a:=x) (b:=y),d8_ (xs:=xs) (ys:=ys)]
end
theorem iB_ {a:D}:eqD a a=true:=hI_.mpr rfl
theorem nT_ {a b:D} (h:a≠b):eqD a b=false:=by
 cases e:eqD a b with
 |false=>rfl
 |true=>exact absurd (hI_.mp e) h
theorem f1_:∀{xs ys:List D},xs.length=ys.length→e9_ xs ys=(List.range xs.length).all fun j=>eqD (xs.getD j (.i 0)) (ys.getD j (.i 0))
 |[],[],_=>by simp [e9_]
 |x::xs,y::ys,h=>by
  have ih:=f1_ (xs:=xs) (ys:=ys) (by simpa using h)
  rw [e9_,ih,List.length_cons,List.range_succ_eq_map]
  simp [List.all_map,Function.comp_def]
theorem iA_ {xs ys:List D} (h:xs.length≠ys.length):e9_ xs ys=false:=by
 cases e:e9_ xs ys with
 |false=>rfl
 |true=>exact absurd (congrArg List.length (d8_.mp e)) h
mutual
theorem Is.eqr {K:PySem.W.Frag}{H:Hp}:∀{d e:D}{v w:V}{n:Nat},dep d≤n→Kin d e→Is H d v→Is H e w→EqR K H n v w (eqD d e)
 | .i a, .i b,_,_,n,_,_,h,k=>by
  rw [dg_ h,dg_ k,eqD]
  exact EqR.int n a b
 | .l xs, .l ys,_,_,0,hn,_,_,_=>absurd hn (by unfold dep;omega)
 | .l xs, .l ys,_,_,n+1,hn,hk,h,k=>by
  obtain⟨a,vs,rfl,ha,ra⟩:=bm_ h
  obtain⟨b,ws,rfl,hb,rb⟩:=bm_ k
  have hn':fe_ xs≤n:=by unfold dep at hn;omega
  have hk':eO_ xs ys:=by unfold Kin at hk;exact hk
  have l1:=ra.length
  have l2:=rb.length
  rw [eqD]
  by_cases hl:xs.length=ys.length
  ·rw [f1_ hl,←l1]
   exact EqR.lists _ (SqL.of ha) (SqL.of hb) (by omega) fun j x y hx hy=>Iss.eqr hn' hk' ra rb hx hy
  ·rw [iA_ hl]
   exact EqR.lens (SqL.of ha) (SqL.of hb) (by omega)
 | .t xs, .t ys,_,_,0,hn,_,_,_=>absurd hn (by unfold dep;omega)
 | .t xs, .t ys,_,_,n+1,hn,hk,h,k=>by
  obtain⟨a,vs,rfl,ha,ra⟩:=g7_ h
  obtain⟨b,ws,rfl,hb,rb⟩:=g7_ k
  have hn':fe_ xs≤n:=by unfold dep at hn;omega
  have hk':eO_ xs ys:=by unfold Kin at hk;exact hk
  have l1:=ra.length
  have l2:=rb.length
  rw [eqD]
  have q:=EqR.tuples (d:=n) (fun j=>eqD (xs.getD j (.i 0)) (ys.getD j (.i 0))) (SqT.of (K:=K) ha) (SqT.of (K:=K) hb) fun j x y hx hy=>Iss.eqr hn' hk' ra rb hx hy
  by_cases hl:xs.length=ys.length
  ·rw [f1_ hl]
   rw [l1,l2,←hl,Nat.min_self] at q
   simpa using q
  ·rw [iA_ hl]
   have z:(vs.length==ws.length)=false:=by rw [l1,l2];simpa using hl
   rw [z,Bool.and_false] at q
   exact q
 | .i _, .l _,_,_,_,_,hk,_,_=>by unfold Kin at hk;exact hk.elim
 | .i _, .t _,_,_,_,_,hk,_,_=>by unfold Kin at hk;exact hk.elim
 | .l _, .i _,_,_,_,_,hk,_,_=>by unfold Kin at hk;exact hk.elim
 | .l _, .t _,_,_,_,_,hk,_,_=>by unfold Kin at hk;exact hk.elim
 | .t _, .i _,_,_,_,_,hk,_,_=>by unfold Kin at hk;exact hk.elim
 | .t _, .l _,_,_,_,_,hk,_,_=>by unfold Kin at hk;exact hk.elim
theorem Iss.eqr {K:PySem.W.Frag}{H:Hp}:∀{xs ys:List D}{vs ws:List V}{n:Nat},fe_ xs≤n→eO_ xs ys→Iss H xs vs→Iss H ys ws→∀{j:Nat}{x y:V},vs[j]? =some x→ws[j]? =some y→
  EqR K H n x y (eqD (xs.getD j (.i 0)) (ys.getD j (.i 0)))
 |[],_,_,_,_,_,_,h,_,_,_,_,e,_=>by rw [a7_ h] at e;simp at e
 |_::_,[],_,_,_,_,_,_,k,_,_,_,_,e=>by rw [a7_ k] at e;simp at e
 |x::xs,y::ys,_,_,n,hn,hk,h,k,0,u,w,e1,e2=>by
  obtain⟨u',us,rfl,q,_⟩:=aC_ h
  obtain⟨w',ws,rfl,q',_⟩:=aC_ k
  simp at e1 e2
  subst e1 e2
  have hk':Kin x y∧eO_ xs ys:=by unfold eO_ at hk;exact hk
  have hd:dep x≤n:=by unfold fe_ at hn;omega
  exact Is.eqr (d:=x) (e:=y) hd hk'.1 q q'
 |x::xs,y::ys,_,_,n,hn,hk,h,k,j+1,u,w,e1,e2=>by
  obtain⟨u',us,rfl,_,r⟩:=aC_ h
  obtain⟨w',ws,rfl,_,r'⟩:=aC_ k
  have hk':Kin x y∧eO_ xs ys:=by unfold eO_ at hk;exact hk
  have hd:fe_ xs≤n:=by unfold fe_ at hn;omega
  have:=Iss.eqr (K:=K) hd hk'.2 r r' (j:=j) (by simpa using e1) (by simpa using e2)
  simpa using this
end
abbrev Pt:=Int×Int
def pt (p:Pt):D:= .t [.i p.1, .i p.2]
def hid (H:Hp) (a:Addr):Hp:=fun b=>if b=a then none else H b
theorem br_ {H:Hp}{a b:Addr} (h:b≠a):hid H a b=H b:=by unfold hid;rw [if_neg h]
theorem dv_ {H:Hp}{a:Addr}:hid H a a=none:=by unfold hid;rw [if_pos rfl]
theorem as_ {H:Hp}{a:Addr}:al_ (hid H a) H:=fun b o e=>by
 unfold hid at e
 split at e
 ·cases e
 ·exact e
theorem aA_ {H H':Hp}{a:Addr} (s:al_ H H'):al_ (hid H a) (hid H' a):=fun b o e=>by
 unfold hid at e⊢
 split at e
 ·cases e
 ·rename_i h
  rw [if_neg h]
  exact s b o e
theorem bY_ {H:Hp}{a:Addr}{o:HO}:hid (upd H a o) a=hid H a:=by
 funext b
 unfold hid
 split
 ·rfl
 ·rename_i h
  exact ar_ h
end L2
namespace L2
open PySem PySem.Spec PyProof.Rows
section
variable {X:Cx}{es:List Expr}{t:TA}{pos:Pos}
def New (H:Hp) (o:HO) (Q:VK):Prop:=∀p H2,H p=none→al_ H H2→H2 p=some o→Q (.ref p) H2
theorem New.at {H:Hp}{o:HO}{Q:VK} (q:New H o Q) {p:Addr} (np:H p=none):Q (.ref p) (upd H p o):=q p _ np (al_.new np) ae_
def oi_ (t:TA):TE:=fun σ H Q=>t σ H fun xs H1=>xs.length≤sizeLine∧New H1 (.tup xs) Q
def oo_ (t:TA):TE:=fun σ H Q=>t σ H fun xs H1=>xs.length≤sizeLine∧New H1 (.lst xs) Q
theorem aH_ {x1} (h:PA X es t):PE X (.Tuple es x1 pos) (oi_ t):=by
 intro pins s σ H Q I hq
 refine wpAny_Tuple_spliced (thn (h pos pins s σ H _ I hq) fun us s1 ⟨xs,H1,I1,r,z,q⟩=>⟨by rw [←r.length];exact z, ?_⟩)
 refine⟨.ref s1.heap.objs.size,upd H1 s1.heap.objs.size (.tup xs),I1.laid (t':=s1.toks) (fun b u e=>Heap.get?_push_of_some _ e) (Nat.le_refl _) ?_,rfl,q.at (I1.hok.fresh (Nat.le_refl _))⟩
 exact⟨z,us,r,⟨_,Heap.get?_push_size _ rfl,rfl,_,rfl⟩⟩
theorem aI_ (h:PA X es t):PE X (.List es pos) (oo_ t):=by
 intro pins s σ H Q I hq
 refine wpAny_List_spliced (thn (h pos pins s σ H _ I hq) fun us s1 ⟨xs,H1,I1,r,z,q⟩=>⟨by rw [←r.length];exact z, ?_⟩)
 refine⟨.ref s1.heap.objs.size,upd H1 s1.heap.objs.size (.lst xs),I1.laid (t':=s1.toks) (fun b u e=>Heap.get?_push_of_some _ e) (Nat.le_refl _) ?_,rfl,q.at (I1.hok.fresh (Nat.le_refl _))⟩
 exact⟨z,us,0,r,Heap.get?_push_size _ rfl⟩
theorem OpR.imp {f:Value→Value→Sem Value}{r r':R2} (h:OpR X f r) (k:∀x y H Q,r' x y H Q→r x y H Q):OpR X f r':=fun pins s σ H x y v u Q I rx ry q=>h pins s σ H x y v u Q I rx ry (k _ _ _ _ q)
theorem b7_.imp {f:Value}{r r':List V→Hp→VK→Prop} (h:b7_ X f r) (k:∀xs H Q,r' xs H Q→r xs H Q):b7_ X f r':=fun pins s σ H xs us Q I rs q=>h pins s σ H xs us Q I rs (k _ _ _ q)
theorem cf_:OpR X (binaryOp .Add) (fun x y H Q=>∃xs zs,Is H (.l xs) x∧Is H (.l zs) y∧xs.length+zs.length≤sizeLine∧∀p H2,H p=none→al_ H H2→Is H2 (.l (xs++zs)) (.ref p)→Q (.ref p) H2):=
 nv_.imp fun x y H Q ⟨xs,zs,hx,hz,hl,q⟩=>by
  obtain⟨a,vs,rfl,ha,ra⟩:=bm_ hx
  obtain⟨b,ws,rfl,hb,rb⟩:=bm_ hz
  exact⟨a,b,vs,ws,rfl,rfl,ha,hb,by rw [ra.length,rb.length];exact hl,fun p np=>q p _ np (al_.new np) (bJ_ ae_ ((ra.append rb).mono (al_.new np)))⟩
theorem jk_ {α:Type}{x:α}:∀n:Nat,(List.replicate n [x]).flatten=List.replicate n x
 |0=>rfl
 |n+1=>by rw [List.replicate_succ,List.flatten_cons,jk_ n,List.replicate_succ];rfl
theorem ho_:OpR X (binaryOp .Mult) (fun x y H Q=>∃d n,Is H (.l [d]) x∧y= .int n∧-(2^63)≤n∧n<2^63∧n.toNat≤sizeLine∧∀p H2,H p=none→al_ H H2→Is H2 (.l (List.replicate n.toNat d)) (.ref p)→Q (.ref p) H2):=
 ns_.imp fun x y H Q ⟨d,n,hx,ey,h1,h2,hl,q⟩=>by
  obtain⟨a,vs,rfl,ha,ra⟩:=bm_ hx
  obtain⟨u,us,rfl,hu,ru⟩:=aC_ ra
  rw [a7_ ru] at ha
  refine⟨a,n,_,rfl,ey,ha,h1,h2,by rw [List.length_singleton,Nat.one_mul];exact hl,fun p np=>q p _ np (al_.new np) ?_⟩
  rw [jk_]
  exact bJ_ ae_ ((Iss.rep hu _).mono (al_.new np))
theorem aG_:b7_ X (.type "list") (fun vs H Q=>∃v xs,vs=[v]∧(Is H (.l xs) v∨Is H (.t xs) v)∧∀p H2,H p=none→al_ H H2→Is H2 (.l xs) (.ref p)→Q (.ref p) H2):=
 gV_.imp fun vs H Q ⟨v,xs,ev,hx,q⟩=>by
  subst ev
  rcases hx with hx|hx
  ·obtain⟨a,ws,rfl,ha,ra⟩:=bm_ hx
   exact⟨a,ws,rfl, .inl (SqL.of ha),fun p np=>q p _ np (al_.new np) (bJ_ ae_ (ra.mono (al_.new np)))⟩
  ·obtain⟨a,ws,rfl,ha,ra⟩:=g7_ hx
   exact⟨a,ws,rfl, .inr (SqT.of ha),fun p np=>q p _ np (al_.new np) (bJ_ ae_ (ra.mono (al_.new np)))⟩
theorem c3_:b7_ X (.type "tuple") (fun vs H Q=>∃v xs,vs=[v]∧Is H (.l xs) v∧∀p H2,H p=none→al_ H H2→Is H2 (.t xs) (.ref p)→Q (.ref p) H2):=
 f7_.imp fun vs H Q ⟨v,xs,ev,hx,q⟩=>by
  subst ev
  obtain⟨a,ws,rfl,ha,ra⟩:=bm_ hx
  exact⟨a,ws,rfl, .inl ⟨SqL.of ha,fun p np=>q p _ np (al_.new np) (iY_ ae_ (ra.mono (al_.new np)))⟩⟩
theorem pF_ {α:Type}{xs:List α}{i:Int}{j:Nat}{x:α} (e:i=j) (h:xs[j]? =some x):atI xs i=some x:=by rw [e];exact b0_ h
theorem Iss.atI {H:Hp}{xs:List D}{vs:List V}{i:Int}{x:D} (h:Iss H xs vs) (e:L2.atI xs i=some x):∃u,L2.atI vs i=some u∧Is H x u:=by
 unfold L2.atI at e⊢
 rw [h.length]
 cases q:ixN xs.length i with
 |none=>rw [q] at e;cases e
 |some j=>
  rw [q] at e
  obtain⟨u,e1,k⟩:=h.get (j:=j) e
  exact⟨u,e1,k⟩
theorem cR_:IxR X (fun x y H Q=>∃xs i d,Is H (.l xs) x∧y= .int i∧atI xs i=some d∧∀u,Is H d u→Q u H):=by
 intro value slice pins s σ H x y v u Q I rx ry h hs
 obtain⟨xs,i,d,hx,ey,e,q⟩:=h
 obtain⟨a,vs,rfl,ha,ra⟩:=bm_ hx
 obtain⟨z,ez,hz⟩:=ra.atI e
 exact a9_ value slice pins s σ H (.ref a) y v u Q I rx ry ⟨a,vs,i,z,rfl,ey,SqL.of ha,ez,q z hz⟩ hs
theorem aD_:IxR X (fun x y H Q=>∃xs i d,Is H (.t xs) x∧y= .int i∧atI xs i=some d∧∀u,Is H d u→Q u H):=by
 intro value slice pins s σ H x y v u Q I rx ry h hs
 obtain⟨xs,i,d,hx,ey,e,q⟩:=h
 obtain⟨a,vs,rfl,ha,ra⟩:=g7_ hx
 obtain⟨z,ez,hz⟩:=ra.atI e
 exact nM_ value slice pins s σ H (.ref a) y v u Q I rx ry ⟨a,vs,i,z,rfl,ey,SqT.of ha,ez,q z hz⟩ hs
theorem b6_:b7_ X (.builtin "len") (fun vs H Q=>∃v xs,vs=[v]∧(Is H (.l xs) v∨Is H (.t xs) v)∧Q (.int xs.length) H):=
 bA_.imp fun vs H Q ⟨v,xs,ev,hx,q⟩=>by
  subst ev
  rcases hx with hx|hx
  ·obtain⟨a,ws,rfl,ha,ra⟩:=bm_ hx
   exact⟨a,ws,rfl, .inl (SqL.of ha),by rw [ra.length];exact q⟩
  ·obtain⟨a,ws,rfl,ha,ra⟩:=g7_ hx
   exact⟨a,ws,rfl, .inr (SqT.of ha),by rw [ra.length];exact q⟩
end
end L2
namespace L2
open PySem PySem.Spec PyProof.Rows
section
variable {P:Program}{w:World}{H:Hp}{h:Heap}{a:Addr}{o:HO}
end
section
variable {X:Cx}{pins:List (Addr×Obj)}{σ:St}{H H':Hp}{s s':Shared}{B h':Heap}{l:List Env}
end
section
variable {X:Cx}{pos np cpos:Pos}{x:Str}{C:Addr}{E:XK}{e:Expr}{es:List Expr}{t:TA}
abbrev bmV:List Value:=[.type "ValueError", .type "Exception", .type "BaseException", .type "object"]
end
section
variable {X:Cx}{pos:Pos}{e v:Expr}{es:List Expr}{te:TE}
end
section
variable {X:Cx}{CX:CXT}{ps:List Str}{sp:Sp}{E:XK}{x:Str}{p pos:Pos}{e:Expr}{es:List Expr}{t:TA}{i:Nat}
end
end L2
namespace L2
open PySem PySem.Calls PyProof.Rows PySem.W Builtin Builtin.ObjectAttr Builtin.Getset_descriptor
structure XC (K:Frag) (C:Addr):Prop where
 cl:(clsIn K C).isSome=true
 ga:findIn K (.ref C) "__getattribute__"=some (some (.builtin "BaseException.__getattribute__"))
 gt:findIn K (.ref C) "__getattr__"=some none
 ca:findIn K (.ref C) "__class__"=some (some (.builtin "object.__class__"))
 gn:specialIn K (.builtin "object.__class__") "__get__"=some (some (.builtin "getset_descriptor.__get__"))
 tk:takesIn K (.builtin "object.__class__")=some true
 ob:mroIn K C (.type "object")=some true
 be:mroIn K C (.type "BaseException")=some true
section
variable {prog:Program}{w:World}{A:Around}{E:Value→Shared→Prop}{K:Frag}{x C:Addr}{h:Heap}{g:Array GenState}{d:Drawn}{t:Nat}{os:OsState}
end
section
variable {X:Cx}
end
end L2
namespace L2
open PySem PySem.Spec PyProof.Rows PySem.W
section
variable {X:Cx}{pins pn:List (Addr×Obj)}{σ:St}{H H':Hp}{s s':Shared}{z:Value→Shared→Prop}{e:Addr}
end
end L2
namespace L2
open PySem PySem.Spec PyProof.Rows
section
variable {X:Cx}{tg:Expr}
end
end L2
namespace L2
open PySem PySem.Spec PyProof.Rows
def o7_ (H:Hp) (v:V):Prop:=(∃i,v= .int i)∨(∃b,v= .bl b)∨v= .non∨(∃x,v= .str x)∨(∃a xs,v= .ref a∧H a=some (.lst xs))∨(∃a xs,v= .ref a∧H a=some (.tup xs))
def isI (v:V):Bool:=match v with
 | .int _=>true
 |_=>false
def Within (lo hi:Int) (v:V):Prop:=∃i,v= .int i∧lo≤i∧i≤hi
theorem gH_ {K:PySem.W.Frag}:PySem.W.kitOne K (.type "NoneType") (.type "int")=some false:=eC_ (by decide+kernel) (by decide+kernel) (by decide+kernel)
theorem hB_ {K:PySem.W.Frag}:PySem.W.kitOne K (.type "str") (.type "int")=some false:=eC_ (by decide+kernel) (by decide+kernel) (by decide+kernel)
theorem gI_ {K:PySem.W.Frag}:PySem.W.kitOne K (.type "list") (.type "int")=some false:=eC_ (by decide+kernel) (by decide+kernel) (by decide+kernel)
theorem fQ_ {K:PySem.W.Frag}:PySem.W.kitOne K (.type "tuple") (.type "int")=some false:=eC_ (by decide+kernel) (by decide+kernel) (by decide+kernel)
def kC_:Sp:=fun vs H Q _=>∃v,vs=[v]∧o7_ H v∧Q (.bl (isI v)) H
end L2
namespace L2
open PySem PySem.Spec PyProof.Rows
section
variable {X:Cx}{pins:List (Addr×Obj)}{σ:St}{H:Hp}{s:Shared}{h':Heap}{ch:List Addr}{t':Nat}
end
section
variable {X:Cx}{elts:List Expr}{k:Nat}{tpos p pos:Pos}{e f:Expr}{te tf:TE}
end
theorem jz_ {K:PySem.W.Frag}:mO_ 2 (nQ_ K 2 (hG_ (dw_ 0) (hG_ (dw_ 1) n7_))):=by
 intro v σ H Q ⟨a,xs,e,hq,hl,x,r,ex,y,r2,er,en,q⟩
 refine⟨a,xs,e,hq,hl,x,r,ex,y,r2,er,en,q, ?_,fun i hi=> ?_⟩
 ·rw [List.length_set,List.length_set]
 ·rw [List.getElem?_set_ne (by omega),List.getElem?_set_ne (by omega)]
theorem jH_ {K:PySem.W.Frag}:∀(σ:St) (H:Hp) (R R':St→Hp→Prop) (x:V),(∀σ' H',R σ' H'→R' σ' H')→nQ_ K 2 (hG_ (dw_ 0) (hG_ (dw_ 1) n7_)) x σ H R→nQ_ K 2 (hG_ (dw_ 0) (hG_ (dw_ 1) n7_)) x σ H R':=
 fun σ H R R' v k ⟨a,xs,e,hq,hl,x,r,ex,y,r2,er,en,q⟩=>⟨a,xs,e,hq,hl,x,r,ex,y,r2,er,en,k _ _ q⟩
theorem l4_ {X:Cx}{es:List Expr}{k:Nat}{pos:Pos}{t:TGs}{n:Nat}{K:PySem.W.Frag} (hK:X.K=K) (hc:X.calm=true) (h:PGs X es t)
  (hn:(assignEach es X.env).length=n:=by rfl) (hst:(assignEach es X.env).findIdx? (·.1)=none:=by rfl):PG X (.Tuple es k pos) (nQ_ K n t):=hK▸cF_ hc h hn hst
end L2
namespace PySem.SeqAt
open AutoSeq1 (wpAny_loadPart')
open MeetsSeq MeetsSeq2 MeetsSeq3 SeqRoads2
def LtAt (A:Around) (s:Shared) (y x:Value) (b:Bool):Prop:=
 ∀(prog:Program) (w:World) (E:Value→Shared→Prop) (Q:Value→Shared→Prop),Q (.bool b) s→wpAny (model prog w) A (richCompare .Lt y x) Q E s
def lex (e f:Nat→Bool) (m n:Nat):Nat→Nat→Bool
 |0,_=>decide (m<n)
 |k+1,i=>if e i=true then lex e f m n k (i+1) else f i
theorem jM_ (l b:Addr) (items items2:Array Value) (n n2:Nat) (dd dd2:Option Addr) (sl sl2:Array (Option Value)) (e f:Nat→Bool) (k:Nat):
  ∀i:Nat,min items.size items2.size-i=k→Meets (Builtin.«list.__eq__.loop» ⟨[.ref l, .ref b,rawInt i,rawInt 0],[]⟩)
   (fun A R s=>s.heap.get? l=some {cls:= .type "list",dict:=dd,data:= .seq items n,slots:=sl}∧s.heap.get? b=some {cls:= .type "list",dict:=dd2,data:= .seq items2 n2,slots:=sl2}∧
    (∀j (h1:j<items.size) (h2:j<items2.size),EqAt A.in1 s items[j] items2[j] (e j))∧(∀j (h1:j<items.size) (h2:j<items2.size),e j=false→LtAt A.in1 s items[j] items2[j] (f j))∧
    R (.ok (.ret (.bool (lex e f items.size items2.size k i)))) s):=by
 induction k with
 |zero=>
  intro i hk prog w A R s h
  obtain⟨hp,g,d,tk,os⟩:=s;obtain⟨hl,hb,he,hf,h⟩:=h
  wp_walk using wpAny_loadPart' hl,wpAny_loadPart' hb
  rcases(by omega:items.size≤i∨(i<items.size∧items2.size≤i)) with q|⟨q1,q2⟩
  ·have hi1:items[((i:Nat):Int).toNat]? =none:=by simp;omega
   rw [hi1]
   wp_walk using wpAny_loadPart' hl,wpAny_loadPart' hb
   exact h
  ·have hi1:items[((i:Nat):Int).toNat]? =some items[i]:=by simp [q1]
   have hi2:items2[((i:Nat):Int).toNat]? =none:=by simp;omega
   rw [hi1,hi2]
   wp_walk using wpAny_loadPart' hl,wpAny_loadPart' hb
   exact h
 |succ k ih=>
  intro i hk prog w A R s h
  obtain⟨hp,g,d,tk,os⟩:=s;obtain⟨hl,hb,he,hf,h⟩:=h
  wp_walk using wpAny_loadPart' hl,wpAny_loadPart' hb
  have hlt:i<items.size:=by omega
  have hlt2:i<items2.size:=by omega
  have hi1:items[((i:Nat):Int).toNat]? =some items[i]:=by simp [hlt]
  have hi2:items2[((i:Nat):Int).toNat]? =some items2[i]:=by simp [hlt2]
  have hc:((i:Int)+1)=((i+1:Nat):Int):=by push_cast;rfl
  unfold lex at h
  rw [hi1,hi2]
  refine wpAny_bind (he i hlt hlt2 prog w _ _ ?_)
  cases hb':e i with
  |true=>
   rw [hb',if_pos rfl] at h
   wp_walk
   rw [hc]
   exact⟨plainId_quiet plain_eq_loop _,codeAny_builtin entry_eq_loop (by
    rw [Around.under_plainId plain_eq_loop _]
    exact ih (i+1) (by omega) prog w A R _ ⟨hl,hb,he,hf,h⟩)⟩
  |false=>
   rw [hb',if_neg (by simp)] at h
   wp_walk using wpAny_loadPart' hl,wpAny_loadPart' hb
   rw [hi1,hi2]
   refine wpAny_bind (hf i hlt hlt2 hb' prog w _ _ ?_)
   wp_walk
   exact h
theorem gy_ (l b:Addr) (items items2:Array Value) (n n2:Nat) (dd dd2:Option Addr) (sl sl2:Array (Option Value)) (e f:Nat→Bool):
  Meets (Builtin.«list.__lt__» ⟨[.ref l, .ref b],[]⟩)
   (fun A R s=>s.heap.get? l=some {cls:= .type "list",dict:=dd,data:= .seq items n,slots:=sl}∧s.heap.get? b=some {cls:= .type "list",dict:=dd2,data:= .seq items2 n2,slots:=sl2}∧
    (∀j (h1:j<items.size) (h2:j<items2.size),EqAt A.in1 s items[j] items2[j] (e j))∧(∀j (h1:j<items.size) (h2:j<items2.size),e j=false→LtAt A.in1 s items[j] items2[j] (f j))∧
    R (.ok (.ret (.bool (lex e f items.size items2.size (min items.size items2.size) 0)))) s):=by
 intro prog w A R s h
 obtain⟨hp,g,d,tk,os⟩:=s;obtain⟨hl,hb,he,hf,h⟩:=h
 have f3:=AutoSeq1.sub_list_list
 wp_walk using wpAny_loadPart' hl,wpAny_loadPart' hb
 exact⟨plainId_quiet plain_eq_loop _,codeAny_builtin entry_eq_loop (by
  rw [Around.under_plainId plain_eq_loop _]
  exact jM_ l b items items2 n n2 dd dd2 sl sl2 e f _ 0 rfl prog w A R _ ⟨hl,hb,he,hf,by simpa using h⟩)⟩
theorem iK_ (l b:Addr) (items items2:Array Value) (n n2:Nat) (dd dd2:Option Addr) (sl sl2:Array (Option Value)) (e f:Nat→Bool):
  Meets (Builtin.«tuple.__lt__» ⟨[.ref l, .ref b],[]⟩)
   (fun A R s=>s.heap.get? l=some {cls:= .type "tuple",dict:=dd,data:= .seq items n,slots:=sl}∧s.heap.get? b=some {cls:= .type "tuple",dict:=dd2,data:= .seq items2 n2,slots:=sl2}∧
    (∀j (h1:j<items.size) (h2:j<items2.size),EqAt A.in1 s items[j] items2[j] (e j))∧(∀j (h1:j<items.size) (h2:j<items2.size),e j=false→LtAt A.in1 s items[j] items2[j] (f j))∧
    R (.ok (.ret (.bool (lex e f items.size items2.size (min items.size items2.size) 0)))) s):=
 .of_wp fun prog w A R s h=>by
  obtain⟨hp,g,d,tk,os⟩:=s;obtain⟨hl,hb,he,hf,h⟩:=h
  have f2:=AutoSeq1.sub_tuple_tuple
  have hZ:(items.toList.zip items2.toList).length=min items.size items2.size:=by simp
  wp_walk using wpAny_loadPart' hl,wpAny_loadPart' hb,wpAny_forIn_list _ (fun bC_ b s'=>b.1=none∧s'=⟨hp,g,d,tk,os⟩∧∃i,bC_=(items.toList.zip items2.toList).drop i∧i≤min items.size items2.size∧
   R (.ok (.ret (.bool (lex e f items.size items2.size (min items.size items2.size-i) i)))) ⟨hp,g,d,tk,os⟩) _
  case turn=>
   rintro⟨y,x⟩ bC_ b s' ⟨hb',rfl,i,hz,hile,hR⟩
   have hlt:i<(items.toList.zip items2.toList).length:=by
    rcases Nat.lt_or_ge i (items.toList.zip items2.toList).length with h'|h'
    ·exact h'
    ·rw [List.drop_of_length_le h'] at hz;cases hz
   have hm:i<min items.size items2.size:=hZ▸hlt
   have h1:i<items.size:=Nat.lt_of_lt_of_le hm (Nat.min_le_left _ _)
   have h2:i<items2.size:=Nat.lt_of_lt_of_le hm (Nat.min_le_right _ _)
   rw [List.drop_eq_getElem_cons hlt] at hz
   injection hz with hyx hrest
   have hy:y=items[i]:=by have:=congrArg Prod.fst hyx;simpa using this
   have hx:x=items2[i]:=by have:=congrArg Prod.snd hyx;simpa using this
   subst hy hx
   rw [show min items.size items2.size-i=(min items.size items2.size-(i+1))+1 by omega,lex] at hR
   refine wpAny_bind (he i h1 h2 prog w _ _ ?_)
   cases hy:e i with
   |true=>
    rw [hy,if_pos rfl] at hR
    wp_walk
    exact⟨rfl,rfl,i+1,hrest,by omega,hR⟩
   |false=>
    rw [hy,if_neg (by simp)] at hR
    rw [if_pos (show(!false)=true from rfl)]
    refine wpAny_bind (wpAny_rule ?_)
    refine wpAny_bind (hf i h1 h2 hy prog w _ _ ?_)
    wp_walk
    exact⟨_,rfl,hR⟩
  case fin=>
   rintro⟨b1,b2⟩ s' ⟨hb',rfl,i,hz,hile,hR⟩
   simp only at hb'
   subst hb'
   have hi:i=min items.size items2.size:=by
    rcases Nat.lt_or_ge i (items.toList.zip items2.toList).length with h'|h'
    ·rw [List.drop_eq_getElem_cons h'] at hz;cases hz
    ·omega
   subst hi
   rw [Nat.sub_self] at hR
   wp_walk
   exact⟨_,rfl,hR⟩
  case h=>
   exact⟨rfl,rfl,0,rfl,Nat.zero_le _,by simpa using h⟩
section
variable {A:Around}{s:Shared}
theorem LtAt.int_int (i:Int) (t:Tok) (j:Int) (u:Tok):LtAt A s (.int i t) (.int j u) (decide (i<j)):=fun prog w E Q h=>wpAny_lt_int h
theorem LtAt.lists {l b:Addr}{items items2:Array Value}{e f:Nat→Bool} (hl:s.heap.IsList l items) (hb:s.heap.IsList b items2) (hu:A.units<cLine)
  (he:∀j (h1:j<items.size) (h2:j<items2.size),EqAt A.in1 s items[j] items2[j] (e j)) (hf:∀j (h1:j<items.size) (h2:j<items2.size),e j=false→LtAt A.in1 s items[j] items2[j] (f j)):
  LtAt A s (.ref l) (.ref b) (lex e f items.size items2.size (min items.size items2.size) 0):=fun prog w E Q h=>by
 obtain⟨⟨cls,dd,data,sl⟩,ho,hc,n,hd⟩:=id hl
 obtain⟨⟨cls2,dd2,data2,sl2⟩,ho2,hc2,n2,hd2⟩:=id hb
 simp only at hc hd hc2 hd2
 subst hc hd hc2 hd2
 exact richCompare_meets_room (op:= .Lt) ⟨_,ho,rfl⟩ ⟨_,ho2,rfl⟩ F.slot_list_lt F.entry_list_lt (F.args_list_lt_2 _ _) (gy_ l b items items2 n n2 dd dd2 sl sl2 e f)
  ⟨ho,ho2,he,hf,show Value.bool (lex e f items.size items2.size (min items.size items2.size) 0)≠Value.notImplemented∧Q (.bool (lex e f items.size items2.size (min items.size items2.size) 0)) s from⟨(fun x=>nomatch x),h⟩⟩ hu
theorem LtAt.tuples {l b:Addr}{items items2:Array Value}{e f:Nat→Bool} (hl:s.heap.IsTuple l items) (hb:s.heap.IsTuple b items2) (hu:A.units<cLine)
  (he:∀j (h1:j<items.size) (h2:j<items2.size),EqAt A.in1 s items[j] items2[j] (e j)) (hf:∀j (h1:j<items.size) (h2:j<items2.size),e j=false→LtAt A.in1 s items[j] items2[j] (f j)):
  LtAt A s (.ref l) (.ref b) (lex e f items.size items2.size (min items.size items2.size) 0):=fun prog w E Q h=>by
 obtain⟨⟨cls,dd,data,sl⟩,ho,hc,n,hd⟩:=id hl
 obtain⟨⟨cls2,dd2,data2,sl2⟩,ho2,hc2,n2,hd2⟩:=id hb
 simp only at hc hd hc2 hd2
 subst hc hd hc2 hd2
 exact richCompare_meets_room (op:= .Lt) ⟨_,ho,rfl⟩ ⟨_,ho2,rfl⟩ F.slot_tuple_lt F.entry_tuple_lt (F.args_tuple_lt_2 _ _) (iK_ l b items items2 n n2 dd dd2 sl sl2 e f)
  ⟨ho,ho2,he,hf,show Value.bool (lex e f items.size items2.size (min items.size items2.size) 0)≠Value.notImplemented∧Q (.bool (lex e f items.size items2.size (min items.size items2.size) 0)) s from⟨(fun x=>nomatch x),h⟩⟩ hu
theorem key_lists {prog:Program}{w:World}{E:Value→Shared→Prop}{l b:Addr}{items items2:Array Value}{e f:Nat→Bool}{Q:Bool→Shared→Prop} (hl:s.heap.IsList l items) (hb:s.heap.IsList b items2) (hu:A.units<cLine)
  (he:∀j (h1:j<items.size) (h2:j<items2.size),EqAt A.in1 s items[j] items2[j] (e j)) (hf:∀j (h1:j<items.size) (h2:j<items2.size),e j=false→LtAt A.in1 s items[j] items2[j] (f j))
  (h:Q (lex e f items.size items2.size (min items.size items2.size) 0) s):wpAny (model prog w) A (PyProof.Rows.keyLt' PyProof.Rows.oneType' (.ref l) (.ref b)) Q E s:=by
 rw [PyProof.Rows.keyLt'_oneType,PyProof.Rows.oneLt'_eq]
 simp only [if_true]
 refine wpAny_bind (wpAny_cRoomFor hu ?_)
 obtain⟨⟨cls,dd,data,sl⟩,ho,hc,n,hd⟩:=id hl
 obtain⟨⟨cls2,dd2,data2,sl2⟩,ho2,hc2,n2,hd2⟩:=id hb
 simp only at hc hd hc2 hd2
 subst hc hd hc2 hd2
 refine wpAny_bind (wpAny_callSpecialIfBound?_slot (T:="list") ⟨_,ho,rfl⟩ F.slot_list_lt (call_meets F.slot_list_lt ⟨_,ho,rfl⟩ F.entry_list_lt (F.args_list_lt_2 _ _) (gy_ l b items items2 n n2 dd dd2 sl sl2 e f) ⟨ho,ho2,he,hf, ?_⟩))
 exact wpAny_truthy_bool h
end
end PySem.SeqAt
namespace L2
open PySem PySem.Spec PyProof.Rows
inductive LtR (K:PySem.W.Frag) (H:Hp):Nat→V→V→Bool→Prop where
 |int (d:Nat) (i j:Int):LtR K H d (.int i) (.int j) (decide (i<j))
 |lists {d:Nat}{a b:Addr}{xs ys:List V} (es fs:Nat→Bool) (h1:SqL K H a xs) (h2:SqL K H b ys) (he:∀(j:Nat) x y,xs[j]? =some x→ys[j]? =some y→EqR K H d x y (es j)) (hf:∀(j:Nat) x y,xs[j]? =some x→ys[j]? =some y→es j=false→LtR K H d x y (fs j)):
  LtR K H (d+1) (.ref a) (.ref b) (SeqAt.lex es fs xs.length ys.length (min xs.length ys.length) 0)
 |tuples {d:Nat}{a b:Addr}{xs ys:List V} (es fs:Nat→Bool) (h1:SqT K H a xs) (h2:SqT K H b ys) (he:∀(j:Nat) x y,xs[j]? =some x→ys[j]? =some y→EqR K H d x y (es j)) (hf:∀(j:Nat) x y,xs[j]? =some x→ys[j]? =some y→es j=false→LtR K H d x y (fs j)):
  LtR K H (d+1) (.ref a) (.ref b) (SeqAt.lex es fs xs.length ys.length (min xs.length ys.length) 0)
section
variable {X:Cx}{pins:List (Addr×Obj)}{σ:St}{H:Hp}{s:Shared}
theorem cn_ {xs:List V}{is:List Value}{j:Nat} (r:aQ_ xs is) (q:j<is.toArray.size):∃x,xs[j]? =some x∧bf_ x is.toArray[j]:=by
 have l:=r.length
 have q':j<is.length:=by simpa using q
 have hx:xs[j]? =some xs[j]:=List.getElem?_eq_getElem (by omega)
 obtain⟨u,e,ru⟩:=r.get hx
 refine⟨_,hx, ?_⟩
 have g:is.toArray[j]=u:=by
  rw [List.getElem?_eq_getElem q'] at e
  simpa using Option.some.inj e
 rw [g]
 exact ru
theorem LtR.at_ (I:Inv X pins σ H s) {d:Nat}{x y:V}{b:Bool} (h:LtR X.K H d x y b):∀{A:Around}{u v:Value},A.units+d<cLine→bf_ x u→bf_ y v→SeqAt.LtAt A s u v b:=by
 induction h with
 |int d i j=>
  intro A u v hu ru rv
  obtain⟨t,rfl⟩:=ru
  obtain⟨t',rfl⟩:=rv
  exact SeqAt.LtAt.int_int i t j t'
 | @lists d a b xs ys es fs h1 h2 he hf ih=>
  intro A u v hu ru rv
  obtain rfl:u=Value.ref a:=ru
  obtain rfl:v=Value.ref b:=rv
  obtain⟨is,r1,p1,z1⟩:=I.list h1
  obtain⟨js,r2,p2,z2⟩:=I.list h2
  have l1:xs.length=is.toArray.size:=by have:=r1.length;simpa using this
  have l2:ys.length=js.toArray.size:=by have:=r2.length;simpa using this
  rw [l1,l2]
  refine SeqAt.LtAt.lists p1.isList p2.isList (by omega) (fun j q1 q2=> ?_) (fun j q1 q2 z=> ?_)
  ·obtain⟨x,hx,rx⟩:=cn_ r1 q1
   obtain⟨y,hy,ry⟩:=cn_ r2 q2
   exact((he j _ _ hx hy).at_ I (by rw [aB_];omega) rx ry).2.2
  ·obtain⟨x,hx,rx⟩:=cn_ r1 q1
   obtain⟨y,hy,ry⟩:=cn_ r2 q2
   exact ih j _ _ hx hy z (by rw [aB_];omega) rx ry
 | @tuples d a b xs ys es fs h1 h2 he hf ih=>
  intro A u v hu ru rv
  obtain rfl:u=Value.ref a:=ru
  obtain rfl:v=Value.ref b:=rv
  obtain⟨is,r1,p1,z1⟩:=I.tuple h1
  obtain⟨js,r2,p2,z2⟩:=I.tuple h2
  have l1:xs.length=is.toArray.size:=by have:=r1.length;simpa using this
  have l2:ys.length=js.toArray.size:=by have:=r2.length;simpa using this
  rw [l1,l2]
  refine SeqAt.LtAt.tuples (show s.heap.IsTuple a is.toArray from p1) (show s.heap.IsTuple b js.toArray from p2) (by omega) (fun j q1 q2=> ?_) (fun j q1 q2 z=> ?_)
  ·obtain⟨x,hx,rx⟩:=cn_ r1 q1
   obtain⟨y,hy,ry⟩:=cn_ r2 q2
   exact((he j _ _ hx hy).at_ I (by rw [aB_];omega) rx ry).2.2
  ·obtain⟨x,hx,rx⟩:=cn_ r1 q1
   obtain⟨y,hy,ry⟩:=cn_ r2 q2
   exact ih j _ _ hx hy z (by rw [aB_];omega) rx ry
theorem LtR.key (I:Inv X pins σ H s) {d:Nat}{a b:Addr}{xs ys:List V}{es fs:Nat→Bool} (h1:SqL X.K H a xs) (h2:SqL X.K H b ys) (he:∀(j:Nat) x y,xs[j]? =some x→ys[j]? =some y→EqR X.K H d x y (es j)) (hf:∀(j:Nat) x y,xs[j]? =some x→ys[j]? =some y→es j=false→LtR X.K H d x y (fs j))
  {A:Around} (hu:A.units+(d+1)<cLine) {prog:Program}{w:World}{E:Value→Shared→Prop}{Q:Bool→Shared→Prop} (q:Q (SeqAt.lex es fs xs.length ys.length (min xs.length ys.length) 0) s):
  wpAny (model prog w) A (keyLt' oneType' (.ref a) (.ref b)) Q E s:=by
 obtain⟨is,r1,p1,z1⟩:=I.list h1
 obtain⟨js,r2,p2,z2⟩:=I.list h2
 have l1:xs.length=is.toArray.size:=by have:=r1.length;simpa using this
 have l2:ys.length=js.toArray.size:=by have:=r2.length;simpa using this
 rw [l1,l2] at q
 refine SeqAt.key_lists p1.isList p2.isList (by omega) (fun j q1 q2=> ?_) (fun j q1 q2 z=> ?_) q
 ·obtain⟨x,hx,rx⟩:=cn_ r1 q1
  obtain⟨y,hy,ry⟩:=cn_ r2 q2
  exact((he j _ _ hx hy).at_ I (by rw [aB_];omega) rx ry).2.2
 ·obtain⟨x,hx,rx⟩:=cn_ r1 q1
  obtain⟨y,hy,ry⟩:=cn_ r2 q2
  exact(hf j _ _ hx hy z).at_ I (by rw [aB_];omega) rx ry
end
end L2
namespace L2
open PySem PySem.Spec PyProof.Rows
def mo_ (ns:List Int):Int:=ns.getD (argBest (fun i j=>decide (ns.getD i 0<ns.getD j 0)) (ns.length-1)) 0
section
variable {X:Cx}
theorem ib_ {ys:Array (Int×Tok)}{ns:List Int} (h:ys.toList.map (·.1)=ns) (i:Nat):numAt ys i=ns.getD i 0:=by
 subst h
 unfold numAt
 rw [List.getD,List.getElem?_map,Array.getElem?_toList]
theorem gU_ (hc:X.calm=true):b7_ X (.builtin "min") (fun xs H Q=>∃(p:Addr) (ns:List Int),xs=[.ref p]∧SqL X.K H p (ns.map V.int)∧0<ns.length∧Q (.int (mo_ ns)) H):=by
 intro pins s σ H xs us Q I r h
 obtain⟨p,ns,rfl,hq,h0,q⟩:=h
 obtain⟨u,rfl,rx⟩:=di_ r
 cases rx
 obtain⟨its,r',pl,hz⟩:=I.list hq
 have hi:IntsAre its ns:=e6_ r'
 obtain⟨ys,e⟩:=hi.allInts.items
 have n1:=hi.numsOf
 rw [show its=its.toArray.toList from rfl,e,nums_intItems] at n1
 have hsz:ys.size=ns.length:=by rw [←n1];simp
 have hl:=pl.isList
 rw [e] at hl
 refine min_intList (I.ok.hd hc) hl (by omega) fun v h' tk hv hk=> ?_
 obtain⟨t,rfl⟩:=intItems_at hv
 refine⟨.int (mo_ ns),H,I.kept hk,⟨t, ?_⟩,q⟩
 unfold mo_
 rw [ib_ n1,hsz]
 simp only [ib_ n1]
theorem j0_ {s:Shared}{h':Heap}{o:Obj} (hk:∀b x,b∉[s.heap.objs.size]→(s.heap.push o).get? b=some x→h'.get? b=some x):∀b x,s.heap.get? b=some x→h'.get? b=some x:=
 fun b x e=>hk b x (fun hm=>by rw [List.mem_singleton.mp hm] at e;exact Nat.lt_irrefl _ (Heap.lt_size e)) (Heap.get?_push_of_some _ e)
theorem lh_ (hc:X.calm=true):b7_ X (.builtin "all") (fun xs H Q=>∃(p:Addr) (bs:List Bool),xs=[.ref p]∧SqL X.K H p (bs.map V.bl)∧Q (.bl (bs.all id)) H):=by
 intro pins s σ H xs us Q I r h
 obtain⟨p,bs,rfl,hq,q⟩:=h
 obtain⟨u,rfl,rx⟩:=di_ r
 cases rx
 obtain⟨its,r',pl,hz⟩:=I.list hq
 have hl:=pl.isList
 have hlt:p<s.heap.objs.size:=by obtain⟨_,e,_⟩:=hl;exact Heap.lt_size e
 have hln:its.length=bs.length:=by have:=r'.length;simpa using this.symm
 refine call_all_walk (wpAny_pyIter_list hl ?_)
 refine⟨s.heap.objs.size,[s.heap.objs.size,p],[s.heap.objs.size],its.toArray.size,_,_,fun i=>(bs[i]?).getD true,rfl,Walks.list (A:=X.A.in1) (I.ok.hd hc) _ p (Nat.ne_of_lt hlt) its.toArray,
  ⟨⟨_,Heap.get?_push_size _ rfl,rfl,rfl⟩,hl.push _⟩,fun i v s' Q' E' hP hQ=> ?_,fun h' tk hk=> ?_⟩
 ·have hv:its[i]? =some v:=by simpa using hP
  have hib:i<bs.length:=by rw [←hln];exact(List.getElem?_eq_some_iff.mp hv).1
  obtain⟨u,hu,ru⟩:=r'.get (show(bs.map V.bl)[i]? =some (.bl bs[i]) by rw [List.getElem?_map,List.getElem?_eq_getElem hib];rfl)
  rw [hv] at hu
  cases hu
  obtain rfl:v=Value.bool bs[i]:=ru
  simp only [List.getElem?_eq_getElem hib,Option.getD_some] at hQ
  exact wpAny_truthy_bool hQ
 ·refine⟨.bl (bs.all id),H,I.kept (j0_ hk), ?_,q⟩
  show Value.bool _=Value.bool _
  rw [List.size_toArray,hln,PyProof.Rows.LSm.range_all]
theorem lg_ (hc:X.calm=true):b7_ X (.builtin "any") (fun xs H Q=>∃(p:Addr) (bs:List Bool),xs=[.ref p]∧SqL X.K H p (bs.map V.bl)∧Q (.bl (bs.any id)) H):=by
 intro pins s σ H xs us Q I r h
 obtain⟨p,bs,rfl,hq,q⟩:=h
 obtain⟨u,rfl,rx⟩:=di_ r
 cases rx
 obtain⟨its,r',pl,hz⟩:=I.list hq
 have hl:=pl.isList
 have hlt:p<s.heap.objs.size:=by obtain⟨_,e,_⟩:=hl;exact Heap.lt_size e
 have hln:its.length=bs.length:=by have:=r'.length;simpa using this.symm
 refine call_any_walk (wpAny_pyIter_list hl ?_)
 refine⟨s.heap.objs.size,[s.heap.objs.size,p],[s.heap.objs.size],its.toArray.size,_,_,fun i=>(bs[i]?).getD false,rfl,Walks.list (A:=X.A.in1) (I.ok.hd hc) _ p (Nat.ne_of_lt hlt) its.toArray,
  ⟨⟨_,Heap.get?_push_size _ rfl,rfl,rfl⟩,hl.push _⟩,fun i v s' Q' E' hP hQ=> ?_,fun h' tk hk=> ?_⟩
 ·have hv:its[i]? =some v:=by simpa using hP
  have hib:i<bs.length:=by rw [←hln];exact(List.getElem?_eq_some_iff.mp hv).1
  obtain⟨u,hu,ru⟩:=r'.get (show(bs.map V.bl)[i]? =some (.bl bs[i]) by rw [List.getElem?_map,List.getElem?_eq_getElem hib];rfl)
  rw [hv] at hu
  cases hu
  obtain rfl:v=Value.bool bs[i]:=ru
  simp only [List.getElem?_eq_getElem hib,Option.getD_some] at hQ
  exact wpAny_truthy_bool hQ
 ·refine⟨.bl (bs.any id),H,I.kept (j0_ hk), ?_,q⟩
  show Value.bool _=Value.bool _
  rw [List.size_toArray,hln,PyProof.Rows.LSm.range_any]
def ipM:TIp:=fun x y H Q=>∃i j,x= .int i∧y= .int j∧n9_ i j∧Q (.int (i*j)) H
theorem mw_:PIp X .Mult ipM:=by
 intro pins s σ H x y v u Q I r1 r2 h
 obtain⟨i,j,e1,e2,c,q⟩:=h
 subst e1;subst e2
 obtain⟨t,rfl⟩:=r1
 obtain⟨t',rfl⟩:=r2
 exact imul_int ⟨.int _,H,I.tok _,⟨_,rfl⟩,q⟩ c.ok
end
end L2
namespace L2
open PySem PySem.Spec PyProof.Rows
section
variable {X:Cx}{a b:Expr}{ta:TA}{p1 p2 p3 pos:Pos}
end
end L2
namespace L2
open PySem PySem.Spec PyProof.Rows
def tI (xs:List Int):D:= .t (xs.map .i)
theorem d7_ {H:Hp}:∀{xs:List Int}{vs:List V},Iss H (xs.map .i) vs→vs=xs.map V.int
 |[],vs,h=>h
 |x::xs,vs,h=>by
  obtain⟨u,us,rfl,h1,h2⟩:=h
  rw [dg_ h1,d7_ h2]
  rfl
theorem is_ {H:Hp}:∀(xs:List Int),Iss H (xs.map .i) (xs.map V.int)
 |[]=>rfl
 |x::xs=>⟨_,_,rfl,mv_,is_ xs⟩
theorem hv_ {H:Hp}{xs:List Int}{v:V} (h:Is H (tI xs) v):∃a,v= .ref a∧H a=some (.tup (xs.map V.int)):=by
 obtain⟨a,vs,rfl,ha,hi⟩:=g7_ h
 rw [d7_ hi] at ha
 exact⟨a,rfl,ha⟩
theorem mu_ {H:Hp}{xs:List Int}{a:Addr} (h:H a=some (.tup (xs.map V.int))):Is H (tI xs) (.ref a):=iY_ h (is_ xs)
end L2
namespace L2
open PySem PySem.Spec PyProof.Rows PySem.W
section
variable {n:Nat}
def Ord (n:Nat) (p:Array Nat):Prop:=p.Perm (List.range n).toArray
theorem Ord.size {p:Array Nat} (h:Ord n p):p.size=n:=by
 have:=(Array.perm_iff_toList_perm.mp h).length_eq
 simpa using this
theorem Ord.lt {p:Array Nat} (h:Ord n p) {i:Nat} (hi:i∈p.toList):i<n:=by
 have:=(Array.perm_iff_toList_perm.mp h).mem_iff.mp hi
 simpa using this
theorem Ord.bubble {p:Array Nat} (h:Ord n p) (i j:Nat):Ord n (PyProof.Rows.bubble p i j):=(bubble_perm p i j).trans h
theorem Ord.kas {p:Array Nat} (h:Ord n p) (i j:Nat):Ord n (kas_rev p i j):=(mirror_perm p i j _).trans h
theorem Ord.getD {p:Array Nat} (h:Ord n p) (hn:0<n) (i:Nat):p.getD i 0<n:=by
 by_cases hi:i<p.size
 ·have e:p.getD i 0=p[i]:=by simp [Array.getD,hi]
  rw [e]
  exact h.lt (by simp)
 ·have e:p.getD i 0=0:=by simp [Array.getD,hi]
  rw [e]
  exact hn
def aV_ (n:Nat) {α:Type} (R:α→Prop):KasT α→Prop
 | .ret a=>R a
 | .ask i j k=>i<n∧j<n∧∀b,aV_ n R (k b)
theorem aV_.bind {α β:Type}{R:α→Prop}{R':β→Prop}{f:α→KasT β} (hf:∀a,R a→aV_ n R' (f a)):∀{t:KasT α},aV_ n R t→aV_ n R' (t.bind f)
 | .ret a,h=>hf a h
 | .ask i j k,h=>⟨h.1,h.2.1,fun b=>aV_.bind hf (h.2.2 b)⟩
theorem aV_.wp {α:Type}{R:α→Prop}{cmp:Nat→Nat→(Bool→Shared→Prop)→Shared→Prop}{Q:α→Shared→Prop}{s:Shared} (hc:∀i j,i<n→j<n→∃b,∀C:Bool→Shared→Prop,C b s→cmp i j C s) (hq:∀a,R a→Q a s):∀{t:KasT α},aV_ n R t→t.kasWp cmp Q s
 | .ret a,h=>hq a h
 | .ask i j k,h=>by
  obtain⟨b,hb⟩:=hc i j h.1 h.2.1
  exact hb _ (aV_.wp hc hq (h.2.2 b))
variable (hn:0<n)
include hn
theorem jL_ {p:Array Nat} (h:Ord n p):∀f m,aV_ n (fun _=>True) (kas_asc p f m)
 |0,m=>trivial
 |f+1,m=>⟨h.getD hn _,h.getD hn _,fun b=>by
  cases b with
  |true=>exact trivial
  |false=>exact jL_ h f (m+1)⟩
theorem fG_:∀(f:Nat) (p:Array Nat) (m q:Nat),Ord n p→aV_ n (fun r=>Ord n r.1) (kas_desc f p m q)
 |0,p,m,q,h=>h
 |f+1,p,m,q,h=>⟨h.getD hn _,h.getD hn _,fun b=>by
  cases b with
  |true=>
   show aV_ n _ (if q>0 then kas_desc f (kas_rev p (m-(q+1)) m) (m+1) 0 else kas_desc f p (m+1) 0)
   by_cases hq:q>0
   ·rw [if_pos hq];exact fG_ f _ _ _ (h.kas _ _)
   ·rw [if_neg hq];exact fG_ f _ _ _ h
  |false=>
   refine(show aV_ n _ (KasT.ask (p.getD (m-1) 0) (p.getD m 0) fun d=>if d=true then KasT.ret (p,m,q) else kas_desc f p (m+1) (q+1)) from⟨h.getD hn _,h.getD hn _,fun b=> ?_⟩)
   cases b with
   |true=>exact h
   |false=>exact fG_ f _ _ _ h⟩
theorem jI_ {p:Array Nat} (h:Ord n p) (m k:Nat):aV_ n (fun r=>Ord n r.2) (kas_tail3 m k p):=by
 unfold kas_tail3
 refine aV_.bind (fun a _=> ?_) (jL_ hn (h.kas 0 m) _ _)
 exact h.kas 0 m
theorem jK_ {p:Array Nat} (h:Ord n p) (m k:Nat):aV_ n (fun r=>Ord n r.2) (kas_descPart m k p):=by
 refine(fG_ hn _ _ _ _ h).bind fun r hr=> ?_
 by_cases hq:r.2.2>0
 ·rw [if_pos hq];exact jI_ hn (hr.kas _ _) _ _
 ·rw [if_neg hq];exact jI_ hn hr _ _
theorem k5_ {p:Array Nat} (h:Ord n p) (k:Nat):aV_ n (fun r=>Ord n r.2) (kas_count k p):=by
 refine(jL_ hn h _ _).bind fun m _=> ?_
 by_cases h1:(m==k)=true
 ·rw [if_pos h1];exact h
 ·rw [if_neg h1]
  by_cases h2:m>1
  ·rw [if_pos h2]
   refine⟨h.getD hn _,h.getD hn _,fun b=> ?_⟩
   cases b with
   |true=>exact h
   |false=>exact jK_ hn (h.kas _ _) _ _
  ·rw [if_neg h2];exact jK_ hn h _ _
theorem fF_ {p:Array Nat} (h:Ord n p) (k:Nat):∀f l r,aV_ n (fun _=>True) (kas_place p k f l r)
 |0,l,r=>trivial
 |f+1,l,r=>by
  unfold kas_place
  by_cases h1:l≥r
  ·rw [if_pos h1];exact trivial
  ·rw [if_neg h1]
   refine⟨h.getD hn _,h.getD hn _,fun b=> ?_⟩
   cases b with
   |true=>exact fF_ h k f _ _
   |false=>exact fF_ h k f _ _
theorem ls_:∀(f:Nat) (p:Array Nat) (k:Nat),Ord n p→aV_ n (Ord n) (kas_bin f p k)
 |0,p,k,h=>h
 |f+1,p,k,h=>(fF_ hn h k _ _ _).bind fun l _=>ls_ f _ _ (h.bubble _ _)
theorem jJ_:aV_ n (Ord n) (kas_sort n):=by
 refine(k5_ hn (show Ord n (List.range n).toArray from Array.Perm.refl _) n).bind fun r hr=> ?_
 by_cases h:r.1<n
 ·rw [if_pos h];exact ls_ hn _ _ _ hr
 ·rw [if_neg h];exact hr
end
section
variable {prog:Program}{w:World}{A:Around}{E:Value→Shared→Prop}{s:Shared}
abbrev aL_ (h:Heap) (a:Addr) (vs:List Value):Heap:=((h.update a (Obj.mapSeq fun _=>(#[]:Array Value))).push (seqObj "tuple" vs.toArray 0)).push (seqObj "list" #[] 0)
theorem kD_ {kd:SortKind}{a:Addr}{vs:List Value}{n:Nat}{P:PySem.Fin→Shared→Prop} (ho:s.heap.get? a=some (seqObj "list" vs.toArray n)) (h2:2≤vs.length) (h64:vs.length<64)
  (hkd:∀(R:SortKind→Shared→Prop),R kd {s with heap:=aL_ s.heap a vs}→wpAny (model prog w) A (keyKind' vs.toArray) R E {s with heap:=aL_ s.heap a vs})
  (hc:∀i j,i<vs.length→j<vs.length→∃b,∀C:Bool→Shared→Prop,C b {s with heap:=aL_ s.heap a vs}→wpAny (model prog w) A (keyLt' kd (vs.getD i .none) (vs.getD j .none)) C (fun _ _=>False) {s with heap:=aL_ s.heap a vs})
  (h:∀p,Ord vs.length p→P (.done (.ret .none)) {s with heap:=sortedHeap s.heap a vs (p.map fun i=>vs.getD i .none)}):wpAny (model prog w) A (Builtin.«list.sort» ⟨[.ref a],[]⟩) P E s:=by
 rw [list_sort_plain]
 have ha:a<s.heap.objs.size:=Heap.lt_size ho
 refine wpAny_bind (listItems_at ho rfl ?_)
 refine wpAny_bind (listUpdate_at ho rfl ?_ (by rw [List.size_toArray,sizeLine_eq];omega) (Nat.zero_le _))
 obtain⟨e1,ho1⟩:∃e1,(s.heap.update a (Obj.mapSeq fun _=>(#[]:Array Value))).get? a=some (seqObj "list" #[] e1):=⟨_,get?_update_seq ho (fun _=> #[])⟩
 refine wpAny_bind (seqEpoch_at ho1 rfl ?_)
 refine wpAny_bind (wpAny_newTuple ?_ (by show vs.length≤_;rw [sizeLine_eq];omega))
 refine wpAny_bind (wpAny_newList ?_ (Nat.zero_le _))
 refine wpAny_holding ?_
 have ho6:(aL_ s.heap a vs).get? a=some (seqObj "list" #[] e1):=by
  rw [Heap.get?_push_ne _ _ _ (by rw [size_push',Heap.size_update];exact Nat.ne_of_lt (Nat.lt_succ_of_lt ha)),Heap.get?_push_ne _ _ _ (by rw [Heap.size_update];exact Nat.ne_of_lt ha)]
  exact ho1
 show wpAny (model prog w) A _ P E {s with heap:=aL_ s.heap a vs}
 dsimp only
 have hn2:¬vs.toArray.size<2:=by rw [List.size_toArray];omega
 rw [if_neg hn2,if_neg hn2]
 refine wpAny_bind (hkd _ ?_)
 have est:kas_st kd (pairsOf vs) (List.toArray (List.range vs.length))=SortSt.mk' kd (vs.toArray.zip vs.toArray) #[] 7 none:=by
  have e:=kas_range (pairsOf vs)
  rw [pairsOf_size] at e
  show SortSt.mk' kd ((List.toArray (List.range vs.length)).map (kas_item (pairsOf vs))) #[] 7 none=SortSt.mk' kd (pairsOf vs) #[] 7 none
  rw [e]
 have ask:(kas_sort vs.length).kasWp (kas_cmp prog w A kd (pairsOf vs)) (fun p s'=>s'={s with heap:=aL_ s.heap a vs}∧Ord vs.length p) {s with heap:=aL_ s.heap a vs}:=by
  refine aV_.wp (fun i j hi hj=> ?_) (fun p hp=>⟨rfl,hp⟩) (jJ_ (by omega))
  obtain⟨b,hb⟩:=hc i j hi hj
  refine⟨b,fun C hC=> ?_⟩
  rw [←kas_ask_eq]
  exact hb C hC
 have run:=kas_runs (E:=E) (Q:=fun _ st' s'=>∃p,s'={s with heap:=aL_ s.heap a vs}∧Ord vs.length p∧arrOf st'=p.map (kas_item (pairsOf vs))∧failedOf st'=none) h2 h64 (fun p' st' s' _ a2 a3 a4=>⟨p',a4.1,a4.2,a2,a3⟩) ask
 rw [est] at run
 refine wpAny_bind (wpAny_mono run ?_ fun _ _ e=>e)
 rintro⟨⟨⟩,st'⟩ s' ⟨p,rfl,hp,har,hf⟩
 dsimp only at har hf⊢
 have eo:(arrOf st').map (·.2)=p.map fun i=>vs.getD i .none:=by
  rw [har,Array.map_map]
  refine Array.map_congr_left fun i _=> ?_
  show(kas_item (pairsOf vs) i).2=_
  rw [kas_item_eq]
 rw [eo]
 refine wpAny_bind (seqEpoch_at ho6 rfl ?_)
 refine wpAny_bind (listUpdate_at ho6 rfl ?_ (Nat.zero_le _) (by rw [Array.size_map,sizeLine_eq,hp.size];omega))
 rw [hf]
 simp only [bne_self_eq_false,Bool.false_eq_true,if_false]
 exact wpAny_pure (h p hp)
abbrev bg_ (h:Heap) (vs:List Value):Heap:=aL_ (((h.push (seqObj "list" #[] 0)).update h.objs.size (Obj.mapSeq (· ++vs.toArray))).push (seqObj "list" vs.toArray 0)) (h.objs.size+1) vs
theorem dP_ {h:Heap}{vs:List Value}{b:Addr}{o:Obj} (hb:h.get? b=some o):(bg_ h vs).get? b=some o:=by
 have hlt:b<h.objs.size:=Heap.lt_size hb
 have sz:(((h.push (seqObj "list" #[] 0)).update h.objs.size (Obj.mapSeq (· ++vs.toArray))).push (seqObj "list" vs.toArray 0)).objs.size=h.objs.size+2:=by rw [size_push',Heap.size_update,size_push']
 have n0:b≠h.objs.size:=Nat.ne_of_lt hlt
 have n1:b≠h.objs.size+1:=Nat.ne_of_lt (Nat.lt_succ_of_lt hlt)
 have n2:b≠h.objs.size+2:=Nat.ne_of_lt (Nat.lt_succ_of_lt (Nat.lt_succ_of_lt hlt))
 have n3:b≠h.objs.size+2+1:=Nat.ne_of_lt (Nat.lt_succ_of_lt (Nat.lt_succ_of_lt (Nat.lt_succ_of_lt hlt)))
 rw [Heap.get?_push_ne _ _ _ (by rw [size_push',Heap.size_update,sz];exact n3),Heap.get?_push_ne _ _ _ (by rw [Heap.size_update,sz];exact n2),Heap.get?_update_ne _ _ _ _ n1,
  Heap.get?_push_ne _ _ _ (by rw [Heap.size_update,size_push'];exact n1),Heap.get?_update_ne _ _ _ _ n0,Heap.get?_push_ne _ _ _ n0]
 exact hb
theorem iM_ {kd:SortKind}{l:Addr}{vs:List Value}{Q:Value→Shared→Prop} (hl:s.heap.IsList l vs.toArray) (h2:2≤vs.length) (h64:vs.length<64)
  (hkd:∀(R:SortKind→Shared→Prop) (E:Value→Shared→Prop),R kd {s with heap:=bg_ s.heap vs}→wpAny (model prog w) A.in1.in1 (keyKind' vs.toArray) R E {s with heap:=bg_ s.heap vs})
  (hc:∀i j,i<vs.length→j<vs.length→∃b,∀C:Bool→Shared→Prop,C b {s with heap:=bg_ s.heap vs}→wpAny (model prog w) A.in1.in1 (keyLt' kd (vs.getD i .none) (vs.getD j .none)) C (fun _ _=>False) {s with heap:=bg_ s.heap vs})
  (h:∀p,Ord vs.length p→Q (.ref (s.heap.objs.size+1)) {s with heap:=sortedAll s.heap vs (p.map fun i=>vs.getD i .none)}):wpAny (model prog w) A (call (.builtin "sorted") [.ref l]) Q E s:=by
 refine Calls.call_function_entry kind_sorted plain_sorted entry_sorted (args_sorted1 _) ?_
 unfold Builtin.«sorted»
 refine wpAny_bind (m:=checkCount "sorted" 1 1 _) (wpAny_pure ?_)
 refine wpAny_bind (collect_list hl ?_ (by rw [sizeLine_eq];omega))
 refine wpAny_bind (wpAny_newList ?_ (by rw [sizeLine_eq];omega))
 have hsz:((s.heap.push (seqObj "list" #[] 0)).update s.heap.objs.size (Obj.mapSeq (· ++vs.toArray))).objs.size=s.heap.objs.size+1:=by
  rw [Heap.size_update,size_push']
 have hoL:(((s.heap.push (seqObj "list" #[] 0)).update s.heap.objs.size (Obj.mapSeq (· ++vs.toArray))).push (seqObj "list" vs.toArray 0)).get? (s.heap.objs.size+1)=some (seqObj "list" vs.toArray 0):=by
  rw [←hsz];exact Heap.get?_push_size _ rfl
 show wpAny _ _ _ _ _ {s with heap:=((s.heap.push (seqObj "list" #[] 0)).update s.heap.objs.size (Obj.mapSeq (· ++vs.toArray))).push (seqObj "list" vs.toArray 0)}
 rw [hsz]
 refine wpAny_bind (wpAny_holding (wpAny_call_entry slot_list_sort ⟨_,hoL,rfl⟩ entry_list_sort (kD_ (s:={s with heap:=((s.heap.push (seqObj "list" #[] 0)).update s.heap.objs.size (Obj.mapSeq (· ++vs.toArray))).push (seqObj "list" vs.toArray 0)}) hoL h2 h64 (fun R=>hkd R _) hc fun p hp=>⟨_,rfl, ?_⟩) (args_list_sort _)))
 exact wpAny_pure ⟨_,rfl,h p hp⟩
end
section
variable {prog:Program}{w:World}{A:Around}{E:Value→Shared→Prop}{s:Shared}
theorem h0_ {a:Addr}{vs:List Value}{n:Nat}{P:PySem.Fin→Shared→Prop} (ho:s.heap.get? a=some (seqObj "list" vs.toArray n)) (h2:vs.length<2)
  (h:P (.done (.ret .none)) {s with heap:=sortedHeap s.heap a vs vs.toArray}):wpAny (model prog w) A (Builtin.«list.sort» ⟨[.ref a],[]⟩) P E s:=by
 rw [list_sort_plain]
 have ha:a<s.heap.objs.size:=Heap.lt_size ho
 refine wpAny_bind (listItems_at ho rfl ?_)
 refine wpAny_bind (listUpdate_at ho rfl ?_ (by rw [List.size_toArray,sizeLine_eq];omega) (Nat.zero_le _))
 obtain⟨e1,ho1⟩:∃e1,(s.heap.update a (Obj.mapSeq fun _=>(#[]:Array Value))).get? a=some (seqObj "list" #[] e1):=⟨_,get?_update_seq ho (fun _=> #[])⟩
 refine wpAny_bind (seqEpoch_at ho1 rfl ?_)
 refine wpAny_bind (wpAny_newTuple ?_ (by show vs.length≤_;rw [sizeLine_eq];omega))
 refine wpAny_bind (wpAny_newList ?_ (Nat.zero_le _))
 refine wpAny_holding ?_
 have ho6:(aL_ s.heap a vs).get? a=some (seqObj "list" #[] e1):=by
  rw [Heap.get?_push_ne _ _ _ (by rw [size_push',Heap.size_update];exact Nat.ne_of_lt (Nat.lt_succ_of_lt ha)),Heap.get?_push_ne _ _ _ (by rw [Heap.size_update];exact Nat.ne_of_lt ha)]
  exact ho1
 show wpAny (model prog w) A _ P E {s with heap:=aL_ s.heap a vs}
 dsimp only
 have hn2:vs.toArray.size<2:=by rw [List.size_toArray];omega
 rw [if_pos hn2,if_pos hn2]
 refine wpAny_bind (wpAny_pure ?_)
 rw [StateT.run_pure]
 refine wpAny_bind (wpAny_pure ?_)
 dsimp only
 have eo:(vs.toArray.zip vs.toArray).map (·.2)=vs.toArray:=by
  refine Array.ext (by simp) fun i h1 h2=> ?_
  simp
 refine wpAny_bind (seqEpoch_at ho6 rfl ?_)
 rw [eo]
 refine wpAny_bind (listUpdate_at ho6 rfl ?_ (Nat.zero_le _) (by rw [List.size_toArray,sizeLine_eq];omega))
 simp only [bne_self_eq_false,Bool.false_eq_true,if_false]
 exact wpAny_pure h
theorem eY_ {l:Addr}{vs:List Value}{Q:Value→Shared→Prop} (hl:s.heap.IsList l vs.toArray) (h2:vs.length<2)
  (h:Q (.ref (s.heap.objs.size+1)) {s with heap:=sortedAll s.heap vs vs.toArray}):wpAny (model prog w) A (call (.builtin "sorted") [.ref l]) Q E s:=by
 refine Calls.call_function_entry kind_sorted plain_sorted entry_sorted (args_sorted1 _) ?_
 unfold Builtin.«sorted»
 refine wpAny_bind (m:=checkCount "sorted" 1 1 _) (wpAny_pure ?_)
 refine wpAny_bind (collect_list hl ?_ (by rw [sizeLine_eq];omega))
 refine wpAny_bind (wpAny_newList ?_ (by rw [sizeLine_eq];omega))
 have hsz:((s.heap.push (seqObj "list" #[] 0)).update s.heap.objs.size (Obj.mapSeq (· ++vs.toArray))).objs.size=s.heap.objs.size+1:=by
  rw [Heap.size_update,size_push']
 have hoL:(((s.heap.push (seqObj "list" #[] 0)).update s.heap.objs.size (Obj.mapSeq (· ++vs.toArray))).push (seqObj "list" vs.toArray 0)).get? (s.heap.objs.size+1)=some (seqObj "list" vs.toArray 0):=by
  rw [←hsz];exact Heap.get?_push_size _ rfl
 show wpAny _ _ _ _ _ {s with heap:=((s.heap.push (seqObj "list" #[] 0)).update s.heap.objs.size (Obj.mapSeq (· ++vs.toArray))).push (seqObj "list" vs.toArray 0)}
 rw [hsz]
 refine wpAny_bind (wpAny_holding (wpAny_call_entry slot_list_sort ⟨_,hoL,rfl⟩ entry_list_sort (h0_ (s:={s with heap:=((s.heap.push (seqObj "list" #[] 0)).update s.heap.objs.size (Obj.mapSeq (· ++vs.toArray))).push (seqObj "list" vs.toArray 0)}) hoL h2 ⟨_,rfl, ?_⟩) (args_list_sort _)))
 exact wpAny_pure ⟨_,rfl,h⟩
end
section
variable {X:Cx}
theorem dh_ {rs:List V}{its:List Value} (r:aQ_ rs its):∀(l:List Nat),(∀i∈l,i<rs.length)→aQ_ (l.map fun i=>rs.getD i .non) (l.map fun i=>its.getD i .none)
 |[],_=> .nil
 |i::l,h=>by
  have hi:i<rs.length:=h i (by simp)
  have e:rs[i]? =some rs[i]:=List.getElem?_eq_getElem hi
  obtain⟨u,hu,ru⟩:=r.get e
  rw [List.map_cons,List.map_cons]
  refine .cons ?_ (dh_ r l fun j hj=>h j (by simp [hj]))
  rw [List.getD,List.getD,e,hu]
  exact ru
end
def g8_ (fin:Bool):List Int→List Int→Bool
 |x::xs,y::ys=>if x=y then g8_ fin xs ys else decide (x<y)
 |_,_=>fin
def ltI (xs ys:List Int):Bool:=g8_ (decide (xs.length<ys.length)) xs ys
section
variable {prog:Program}{w:World}{A:Around}{E:Value→Shared→Prop}{s:Shared}
theorem ii_ {fin:Bool}{Q:Bool→Shared→Prop}:∀{xs ys:List Int}{is js:List Value} (i:Nat),aQ_ (xs.map V.int) is→aQ_ (ys.map V.int) js→Q (g8_ fin xs ys) s→KatLex prog w A true fin Q (is.zip js) i s
 |[],ys,is,js,i,h1,h2,q=>by
  cases h1
  rw [List.zip_nil_left]
  exact kat_nil (by cases ys<;>exact q)
 |x::xs,[],is,js,i,h1,h2,q=>by
  cases h2
  rw [List.zip_nil_right]
  exact kat_nil q
 |x::xs,y::ys,is,js,i,h1,h2,q=>by
  cases h1 with
  |cons r1 h1=>
  cases h2 with
  |cons r2 h2=>
  obtain⟨t,rfl⟩:=r1
  obtain⟨t',rfl⟩:=r2
  rw [List.zip_cons_cons]
  refine kat_cons ?_
  refine wpAny_eqBool_int ?_
  unfold g8_ at q
  by_cases e:x=y
  ·rw [if_pos e] at q
   rw [show(x==y)=true by simp [e]]
   exact kat_yes (ii_ (i+1) h1 h2 q)
  ·rw [if_neg e] at q
   rw [show(x==y)=false by simp [e]]
   refine kat_no ?_
   cases hb:(true&&i==0) with
   |true=>exact oneLt_int q
   |false=>exact kat_one _ _ (SeqAt.LtAt.int_int x t y t' prog w _ _ q)
end
theorem if_ (xss:List (List Int)):(List.range xss.length).map (fun i=>xss.getD i [])=xss:=by
 refine List.ext_getElem (by simp) fun i h1 h2=> ?_
 simp [List.getD,h2]
theorem fV_ {H:Hp}{xss:List (List Int)}{rs:List V} (h:Iss H (xss.map tI) rs):∀(l:List Nat),(∀i∈l,i<xss.length)→Iss H ((l.map fun i=>xss.getD i []).map tI) (l.map fun i=>rs.getD i .non)
 |[],_=>rfl
 |i::l,hl=>by
  have hi:i<xss.length:=hl i (by simp)
  have hr:i<rs.length:=by rw [h.length,List.length_map];exact hi
  refine⟨_,_,rfl, ?_,fV_ h l fun j hj=>hl j (by simp [hj])⟩
  obtain⟨d,hd,h1⟩:=h.of_get (List.getElem?_eq_getElem hr)
  rw [List.getElem?_map,List.getElem?_eq_getElem hi] at hd
  cases hd
  show Is H (tI (xss.getD i [])) (rs.getD i .non)
  rw [List.getD_eq_getElem?_getD,List.getD_eq_getElem?_getD,List.getElem?_eq_getElem hi,List.getElem?_eq_getElem hr]
  exact h1
section
variable {X:Cx}{pins:List (Addr×Obj)}{σ:St}{H:Hp}{s:Shared}
theorem fT_ (I:Inv X pins σ H s):∀{xss:List (List Int)}{rs:List V}{its:List Value},Iss H (xss.map tI) rs→aQ_ rs its→(∀xs∈xss,xs≠[])→∃fs:List Value,KatTups s.heap its fs∧fs.length=its.length∧∀f∈fs,∃z t,f=Value.int z t
 |[],rs,its,h,r,_=>by
  obtain rfl:rs=[]:=h
  cases r
  exact⟨[],KatTups.nil,rfl,fun _ h=>nomatch h⟩
 |xs::xss,rs,its,h,r,hne=>by
  obtain⟨u,us,rfl,h1,h2⟩:=h
  cases r with
  |cons r1 r2=>
  rename_i v its
  obtain⟨fs,k1,k2,k3⟩:=fT_ I h2 r2 fun ys hy=>hne ys (by simp [hy])
  obtain⟨a,rfl,ha⟩:=hv_ h1
  obtain rfl:v=Value.ref a:=r1
  obtain⟨is,q1,q2,q3⟩:=I.tuple (SqT.of (K:=X.K) ha)
  obtain⟨o,ho,hc,n,hd⟩:=(show s.heap.IsTuple a is.toArray from q2)
  match xs,hne xs (by simp) with
  |x::xs',_=>
  cases q1 with
  |cons q0 q1=>
  obtain⟨t,rfl⟩:=q0
  refine⟨.int x t::fs,KatTups.cons ho hc hd (by simp) k1,by simp [k2],fun f hf=> ?_⟩
  rcases List.mem_cons.mp hf with rfl|hf
  ·exact⟨_,_,rfl⟩
  ·exact k3 f hf
theorem im_ (I:Inv X pins σ H s) {a b:Addr}{xs ys:List Int} (h1:SqT X.K H a (xs.map V.int)) (h2:SqT X.K H b (ys.map V.int)) {A:Around}{prog:Program}{w:World}{E:Value→Shared→Prop}{Q:Bool→Shared→Prop} (q:Q (ltI xs ys) s):
  wpAny (model prog w) A (keyLt' (tuples' true) (.ref a) (.ref b)) Q E s:=by
 obtain⟨is,r1,p1,z1⟩:=I.tuple h1
 obtain⟨js,r2,p2,z2⟩:=I.tuple h2
 obtain⟨o1,ho1,hc1,n1,hd1⟩:=(show s.heap.IsTuple a is.toArray from p1)
 obtain⟨o2,ho2,hc2,n2,hd2⟩:=(show s.heap.IsTuple b js.toArray from p2)
 refine kat_lt ho1 hd1 ho2 hd2 ?_
 have l1:is.toArray.size=xs.length:=by have:=r1.length;simp at this⊢;omega
 have l2:js.toArray.size=ys.length:=by have:=r2.length;simp at this⊢;omega
 rw [l1,l2]
 exact ii_ 0 r1 r2 q
end
end L2
namespace L2
open PySem PySem.Spec PyProof.Rows
def lb_ (v:Value) (k:Int):Bool:=match v with
 | .int i _=>decide (i=k)
 |_=>false
def f2_:List DictEntry→List (Int×Int)→Bool
 |[],[]=>true
 |e::es,p::kvs=>lb_ e.key p.1&&decide (e.hash=hashInt p.1)&&lb_ e.val p.2&&f2_ es kvs
 |_,_=>false
def nA_ (o:Obj) (kvs:List (Int×Int)):Bool:=match o.cls,o.dict,o.data with
 | .type c,none, .dict es _=>c=="dict"&&o.slots.isEmpty&&f2_ es.toList kvs
 |_,_,_=>false
def iC_ (K:PySem.W.Frag) (a:Addr) (kvs:List (Int×Int)):Bool:=match K.lookup a with
 |some o=>nA_ o kvs
 |none=>false
theorem iu_ {v:Value}{k:Int} (h:lb_ v k=true):∃t,v= .int k t:=by
 unfold lb_ at h
 split at h
 ·rename_i i t
  exact⟨t,by rw [of_decide_eq_true h]⟩
 ·cases h
theorem fc_ {e:DictEntry}{es:List DictEntry}{p:Int×Int}{kvs:List (Int×Int)} (h:f2_ (e::es) (p::kvs)=true):(∃t,e.key= .int p.1 t)∧e.hash=hashInt p.1∧(∃t,e.val= .int p.2 t)∧f2_ es kvs=true:=by
 unfold f2_ at h
 rw [Bool.and_eq_true,Bool.and_eq_true,Bool.and_eq_true] at h
 exact⟨iu_ h.1.1.1,of_decide_eq_true h.1.1.2,iu_ h.1.2,h.2⟩
theorem fa_:∀{es:List DictEntry}{kvs:List (Int×Int)},f2_ es kvs=true→∀e∈es,∃k,Value.isInt k e.key=true∧e.hash=hashInt k
 |[],_,_,e,he=>nomatch he
 |e::es,[],h,_,_=>by unfold f2_ at h;cases h
 |e::es,p::kvs,h,e',he=>by
  obtain⟨⟨t,h1⟩,h2,_,h4⟩:=fc_ h
  rcases List.mem_cons.mp he with rfl|he
  ·exact⟨p.1,by rw [h1];simp [Value.isInt],h2⟩
  ·exact fa_ h4 e' he
theorem fb_ {k v:Int}:∀{es:List DictEntry}{kvs:List (Int×Int)},f2_ es kvs=true→kvs.lookup k=some v→∃t,(es.find? fun e=>Value.isInt k e.key).map (·.val)=some (.int v t)
 |_,[],_,hv=>nomatch hv
 |[],p::kvs,h,_=>by unfold f2_ at h;cases h
 |e::es,p::kvs,h,hv=>by
  obtain⟨⟨t,h1⟩,h2,⟨u,h3⟩,h4⟩:=fc_ h
  rw [List.lookup_cons] at hv
  rw [List.find?_cons]
  by_cases q:k=p.1
  ·have b:(k==p.1)=true:=by simp [q]
   rw [b] at hv
   have hv':p.2=v:=Option.some.inj hv
   have i:Value.isInt k e.key=true:=by rw [h1,q];simp [Value.isInt]
   rw [i]
   exact⟨u,by rw [←hv',←h3];rfl⟩
  ·have b:(k==p.1)=false:=by simp [q]
   rw [b] at hv
   have i:Value.isInt k e.key=false:=by rw [h1];simp [Value.isInt];exact fun z=>q z.symm
   rw [i]
   exact fb_ h4 hv
def m5_ (K:PySem.W.Frag) (td ty:TE):TE:=fun σ H Q=>td σ H fun x H1=>ty σ H1 fun y H2=>∃a kvs k v,x= .ref a∧iC_ K a kvs=true∧y= .int k∧kvs.lookup k=some v∧Q (.int v) H2
theorem kV_ {X:Cx}{o i:Expr}{pos:Pos}{td ty:TE} (ho:PE X o td) (hi:PE X i ty) (hs:pj_ i):PE X (.Subscript o i pos) (m5_ X.K td ty):=by
 intro pins s σ H Q I h
 refine lO_ PySem.F.slot_dict_getitem.lookup hs (thn (ho pins s σ H _ I h) fun u s1 ⟨x,H1,I1,rx,q1⟩=>thn (hi pins s1 σ H1 _ I1 q1) fun iv s2 ⟨y,H2,I2,ry,a,kvs,k,v,ex,hd,ey,hv,q2⟩=> ?_)
 subst ex ey
 obtain rfl:u=Value.ref a:=rx
 obtain⟨t,rfl⟩:=ry
 unfold iC_ at hd
 split at hd
 ·rename_i ob hob
  have hg:=I2.kIn a ob hob
  unfold nA_ at hd
  split at hd
  ·rename_i c es ep hc hdi hda
   rw [Bool.and_eq_true,Bool.and_eq_true] at hd
   obtain⟨⟨d1,d2⟩,d3⟩:=hd
   have hc':ob.cls= .type "dict":=by rw [hc,eq_of_beq d1]
   obtain⟨t',ht⟩:=fb_ d3 hv
   have mp:s2.heap.MapOf (intKind X.prog X.w) a (findBy Value.isInt es):=⟨ob,es,ep,hg,⟨hc',hdi,Array.isEmpty_iff.mp d2⟩,hda,fun e he=>fa_ d3 e (by simpa using he),fun _=>rfl⟩
   refine⟨⟨ob,hg,hc'⟩,wpAny_getItem_of (knd:=intKind X.prog X.w) (k:=k) (by simp [intKind,Value.isInt]) mp (v:= .int v t') ?_ ⟨.int v,H2,I2.tok _,⟨_,rfl⟩,q2⟩⟩
   show findBy Value.isInt es k=_
   unfold findBy
   obtain⟨l⟩:=es
   simpa using ht
  ·cases hd
 ·cases hd
end L2
namespace L2
open PySem PySem.Spec PyProof.Rows
def g2_ (K:PySem.W.Frag) (H:Hp) (n:Nat) (xs:List V) (x:V) (es:Nat→Bool):Prop:=n≤8∧(∀(j:Nat) z,xs[j]? =some z→(∃a,z= .ref a)∧EqR K H n z x (es j))∧∀(i j:Nat) z,xs[i]? =some z→xs[j]? =some z→es i=es j
section
variable {X:Cx}{pins:List (Addr×Obj)}{σ:St}{H:Hp}{s:Shared}
open Classical in
noncomputable def eT_ (its:List Value) (es:Nat→Bool) (u:Value):Bool:=decide (∃j:Nat,its[j]? =some u∧es j=true)
open Classical in
theorem ck_ {n:Nat}{xs:List V}{x:V}{es:Nat→Bool}{its:List Value} (t:g2_ X.K H n xs x es) (r:aQ_ xs its) {j:Nat}{u:Value} (hu:its[j]? =some u):eT_ its es u=es j:=by
 have same:∀i:Nat,its[i]? =some u→es i=es j:=fun i hi=>by
  have li:=(List.getElem?_eq_some_iff.mp hi).1
  have lj:=(List.getElem?_eq_some_iff.mp hu).1
  have ln:=r.length
  have xi:xs[i]? =some xs[i]:=List.getElem?_eq_getElem (by omega)
  have xj:xs[j]? =some xs[j]:=List.getElem?_eq_getElem (by omega)
  obtain⟨u1,e1,r1⟩:=r.get xi
  obtain⟨u2,e2,r2⟩:=r.get xj
  rw [hi] at e1
  rw [hu] at e2
  cases e1
  cases e2
  obtain⟨⟨a,ea⟩,_⟩:=t.2.1 i _ xi
  obtain⟨⟨b,eb⟩,_⟩:=t.2.1 j _ xj
  rw [ea] at r1 xi
  rw [eb] at r2 xj
  obtain rfl:u=Value.ref a:=r1
  have:Value.ref a=Value.ref b:=r2
  cases this
  exact t.2.2 i j _ xi xj
 unfold eT_
 cases h:es j with
 |true=>exact decide_eq_true ⟨j,hu,h⟩
 |false=>exact decide_eq_false fun⟨i,hi,e⟩=>by rw [same i hi,h] at e;cases e
theorem d9_ (I:Inv X pins σ H s) {n:Nat}{xs:List V}{x:V}{v:Value}{es:Nat→Bool}{its:List Value} (t:g2_ X.K H n xs x es) (r:aQ_ xs its) (rx:bf_ x v) {A:Around} (hu:A.units+n<cLine):∀y,y∈its.toArray→SeqAt.EqAt A s y v (eT_ its es y):=fun y hy=>by
 obtain⟨j,hj,e⟩:=List.mem_iff_getElem.mp (by simpa using hy)
 have ej:its[j]? =some y:=by rw [List.getElem?_eq_getElem hj,e]
 have ln:=r.length
 have xj:xs[j]? =some xs[j]:=List.getElem?_eq_getElem (by omega)
 obtain⟨u2,e2,r2⟩:=r.get xj
 rw [ej] at e2
 cases e2
 rw [ck_ t r ej]
 exact((t.2.1 j _ xj).2.at_ I (A:=A) hu r2 rx).2.2
theorem gN_ {n:Nat}{xs:List V}{x:V}{es:Nat→Bool}{its:List Value} (t:g2_ X.K H n xs x es) (r:aQ_ xs its):its.toArray.any (eT_ its es)=(List.range xs.length).any es:=by
 rw [show its.toArray.any (eT_ its es)=its.any (eT_ its es) by simp,Bool.eq_iff_iff,List.any_eq_true,List.any_eq_true]
 have ln:=r.length
 constructor
 ·rintro⟨u,hu,e⟩
  obtain⟨j,hj,e2⟩:=List.mem_iff_getElem.mp hu
  rw [ck_ t r (by rw [List.getElem?_eq_getElem hj,e2])] at e
  exact⟨j,by simp;omega,e⟩
 ·rintro⟨j,hj,e⟩
  have hj':j<its.length:=by simp at hj;omega
  exact⟨its[j],List.getElem_mem hj',by rw [ck_ t r (List.getElem?_eq_getElem hj')];exact e⟩
end
section
variable {X:Cx}
def pc_ (K:PySem.W.Frag) (neg:Bool):R2:=fun x y H Q=>∃(p:Addr) (xs:List V) (n:Nat) (es:Nat→Bool),y= .ref p∧SqL K H p xs∧g2_ K H n xs x es∧Q (.bl (if neg then !((List.range xs.length).any es) else(List.range xs.length).any es)) H
theorem nt_ {k:Nat} (hr:Room k X.A):OpR X (compareOp .In) (pc_ X.K false):=by
 intro pins s σ H x y v u Q I rx ry h
 obtain⟨p,xs,n,es,rfl,hq,t,q⟩:=h
 cases ry
 have hu:=hr.un
 have t8:=t.1
 obtain⟨its,r,pl,hz⟩:=I.list hq
 refine SeqAt.in_listAt (eT_ its es) pl.isList (d9_ I t r rx (by rw [aB_];omega)) ⟨.bl _,H,I,rfl, ?_⟩
 rw [gN_ t r]
 exact q
theorem jC_ {k:Nat} (hr:Room k X.A):OpR X (compareOp .NotIn) (pc_ X.K true):=by
 intro pins s σ H x y v u Q I rx ry h
 obtain⟨p,xs,n,es,rfl,hq,t,q⟩:=h
 cases ry
 have hu:=hr.un
 have t8:=t.1
 obtain⟨its,r,pl,hz⟩:=I.list hq
 refine SeqAt.notIn_listAt (eT_ its es) pl.isList (d9_ I t r rx (by rw [aB_];omega)) ⟨.bl _,H,I,rfl, ?_⟩
 rw [gN_ t r]
 exact q
def l0_ (K:PySem.W.Frag):V→List V→Hp→VK→Prop:=fun o vs H Q=>∃(p:Addr) (xs:List V) (x:V) (n:Nat) (es:Nat→Bool) (j:Nat),o= .ref p∧vs=[x]∧SqL K H p xs∧xs.length≤1000∧g2_ K H n xs x es∧j<xs.length∧es j=true∧(∀m,m<j→es m=false)∧Q (.int j) H
theorem jG_ {k:Nat} (hr:Room k X.A):MtM X "list.index" (l0_ X.K):=by
 intro pins s σ H o vs v us Q I ro rv h
 obtain⟨p,xs,x,n,es,j,rfl,rfl,hq,hL,t,hj,e1,e2,q⟩:=h
 cases ro
 obtain⟨u,rfl,ru⟩:=aQ_.one rv
 have hu:=hr.un
 have t8:=t.1
 obtain⟨its,r,pl,hz⟩:=I.list hq
 have ln:=r.length
 obtain⟨⟨cls,dd,data,sl⟩,ho,hc,m,hd⟩:=pl.isList
 simp only at hc hd
 subst hc hd
 have hj':j<its.length:=by omega
 refine call_meets F.slot_list_index ⟨_,ho,rfl⟩ F.entry_list_index (F.args_list_index_2 _ _) (SeqAt.list_indexAt p its.toArray m dd sl u (eT_ its es) j (by simpa using hj') (by omega) ?_ ?_) ⟨ho,d9_ I t r ru (by rw [aB_];omega), ?_⟩
 ·rw [ck_ t r (show its[j]? =some its.toArray[j] by simp [hj'])]
  exact e1
 ·intro i hi hij
  have hi':i<its.length:=by simpa using hi
  rw [ck_ t r (show its[i]? =some its.toArray[i] by simp [hi'])]
  exact e2 i hij
 ·exact⟨.int j,H,I.tok _,⟨_,rfl⟩,q⟩
end
end L2
namespace L2
open PySem PySem.Spec PyProof.Rows PySem.W
def Ask (K:PySem.W.Frag) (H:Hp) (x y:V) (b:Bool):Prop:=∃(a1 a2:Addr) (xs ys:List V) (d:Nat) (es fs:Nat→Bool),x= .ref a1∧y= .ref a2∧SqL K H a1 xs∧SqL K H a2 ys∧d≤4∧
 (∀(j:Nat) x y,xs[j]? =some x→ys[j]? =some y→EqR K H d x y (es j))∧(∀(j:Nat) x y,xs[j]? =some x→ys[j]? =some y→es j=false→LtR K H d x y (fs j))∧b=SeqAt.lex es fs xs.length ys.length (min xs.length ys.length) 0
def kN_ (K:PySem.W.Frag):List V→Hp→VK→Prop:=fun vs H Q=>∃(l:Addr) (rs:List V),vs=[.ref l]∧SqL K H l rs∧rs.length<64∧(∀r∈rs,∃a ys,r= .ref a∧SqL K H a ys)∧
 (∀x∈rs,∀y∈rs,∃b,Ask K H x y b)∧∀(p:List Nat) q,p.Perm (List.range rs.length)→H q=none→Q (.ref q) (upd H q (.lst (p.map fun i=>rs.getD i .non)))
section
variable {X:Cx}
theorem gS_ {k:Nat} (hr:Room k X.A):b7_ X (.builtin "sorted") (kN_ X.K):=by
 intro pins s σ H xs us Q I r h
 obtain⟨l,rs,rfl,hq,h64,hty,hask,q⟩:=h
 obtain⟨u,rfl,rx⟩:=di_ r
 cases rx
 obtain⟨its,r',pl,hz⟩:=I.list hq
 have ln:=r'.length
 have hu:=hr.un
 by_cases h2:rs.length<2
 ·refine eY_ (vs:=its) pl.isList (by omega) ?_
  obtain⟨e,he⟩:=sortedAll_at s.heap its its.toArray
  have fr:=I.hok.fresh (a:=s.heap.objs.size+1) (Nat.le_succ _)
  have er:(List.range rs.length).map (fun i=>rs.getD i .non)=rs:=by
   refine List.ext_getElem (by simp) fun i h1 h2=> ?_
   simp [List.getD,h2]
  have:=q (List.range rs.length) (s.heap.objs.size+1) (List.Perm.refl _) fr
  rw [er] at this
  exact⟨.ref (s.heap.objs.size+1),_,I.laid (t':=s.toks) (fun _ _=>sortedAll_old) (Nat.le_succ _) (show ba_ X.prog X.w _ _ _ (.lst rs) from⟨hz,its,e,r',he⟩),rfl,this⟩
 ·have I2:Inv X pins σ H {s with heap:=bg_ s.heap its}:=I.kept (t':=s.toks) fun b o e=>dP_ e
  have g:∀i,i<its.length→∃x∈rs,bf_ x (its.getD i .none):=fun i h=>by
   have hr:i<rs.length:=by omega
   obtain⟨u,hu1,ru⟩:=r'.get (List.getElem?_eq_getElem hr)
   exact⟨rs[i],List.getElem_mem hr,by rw [List.getD_eq_getElem?_getD,hu1];exact ru⟩
  refine iM_ (kd:=oneType') (vs:=its) pl.isList (by omega) (by omega) (fun R E hR=>kas_kind (T:= .type "list") (by omega) (fun v hv=> ?_) rfl rfl hR) (fun i j hi' hj'=> ?_) fun p ho=> ?_
  ·obtain⟨i,hi,rfl⟩:=List.mem_iff_getElem.mp hv
   have hi':i<rs.length:=by omega
   obtain⟨a,ys,e1,hy⟩:=hty rs[i] (List.getElem_mem hi')
   obtain⟨u,hu1,ru⟩:=r'.get (List.getElem?_eq_getElem hi')
   rw [List.getElem?_eq_getElem hi] at hu1
   rw [e1] at ru
   obtain rfl:u=Value.ref a:=ru
   rw [Option.some.inj hu1]
   obtain⟨js,r2,p2,z2⟩:=I2.list hy
   obtain⟨o,ho,hc,_⟩:=p2.isList
   exact hc▸(Looks.ld ho).andThen .now
  ·obtain⟨x,hx,rx⟩:=g i hi'
   obtain⟨y,hy,ry⟩:=g j hj'
   obtain⟨b,a1,a2,xs,ys,d,es,fs,rfl,rfl,h1,h2,hd,he,hf,eb⟩:=hask x hx y hy
   refine⟨b,fun C hC=> ?_⟩
   have e1:its.getD i .none=Value.ref a1:=rx
   have e2:its.getD j .none=Value.ref a2:=ry
   rw [e1,e2]
   rw [eb] at hC
   exact LtR.key I2 h1 h2 he hf (by rw [aB_,aB_];omega) hC
  ·have ho':Ord rs.length p:=by rw [ln];exact ho
   obtain⟨e,he⟩:=sortedAll_at s.heap its (p.map fun i=>its.getD i .none)
   have en:(p.map fun i=>its.getD i .none)=List.toArray (p.toList.map fun i=>its.getD i .none):=by
    apply Array.toList_inj.mp
    simp
   rw [en] at he⊢
   have fr:=I.hok.fresh (a:=s.heap.objs.size+1) (Nat.le_succ _)
   have pp:p.toList.Perm (List.range rs.length):=Array.perm_iff_toList_perm.mp ho'
   refine⟨.ref (s.heap.objs.size+1),_,I.laid (t':=s.toks) (fun _ _=>sortedAll_old) (Nat.le_succ _) (show ba_ X.prog X.w _ _ _ (.lst (p.toList.map fun i=>rs.getD i .non)) from⟨?_,_,e,dh_ r' p.toList (fun i hi=>ho'.lt hi),he⟩),rfl,q p.toList _ pp fr⟩
   rw [List.length_map,Array.length_toList,sizeLine_eq,ho'.size]
   omega
end
section
variable {K:PySem.W.Frag}{H:Hp}
end
end L2
namespace L2
open PySem PySem.Spec PyProof.Rows PyProof
section
variable {prog:Program}{w:World}{A:Around}{R:Result→Shared→Prop}{I:Addr}{fp wr:List Addr}{n:Nat}{P:Nat→Value→Prop}{St:Nat→Heap→Prop}{nm:Str}{dv:Value}
end
section
variable {prog:Program}{w:World}{A:Around}{E:Value→Shared→Prop}{s:Shared}
end
section
variable {X:Cx}{e e2:Expr}{p pos kpos:Pos}{ta tk:TA}
end
end L2
namespace L2
open PySem PySem.Spec PyProof.Rows PySem.W
def cq_ (c:Nat→Nat→Bool) {α:Type}:KasT α→α
 | .ret a=>a
 | .ask i j k=>cq_ c (k (c i j))
theorem b4_ {c:Nat→Nat→Bool}{α β:Type}{f:α→KasT β}:∀(t:KasT α),cq_ c (t.bind f)=cq_ c (f (cq_ c t))
 | .ret _=>rfl
 | .ask i j k=>b4_ (k (c i j))
structure Ordr (c:Nat→Nat→Bool):Prop where
 asym:∀a b,c a b=true→c b a=false
 tr:∀a b d,c b a=false→c d b=false→c d a=false
section
variable {c:Nat→Nat→Bool}
abbrev at0 (p:Array Nat) (i:Nat):Nat:=p.getD i 0
def Up (c:Nat→Nat→Bool) (p:Array Nat) (m:Nat):Prop:=∀i j,i<j→j<m→c (at0 p j) (at0 p i)=false
def Dn (c:Nat→Nat→Bool) (p:Array Nat) (m:Nat):Prop:=∀i j,i<j→j<m→c (at0 p i) (at0 p j)=false
theorem Up.more (O:Ordr c) {p:Array Nat}{m:Nat} (h:Up c p m) (hm:0<m) (e:c (at0 p m) (at0 p (m-1))=false):Up c p (m+1):=by
 intro i j hij hj
 by_cases hjm:j<m
 ·exact h i j hij hjm
 ·obtain rfl:j=m:=by omega
  by_cases hi:i=j-1
  ·subst hi;exact e
  ·exact O.tr _ _ _ (h i (j-1) (by omega) (by omega)) e
theorem Dn.more (O:Ordr c) {p:Array Nat}{m:Nat} (h:Dn c p m) (hm:0<m) (e:c (at0 p (m-1)) (at0 p m)=false):Dn c p (m+1):=by
 intro i j hij hj
 by_cases hjm:j<m
 ·exact h i j hij hjm
 ·obtain rfl:j=m:=by omega
  by_cases hi:i=j-1
  ·subst hi;exact e
  ·exact O.tr _ _ _ e (h i (j-1) (by omega) (by omega))
theorem fP_ (O:Ordr c) {p:Array Nat}:∀(f m:Nat),0<m→Up c p m→m≤cq_ c (kas_asc p f m)∧cq_ c (kas_asc p f m)≤m+f∧Up c p (cq_ c (kas_asc p f m))∧(cq_ c (kas_asc p f m)<m+f→c (at0 p (cq_ c (kas_asc p f m))) (at0 p (cq_ c (kas_asc p f m)-1))=true)
 |0,m,hm,h=>⟨Nat.le_refl _,Nat.le_refl _,h,fun z=>absurd z (Nat.lt_irrefl _)⟩
 |f+1,m,hm,h=>by
  unfold kas_asc cq_
  cases e:c (p.getD m 0) (p.getD (m-1) 0) with
  |true=>
   dsimp only
   rw [if_pos rfl]
   exact⟨Nat.le_refl _,by show m≤_;omega,h,fun _=>e⟩
  |false=>
   dsimp only
   rw [if_neg (by decide)]
   obtain⟨h1,h2,h3,h4⟩:=fP_ O f (m+1) (by omega) (h.more O hm e)
   exact⟨by omega,by omega,h3,fun z=>h4 (by omega)⟩
theorem cY_ {p:Array Nat}{i j:Nat} (hj:j≤p.size) (k:Nat):at0 (kas_rev p i j) k=if i≤k∧k<j then at0 p (i+j-1-k) else at0 p k:=by
 have h:=getElem?_mirror_all (xs:=p) (i:=i) hj k
 have e:∀q:Array Nat,∀k,at0 q k=(q[k]?).getD 0:=fun q k=>by simp [at0,Array.getD];split<;>simp [*]
 rw [e,e,e]
 unfold kas_rev
 rw [h]
 split<;>rfl
theorem cc_ (p:Array Nat) (i j:Nat):(kas_rev p i j).size=p.size:=mirror_size _ _ _ _
theorem Dn.rev_all {p:Array Nat}{m:Nat} (h:Dn c p m) (hm:m≤p.size):Up c (kas_rev p 0 m) m:=by
 intro i j hij hj
 rw [cY_ hm,cY_ hm,if_pos ⟨by omega,hj⟩,if_pos ⟨by omega,by omega⟩]
 exact h _ _ (by omega) (by omega)
theorem Up.rev_all {p:Array Nat}{m:Nat} (h:Up c p m) (hm:m≤p.size):Dn c (kas_rev p 0 m) m:=by
 intro i j hij hj
 rw [cY_ hm,cY_ hm,if_pos ⟨by omega,by omega⟩,if_pos ⟨by omega,hj⟩]
 exact h _ _ (by omega) (by omega)
theorem Dn.rev_blk {p:Array Nat}{m q:Nat} (h:Dn c p m) (hm:m≤p.size) (hq:q+1≤m) (hb:∀i j,m-(q+1)≤i→i<m→m-(q+1)≤j→j<m→c (at0 p i) (at0 p j)=false):Dn c (kas_rev p (m-(q+1)) m) m:=by
 intro i j hij hj
 rw [cY_ hm,cY_ hm]
 by_cases h1:m-(q+1)≤i
 ·rw [if_pos ⟨h1,by omega⟩,if_pos ⟨by omega,hj⟩]
  exact hb _ _ (by omega) (by omega) (by omega) (by omega)
 ·rw [if_neg (by omega)]
  by_cases h2:m-(q+1)≤j
  ·rw [if_pos ⟨h2,hj⟩]
   exact h _ _ (by omega) (by omega)
  ·rw [if_neg (by omega)]
   exact h _ _ hij hj
def Blk (c:Nat→Nat→Bool) (p:Array Nat) (m q:Nat):Prop:=q+1≤m∧∀i j,m-(q+1)≤i→i<m→m-(q+1)≤j→j<m→c (at0 p i) (at0 p j)=false
theorem dt_ (O:Ordr c):∀(f:Nat) (p:Array Nat) (m q:Nat),m+f≤p.size→0<m→Dn c p m→Blk c p m q→∀r,r=cq_ c (kas_desc f p m q)→r.1.size=p.size∧m≤r.2.1∧r.2.1≤m+f∧Dn c r.1 r.2.1∧Blk c r.1 r.2.1 r.2.2
 |0,p,m,q,_,_,hd,hb,r,e=>by
  subst e
  exact⟨rfl,Nat.le_refl _,Nat.le_refl _,hd,hb⟩
 |f+1,p,m,q,hs,hm,hd,hb,r,e=>by
  unfold kas_desc cq_ at e
  cases e1:c (p.getD m 0) (p.getD (m-1) 0) with
  |true=>
   rw [e1] at e
   dsimp only at e
   rw [if_pos rfl] at e
   have e2:=O.asym _ _ e1
   by_cases hq:q>0
   ·rw [if_pos hq] at e
    have hd2:=hd.rev_blk (by omega) hb.1 hb.2
    have at_m:at0 (kas_rev p (m-(q+1)) m) m=at0 p m:=by rw [cY_ (by omega),if_neg (by omega)]
    have at_m1:at0 (kas_rev p (m-(q+1)) m) (m-1)=at0 p (m-(q+1)+m-1-(m-1)):=by rw [cY_ (by omega),if_pos ⟨by have:=hb.1;omega,by omega⟩]
    have e3:c (at0 (kas_rev p (m-(q+1)) m) (m-1)) (at0 (kas_rev p (m-(q+1)) m) m)=false:=by
     rw [at_m,at_m1]
     have b1:=hb.1
     exact O.tr _ _ _ e2 (hb.2 _ (m-1) (by omega) (by omega) (by omega) (by omega))
    have hd3:=hd2.more O hm e3
    have hb3:Blk c (kas_rev p (m-(q+1)) m) (m+1) 0:=⟨by omega,fun i j h1 h2 h3 h4=>by
     obtain rfl:i=m:=by omega
     obtain rfl:j=i:=by omega
     cases h:c (at0 (kas_rev p (j-(q+1)) j) j) (at0 (kas_rev p (j-(q+1)) j) j) with
     |false=>rfl
     |true=>have:=O.asym _ _ h;rw [h] at this;cases this⟩
    obtain⟨r1,r2,r3,r4,r5⟩:=dt_ O f _ (m+1) 0 (by rw [cc_];omega) (by omega) hd3 hb3 r e
    exact⟨by rw [r1,cc_],by omega,by omega,r4,r5⟩
   ·rw [if_neg hq] at e
    have hd3:=hd.more O hm e2
    have hb3:Blk c p (m+1) 0:=⟨by omega,fun i j h1 h2 h3 h4=>by
     obtain rfl:i=m:=by omega
     obtain rfl:j=i:=by omega
     cases h:c (at0 p j) (at0 p j) with
     |false=>rfl
     |true=>have:=O.asym _ _ h;rw [h] at this;cases this⟩
    obtain⟨r1,r2,r3,r4,r5⟩:=dt_ O f _ (m+1) 0 (by omega) (by omega) hd3 hb3 r e
    exact⟨r1,by omega,by omega,r4,r5⟩
  |false=>
   rw [e1] at e
   dsimp only at e
   rw [if_neg (by decide)] at e
   unfold cq_ at e
   cases e2:c (p.getD (m-1) 0) (p.getD m 0) with
   |true=>
    rw [e2] at e
    dsimp only at e
    rw [if_pos rfl] at e
    subst e
    exact⟨rfl,Nat.le_refl _,by show m≤_;omega,hd,hb⟩
   |false=>
    rw [e2] at e
    dsimp only at e
    rw [if_neg (by decide)] at e
    have hd3:=hd.more O hm e2
    have b1:=hb.1
    have hb3:Blk c p (m+1) (q+1):=⟨by omega,fun i j h1 h2 h3 h4=>by
     by_cases hi:i=m
     ·by_cases hj:j=m
      ·subst hi;subst hj
       cases h:c (at0 p j) (at0 p j) with
       |false=>rfl
       |true=>have:=O.asym _ _ h;rw [h] at this;cases this
      ·subst hi
       exact O.tr _ _ _ (hb.2 _ _ (by omega) (by omega) (by omega) (by omega)) e1
     ·by_cases hj:j=m
      ·subst hj
       exact O.tr _ _ _ e2 (hb.2 _ _ (by omega) (by omega) (by omega) (by omega))
      ·exact hb.2 _ _ (by omega) (by omega) (by omega) (by omega)⟩
    obtain⟨r1,r2,r3,r4,r5⟩:=dt_ O f _ (m+1) (q+1) (by omega) (by omega) hd3 hb3 r e
    exact⟨r1,by omega,by omega,r4,r5⟩
theorem gE_ (O:Ordr c) {p:Array Nat}{m n:Nat} (hn:n≤p.size) (hm:m≤n) (h0:0<m) (hd:Dn c p m):∀r,r=cq_ c (kas_tail3 m n p)→r.2.size=p.size∧0<r.1∧r.1≤n∧Up c r.2 r.1:=by
 intro r e
 unfold kas_tail3 at e
 rw [b4_] at e
 subst e
 obtain⟨h1,h2,h3,_⟩:=fP_ O (n-m) m h0 (hd.rev_all (by omega))
 exact⟨cc_ _ _ _,by show 0<cq_ c _;omega,by show cq_ c _≤n;omega,h3⟩
theorem gG_ (O:Ordr c) {p:Array Nat}{m n:Nat} (hn:n≤p.size) (hm:m<n) (h0:0<m) (hd:Dn c p m) (e:c (at0 p m) (at0 p (m-1))=true):∀r,r=cq_ c (kas_descPart m n p)→r.2.size=p.size∧0<r.1∧r.1≤n∧Up c r.2 r.1:=by
 intro r er
 unfold kas_descPart at er
 rw [b4_] at er
 have hd1:=hd.more O h0 (O.asym _ _ e)
 have hb1:Blk c p (m+1) 0:=⟨by omega,fun i j h1 h2 h3 h4=>by
  obtain rfl:i=m:=by omega
  obtain rfl:j=i:=by omega
  cases h:c (at0 p j) (at0 p j) with
  |false=>rfl
  |true=>have:=O.asym _ _ h;rw [h] at this;cases this⟩
 obtain⟨r1,r2,r3,r4,r5⟩:=dt_ O (n-(m+1)) p (m+1) 0 (by omega) (by omega) hd1 hb1 _ rfl
 generalize cq_ c (kas_desc (n-(m+1)) p (m+1) 0)=d at*
 split at er
 ·obtain⟨t1,t2,t3,t4⟩:=gE_ O (p:=kas_rev d.1 (d.2.1-(d.2.2+1)) d.2.1) (m:=d.2.1) (n:=n) (by rw [cc_];omega) (by omega) (by omega) (r4.rev_blk (by omega) r5.1 r5.2) r er
  exact⟨by rw [t1,cc_,r1],t2,t3,t4⟩
 ·obtain⟨t1,t2,t3,t4⟩:=gE_ O (p:=d.1) (m:=d.2.1) (n:=n) (by omega) (by omega) (by omega) r4 r er
  exact⟨by rw [t1,r1],t2,t3,t4⟩
theorem iX_ (O:Ordr c) {p:Array Nat}{n:Nat} (hn:n≤p.size) (h0:0<n):∀r,r=cq_ c (kas_count n p)→r.2.size=p.size∧0<r.1∧r.1≤n∧Up c r.2 r.1:=by
 intro r er
 unfold kas_count at er
 rw [b4_] at er
 obtain⟨h1,h2,h3,h4⟩:=fP_ O (p:=p) (n-1) 1 (by decide) (fun i j a b=>absurd b (by omega))
 generalize cq_ c (kas_asc p (n-1) 1)=m at*
 by_cases hm:m=n
 ·subst hm
  rw [if_pos (by simp)] at er
  subst er
  exact⟨rfl,h0,Nat.le_refl _,h3⟩
 ·rw [if_neg (by simp [hm])] at er
  have st:=h4 (by omega)
  by_cases h5:m>1
  ·rw [if_pos h5] at er
   unfold cq_ at er
   cases e1:c (p.getD 0 0) (p.getD (m-1) 0) with
   |true=>
    rw [e1] at er
    dsimp only at er
    rw [if_pos rfl] at er
    subst er
    exact⟨rfl,by show 0<m;omega,by show m≤n;omega,h3⟩
   |false=>
    rw [e1] at er
    dsimp only at er
    rw [if_neg (by decide)] at er
    have hd:=h3.rev_all (by omega:m≤p.size)
    obtain⟨t1,t2,t3,t4⟩:=gG_ O (p:=kas_rev p 0 m) (m:=m) (n:=n) (by rw [cc_];exact hn) (by omega) (by omega) hd (by
     rw [cY_ (by omega),cY_ (by omega),if_neg (by omega),if_pos ⟨by omega,by omega⟩,show 0+m-1-(m-1)=0 by omega]
     cases h:c (at0 p m) (at0 p 0) with
     |true=>rfl
     |false=>have:=O.tr _ _ _ e1 h;rw [st] at this;cases this) r er
    exact⟨by rw [t1,cc_],t2,t3,t4⟩
  ·rw [if_neg h5] at er
   obtain rfl:m=1:=by omega
   exact gG_ O hn (by omega) (by decide) (fun i j a b=>absurd b (by omega)) st r er
theorem dH_ (O:Ordr c) {p:Array Nat}{k:Nat} (hu:Up c p k):∀(f l r:Nat),r-l≤f→l≤r→r≤k→(∀i,i<l→c (at0 p k) (at0 p i)=false)→(∀i,r≤i→i<k→c (at0 p k) (at0 p i)=true)→
  cq_ c (kas_place p k f l r)≤k∧(∀i,i<cq_ c (kas_place p k f l r)→c (at0 p k) (at0 p i)=false)∧(∀i,cq_ c (kas_place p k f l r)≤i→i<k→c (at0 p k) (at0 p i)=true)
 |0,l,r,hf,hl,hr,h1,h2=>by
  obtain rfl:l=r:=by omega
  exact⟨hr,h1,h2⟩
 |f+1,l,r,hf,hl,hr,h1,h2=>by
  unfold kas_place
  by_cases h:l≥r
  ·rw [if_pos h]
   obtain rfl:l=r:=by omega
   exact⟨hr,h1,h2⟩
  ·rw [if_neg h]
   unfold cq_
   cases e:c (p.getD k 0) (p.getD ((l+r)/2) 0) with
   |true=>
    dsimp only
    rw [if_pos rfl]
    refine dH_ O hu f l ((l+r)/2) (by omega) (by omega) (by omega) h1 fun i a b=> ?_
    by_cases hi:i=(l+r)/2
    ·subst hi;exact e
    ·cases q:c (at0 p k) (at0 p i) with
     |true=>rfl
     |false=>have:=O.tr _ _ _ (hu ((l+r)/2) i (by omega) b) q;rw [e] at this;cases this
   |false=>
    dsimp only
    rw [if_neg (by decide)]
    refine dH_ O hu f ((l+r)/2+1) r (by omega) (by omega) hr (fun i a=> ?_) h2
    by_cases hi:i=(l+r)/2
    ·subst hi;exact e
    ·exact O.tr _ _ _ (hu i ((l+r)/2) (by omega) (by omega)) e
theorem lC_ {p:Array Nat}{k d:Nat} (hk:k<p.size) (hd:d≤k) (i:Nat):at0 (bubble p k d) i=if i=k-d then at0 p k else if k-d<i∧i≤k then at0 p (i-1) else at0 p i:=by
 have h:=getElem?_bubble hk d hd i
 have e:∀q:Array Nat,∀k,at0 q k=(q[k]?).getD 0:=fun q k=>by simp [at0,Array.getD];split<;>simp [*]
 rw [e,e,e,e,h]
 split
 ·rfl
 ·split<;>rfl
theorem ik_ (O:Ordr c):∀(f:Nat) (p:Array Nat) (k:Nat),0<k→k+f≤p.size→Up c p k→Up c (cq_ c (kas_bin f p k)) (k+f)
 |0,p,k,_,_,h=>h
 |f+1,p,k,h0,hs,hu=>by
  unfold kas_bin
  rw [b4_]
  obtain⟨a1,a2,a3⟩:=dH_ O hu k 0 k (by omega) (by omega) (Nat.le_refl _) (fun i z=>absurd z (by omega)) (fun i z1 z2=>absurd z2 (by omega))
  generalize cq_ c (kas_place p k k 0 k)=l at*
  have hu2:Up c (bubble p k (k-l)) (k+1):=by
   intro i j hij hj
   rw [lC_ (by omega) (by omega),lC_ (by omega) (by omega),show k-(k-l)=l by omega]
   by_cases j1:j=l
   ·rw [if_pos j1,if_neg (by omega),if_neg (by omega)]
    exact a2 i (by omega)
   ·rw [if_neg j1]
    by_cases j2:l<j∧j≤k
    ·rw [if_pos j2]
     by_cases i1:i=l
     ·rw [if_pos i1]
      exact O.asym _ _ (a3 (j-1) (by omega) (by omega))
     ·rw [if_neg i1]
      by_cases i2:l<i∧i≤k
      ·rw [if_pos i2];exact hu _ _ (by omega) (by omega)
      ·rw [if_neg i2];exact hu _ _ (by omega) (by omega)
    ·rw [if_neg j2,if_neg (by omega),if_neg (by omega)]
     exact hu _ _ hij (by omega)
  have:=ik_ O f (bubble p k (k-l)) (k+1) (by omega) (by rw [bubble_size];omega) hu2
  rw [show k+(f+1)=k+1+f by omega]
  exact this
theorem gF_ (O:Ordr c) {n:Nat} (h0:0<n):Up c (cq_ c (kas_sort n)) n:=by
 unfold kas_sort
 rw [b4_]
 obtain⟨r1,r2,r3,r4⟩:=iX_ O (p:=List.toArray (List.range n)) (n:=n) (by simp) h0 _ rfl
 generalize cq_ c (kas_count n (List.toArray (List.range n)))=r at*
 have sz:r.2.size=n:=by rw [r1];simp
 by_cases h:r.1<n
 ·rw [if_pos h]
  have em:max r.1 1=r.1:=by omega
  rw [em]
  have:=ik_ O (n-r.1) r.2 r.1 r2 (by omega) r4
  rw [show r.1+(n-r.1)=n by omega] at this
  exact this
 ·rw [if_neg h]
  have:r.1=n:=by omega
  rw [this] at r4
  exact r4
end
end L2
namespace L2
open PySem PySem.Spec PyProof.Rows PySem.W
theorem aV_.wpc {n:Nat}{c:Nat→Nat→Bool}{α:Type}{R:α→Prop}{cmp:Nat→Nat→(Bool→Shared→Prop)→Shared→Prop}{Q:α→Shared→Prop}{s:Shared} (hc:∀i j,i<n→j<n→∀C:Bool→Shared→Prop,C (c i j) s→cmp i j C s):∀{t:KasT α},(R (cq_ c t)→Q (cq_ c t) s)→aV_ n R t→t.kasWp cmp Q s
 | .ret a,hq,h=>hq h
 | .ask i j k,hq,h=>hc i j h.1 h.2.1 _ (aV_.wpc hc (t:=k (c i j)) hq (h.2.2 (c i j)))
theorem jU_:∀{xs ys zs:List Int},xs.length=ys.length→ys.length=zs.length→g8_ false ys xs=false→g8_ false zs ys=false→g8_ false zs xs=false
 |[],[],[],_,_,_,_=>rfl
 |x::xs,y::ys,z::zs,h1,h2,a,b=>by
  unfold g8_ at a b⊢
  by_cases e1:y=x
  ·rw [if_pos e1] at a
   by_cases e2:z=y
   ·rw [if_pos e2] at b
    rw [if_pos (e2.trans e1)]
    exact jU_ (by simpa using h1) (by simpa using h2) a b
   ·rw [if_neg e2] at b
    have:=of_decide_eq_false b
    rw [if_neg (by omega)]
    exact decide_eq_false (by omega)
  ·rw [if_neg e1] at a
   have a:=of_decide_eq_false a
   by_cases e2:z=y
   ·rw [if_neg (by omega)]
    exact decide_eq_false (by omega)
   ·rw [if_neg e2] at b
    have:=of_decide_eq_false b
    rw [if_neg (by omega)]
    exact decide_eq_false (by omega)
theorem gB_:∀{xs ys:List Int},xs.length=ys.length→g8_ false xs ys=true→g8_ false ys xs=false
 |[],[],_,h=>nomatch h
 |x::xs,y::ys,hl,h=>by
  unfold g8_ at h⊢
  by_cases e:x=y
  ·rw [if_pos e] at h
   rw [if_pos e.symm]
   exact gB_ (by simpa using hl) h
  ·rw [if_neg e] at h
   have:=of_decide_eq_true h
   rw [if_neg (by omega)]
   exact decide_eq_false (by omega)
theorem gC_:∀{xs ys:List Int},xs.length=ys.length→g8_ false xs ys=false→g8_ false ys xs=false→xs=ys
 |[],[],_,_,_=>rfl
 |x::xs,y::ys,hl,h,k=>by
  unfold g8_ at h k
  by_cases e:x=y
  ·rw [if_pos e] at h
   rw [if_pos e.symm] at k
   rw [e,gC_ (by simpa using hl) h k]
  ·rw [if_neg e] at h
   rw [if_neg (Ne.symm e)] at k
   have:=of_decide_eq_false h
   have:=of_decide_eq_false k
   omega
theorem fJ_ {xs ys:List Int} (h:xs.length=ys.length):ltI xs ys=g8_ false xs ys:=by
 unfold ltI
 rw [decide_eq_false (by omega)]
def mR_ (xss:List (List Int)) (i:Nat):List Int:=xss.getD i (xss.headD [])
def mb_ (xss:List (List Int)) (i j:Nat):Bool:=ltI (mR_ xss i) (mR_ xss j)
theorem jZ_ {xss:List (List Int)}{i:Nat} (h:i<xss.length):mR_ xss i=xss.getD i []:=by
 unfold mR_
 rw [List.getD_eq_getElem?_getD,List.getD_eq_getElem?_getD,List.getElem?_eq_getElem h]
 rfl
theorem ft_ {xss:List (List Int)}{i j:Nat} (hi:i<xss.length) (hj:j<xss.length):mb_ xss i j=ltI (xss.getD i []) (xss.getD j []):=by
 unfold mb_
 rw [jZ_ hi,jZ_ hj]
theorem k8_ {xss:List (List Int)}{m:Nat} (h0:0<xss.length) (h:∀xs∈xss,xs.length=m) (i:Nat):(mR_ xss i).length=m:=by
 unfold mR_
 rw [List.getD_eq_getElem?_getD]
 cases e:xss[i]? with
 |some x=>exact h x (List.mem_of_getElem? e)
 |none=>
  cases xss with
  |nil=>cases h0
  |cons x xs=>exact h x (by simp)
theorem jA_ {xss:List (List Int)}{m:Nat} (h0:0<xss.length) (h:∀xs∈xss,xs.length=m):Ordr (mb_ xss):=by
 have k:=k8_ h0 h
 refine⟨fun a b e=> ?_,fun a b d e1 e2=> ?_⟩
 ·unfold mb_ at e⊢
  rw [fJ_ (by rw [k,k])] at e⊢
  exact gB_ (by rw [k,k]) e
 ·unfold mb_ at e1 e2⊢
  rw [fJ_ (by rw [k,k])] at e1 e2⊢
  exact jU_ (by rw [k,k]) (by rw [k,k]) e1 e2
def nk_:List V→Hp→VK→Prop:=fun vs H Q=>∃(v:V) (xss:List (List Int)) (m:Nat),vs=[v]∧Is H (.l (xss.map tI)) v∧0<m∧(∀xs∈xss,xs.length=m)∧xss.length<64∧
 ∀(yss:List (List Int)) (q:Addr) (H':Hp),yss.Perm xss→(∀i j,i<j→j<yss.length→ltI (yss.getD j []) (yss.getD i [])=false)→H q=none→al_ H H'→Is H' (.l (yss.map tI)) (.ref q)→Q (.ref q) H'
section
variable {prog:Program}{w:World}{A:Around}{E:Value→Shared→Prop}{s:Shared}
theorem gd_ {c:Nat→Nat→Bool}{kd:SortKind}{a:Addr}{vs:List Value}{n:Nat}{P:PySem.Fin→Shared→Prop} (ho:s.heap.get? a=some (seqObj "list" vs.toArray n)) (h2:2≤vs.length) (h64:vs.length<64)
  (hkd:∀(R:SortKind→Shared→Prop),R kd {s with heap:=aL_ s.heap a vs}→wpAny (model prog w) A (keyKind' vs.toArray) R E {s with heap:=aL_ s.heap a vs})
  (hc:∀i j,i<vs.length→j<vs.length→∀C:Bool→Shared→Prop,C (c i j) {s with heap:=aL_ s.heap a vs}→wpAny (model prog w) A (keyLt' kd (vs.getD i .none) (vs.getD j .none)) C (fun _ _=>False) {s with heap:=aL_ s.heap a vs})
  (h:∀p,Ord vs.length p→p=cq_ c (kas_sort vs.length)→P (.done (.ret .none)) {s with heap:=sortedHeap s.heap a vs (p.map fun i=>vs.getD i .none)}):wpAny (model prog w) A (Builtin.«list.sort» ⟨[.ref a],[]⟩) P E s:=by
 rw [list_sort_plain]
 have ha:a<s.heap.objs.size:=Heap.lt_size ho
 refine wpAny_bind (listItems_at ho rfl ?_)
 refine wpAny_bind (listUpdate_at ho rfl ?_ (by rw [List.size_toArray,sizeLine_eq];omega) (Nat.zero_le _))
 obtain⟨e1,ho1⟩:∃e1,(s.heap.update a (Obj.mapSeq fun _=>(#[]:Array Value))).get? a=some (seqObj "list" #[] e1):=⟨_,get?_update_seq ho (fun _=> #[])⟩
 refine wpAny_bind (seqEpoch_at ho1 rfl ?_)
 refine wpAny_bind (wpAny_newTuple ?_ (by show vs.length≤_;rw [sizeLine_eq];omega))
 refine wpAny_bind (wpAny_newList ?_ (Nat.zero_le _))
 refine wpAny_holding ?_
 have ho6:(aL_ s.heap a vs).get? a=some (seqObj "list" #[] e1):=by
  rw [Heap.get?_push_ne _ _ _ (by rw [size_push',Heap.size_update];exact Nat.ne_of_lt (Nat.lt_succ_of_lt ha)),Heap.get?_push_ne _ _ _ (by rw [Heap.size_update];exact Nat.ne_of_lt ha)]
  exact ho1
 show wpAny (model prog w) A _ P E {s with heap:=aL_ s.heap a vs}
 dsimp only
 have hn2:¬vs.toArray.size<2:=by rw [List.size_toArray];omega
 rw [if_neg hn2,if_neg hn2]
 refine wpAny_bind (hkd _ ?_)
 have est:kas_st kd (pairsOf vs) (List.toArray (List.range vs.length))=SortSt.mk' kd (vs.toArray.zip vs.toArray) #[] 7 none:=by
  have e:=kas_range (pairsOf vs)
  rw [pairsOf_size] at e
  show SortSt.mk' kd ((List.toArray (List.range vs.length)).map (kas_item (pairsOf vs))) #[] 7 none=SortSt.mk' kd (pairsOf vs) #[] 7 none
  rw [e]
 have ask:(kas_sort vs.length).kasWp (kas_cmp prog w A kd (pairsOf vs)) (fun p s'=>s'={s with heap:=aL_ s.heap a vs}∧Ord vs.length p∧p=cq_ c (kas_sort vs.length)) {s with heap:=aL_ s.heap a vs}:=by
  refine aV_.wpc (c:=c) (fun i j hi hj C hC=> ?_) (fun hp=>⟨rfl,hp,rfl⟩) (jJ_ (by omega))
  rw [←kas_ask_eq]
  exact hc i j hi hj C hC
 have run:=kas_runs (E:=E) (Q:=fun _ st' s'=>∃p,s'={s with heap:=aL_ s.heap a vs}∧(Ord vs.length p∧p=cq_ c (kas_sort vs.length))∧arrOf st'=p.map (kas_item (pairsOf vs))∧failedOf st'=none) h2 h64 (fun p' st' s' _ a2 a3 a4=>⟨p',a4.1,a4.2,a2,a3⟩) ask
 rw [est] at run
 refine wpAny_bind (wpAny_mono run ?_ fun _ _ e=>e)
 rintro⟨⟨⟩,st'⟩ s' ⟨p,rfl,⟨hp,hpc⟩,har,hf⟩
 dsimp only at har hf⊢
 have eo:(arrOf st').map (·.2)=p.map fun i=>vs.getD i .none:=by
  rw [har,Array.map_map]
  refine Array.map_congr_left fun i _=> ?_
  show(kas_item (pairsOf vs) i).2=_
  rw [kas_item_eq]
 rw [eo]
 refine wpAny_bind (seqEpoch_at ho6 rfl ?_)
 refine wpAny_bind (listUpdate_at ho6 rfl ?_ (Nat.zero_le _) (by rw [Array.size_map,sizeLine_eq,hp.size];omega))
 rw [hf]
 simp only [bne_self_eq_false,Bool.false_eq_true,if_false]
 exact wpAny_pure (h p hp hpc)
theorem hd_ {c:Nat→Nat→Bool}{kd:SortKind}{l:Addr}{vs:List Value}{Q:Value→Shared→Prop} (hl:s.heap.IsList l vs.toArray) (h2:2≤vs.length) (h64:vs.length<64)
  (hkd:∀(R:SortKind→Shared→Prop) (E:Value→Shared→Prop),R kd {s with heap:=bg_ s.heap vs}→wpAny (model prog w) A.in1.in1 (keyKind' vs.toArray) R E {s with heap:=bg_ s.heap vs})
  (hc:∀i j,i<vs.length→j<vs.length→∀C:Bool→Shared→Prop,C (c i j) {s with heap:=bg_ s.heap vs}→wpAny (model prog w) A.in1.in1 (keyLt' kd (vs.getD i .none) (vs.getD j .none)) C (fun _ _=>False) {s with heap:=bg_ s.heap vs})
  (h:∀p,Ord vs.length p→p=cq_ c (kas_sort vs.length)→Q (.ref (s.heap.objs.size+1)) {s with heap:=sortedAll s.heap vs (p.map fun i=>vs.getD i .none)}):wpAny (model prog w) A (call (.builtin "sorted") [.ref l]) Q E s:=by
 refine Calls.call_function_entry kind_sorted plain_sorted entry_sorted (args_sorted1 _) ?_
 unfold Builtin.«sorted»
 refine wpAny_bind (m:=checkCount "sorted" 1 1 _) (wpAny_pure ?_)
 refine wpAny_bind (collect_list hl ?_ (by rw [sizeLine_eq];omega))
 refine wpAny_bind (wpAny_newList ?_ (by rw [sizeLine_eq];omega))
 have hsz:((s.heap.push (seqObj "list" #[] 0)).update s.heap.objs.size (Obj.mapSeq (· ++vs.toArray))).objs.size=s.heap.objs.size+1:=by
  rw [Heap.size_update,size_push']
 have hoL:(((s.heap.push (seqObj "list" #[] 0)).update s.heap.objs.size (Obj.mapSeq (· ++vs.toArray))).push (seqObj "list" vs.toArray 0)).get? (s.heap.objs.size+1)=some (seqObj "list" vs.toArray 0):=by
  rw [←hsz];exact Heap.get?_push_size _ rfl
 show wpAny _ _ _ _ _ {s with heap:=((s.heap.push (seqObj "list" #[] 0)).update s.heap.objs.size (Obj.mapSeq (· ++vs.toArray))).push (seqObj "list" vs.toArray 0)}
 rw [hsz]
 refine wpAny_bind (wpAny_holding (wpAny_call_entry slot_list_sort ⟨_,hoL,rfl⟩ entry_list_sort (gd_ (c:=c) (s:={s with heap:=((s.heap.push (seqObj "list" #[] 0)).update s.heap.objs.size (Obj.mapSeq (· ++vs.toArray))).push (seqObj "list" vs.toArray 0)}) hoL h2 h64 (fun R=>hkd R _) hc fun p hp hpc=>⟨_,rfl, ?_⟩) (args_list_sort _)))
 exact wpAny_pure ⟨_,rfl,h p hp hpc⟩
end
section
variable {X:Cx}{pins:List (Addr×Obj)}{σ:St}{H:Hp}{s:Shared}
theorem cT_:b7_ X (.builtin "sorted") nk_:=by
 intro pins s σ H xs us Q I r h
 obtain⟨v,xss,m,rfl,hv,hm,hne',hlen,q⟩:=h
 have hne:∀xs∈xss,xs≠[]:=fun xs hx z=>by have:=hne' xs hx;rw [z] at this;exact absurd this (by show¬0=m;omega)
 obtain⟨l,rs,rfl,hl,hi⟩:=bm_ hv
 have hrs:rs.length=xss.length:=by rw [hi.length,List.length_map]
 obtain⟨u,rfl,rx⟩:=di_ r
 cases rx
 obtain⟨its,r',pl,hz⟩:=I.list (SqL.of (K:=X.K) hl)
 have ln:=r'.length
 by_cases h2:rs.length<2
 ·refine eY_ (vs:=its) pl.isList (by omega) ?_
  obtain⟨e,he⟩:=sortedAll_at s.heap its its.toArray
  have fr:=I.hok.fresh (a:=s.heap.objs.size+1) (Nat.le_succ _)
  exact⟨.ref (s.heap.objs.size+1),_,I.laid (t':=s.toks) (fun _ _=>sortedAll_old) (Nat.le_succ _) (show ba_ X.prog X.w _ _ _ (.lst rs) from⟨hz,its,e,r',he⟩),rfl,q xss _ _ (List.Perm.refl _) (fun i j a b=>absurd b (by omega)) fr (al_.new fr) (bJ_ ae_ (hi.mono (al_.new fr)))⟩
 ·have I2:Inv X pins σ H {s with heap:=bg_ s.heap its}:=I.kept (t':=s.toks) fun b o e=>dP_ e
  have lns:its.length=xss.length:=by omega
  refine hd_ (c:=mb_ xss) (kd:=tuples' true) (vs:=its) pl.isList (by omega) (by omega) (fun R E hR=> ?_) (fun i j hi' hj' C hC=> ?_) fun p ho hpc=> ?_
  ·obtain⟨fs,k1,k2,k3⟩:=fT_ I2 hi r' hne
   exact kat_kind (T:= .type "int") k1 (by omega) (fun f hf=>by obtain⟨z,t,rfl⟩:=k3 f hf;exact .now) rfl hR
  ·have g:∀i,i<xss.length→∃a,its.getD i .none= .ref a∧SqT X.K H a ((xss.getD i []).map V.int):=fun i h=>by
    have hr:i<rs.length:=by omega
    obtain⟨d,hd,h1⟩:=hi.of_get (List.getElem?_eq_getElem hr)
    rw [List.getElem?_map,List.getElem?_eq_getElem h] at hd
    cases hd
    obtain⟨a,ea,ha⟩:=hv_ h1
    obtain⟨u,hu1,ru⟩:=r'.get (List.getElem?_eq_getElem hr)
    rw [ea] at ru
    obtain rfl:u=Value.ref a:=ru
    refine⟨a, ?_, ?_⟩
    ·rw [List.getD_eq_getElem?_getD,hu1];rfl
    ·rw [List.getD_eq_getElem?_getD,List.getElem?_eq_getElem h]
     exact SqT.of ha
   obtain⟨a1,e1,s1⟩:=g i (by omega)
   obtain⟨a2,e2,s2⟩:=g j (by omega)
   rw [e1,e2]
   rw [ft_ (by omega) (by omega)] at hC
   exact im_ I2 s1 s2 hC
  ·rw [lns] at ho hpc
   have hpl:∀i∈p.toList,i<xss.length:=fun i hi=>ho.lt hi
   obtain⟨e,he⟩:=sortedAll_at s.heap its (p.map fun i=>its.getD i .none)
   have en:(p.map fun i=>its.getD i .none)=List.toArray (p.toList.map fun i=>its.getD i .none):=by
    apply Array.toList_inj.mp
    simp
   rw [en] at he⊢
   have fr:=I.hok.fresh (a:=s.heap.objs.size+1) (Nat.le_succ _)
   refine⟨.ref (s.heap.objs.size+1),_,I.laid (t':=s.toks) (fun _ _=>sortedAll_old) (Nat.le_succ _) (show ba_ X.prog X.w _ _ _ (.lst (p.toList.map fun i=>rs.getD i .non)) from⟨?_,_,e,dh_ r' p.toList (fun i hi=>by rw [hrs];exact hpl i hi),he⟩),rfl,q (p.toList.map fun i=>xss.getD i []) _ _ ?_ ?_ fr (al_.new fr) (bJ_ ae_ ((fV_ hi p.toList hpl).mono (al_.new fr)))⟩
   ·rw [List.length_map,Array.length_toList,sizeLine_eq,ho.size]
    omega
   ·have pp:=(Array.perm_iff_toList_perm.mp ho).map fun i=>xss.getD i []
    rw [show(List.range xss.length).toArray.toList=List.range xss.length from rfl,if_] at pp
    exact pp
   ·intro i j hij hj
    rw [List.length_map,Array.length_toList,ho.size] at hj
    have up:=gF_ (jA_ (xss:=xss) (m:=m) (by omega) hne') (n:=xss.length) (by omega) i j hij hj
    rw [←hpc] at up
    have g:∀i,i<xss.length→(p.toList.map fun i=>xss.getD i []).getD i []=xss.getD (at0 p i) []∧at0 p i<xss.length:=fun i h=>by
     have hs:i<p.size:=by rw [ho.size];exact h
     have e:at0 p i=p[i]:=by simp [at0,Array.getD,hs]
     rw [e]
     refine⟨?_,ho.lt (by simp)⟩
     rw [List.getD_eq_getElem?_getD,List.getElem?_map]
     simp [hs]
    obtain⟨g1,g2⟩:=g i (by omega)
    obtain⟨g3,g4⟩:=g j hj
    rw [g1,g3]
    rw [ft_ g4 g2] at up
    exact up
end
end L2
namespace L2
open PySem PySem.Spec PyProof.Rows
section
variable {X:Cx}{K:PySem.W.Frag}
theorem mc_ {k:Nat} (h:X.K=K) (hr:Room k X.A):OpR X (compareOp .NotEq) (oS_ K true):=h▸gn_ hr
theorem jn_ {a b c d:Expr}{ta tb tc td:TE}{pos:Pos}{op op' op'':CmpOp}{r r' r'':R2} (ho:OpR X (compareOp op) r) (ho':OpR X (compareOp op') r') (ho'':OpR X (compareOp op'') r'') (ha:PE X a ta) (hb:PE X b tb) (hc:PE X c tc) (hd:PE X d td)
  (hm:lastMarks [op,op',op''] [b,c,d]=false:=by with_unfolding_all rfl):PT X (.Compare a [op,op',op''] [b,c,d] pos) (lM_ (i9_ r r' r'' ta tb tc td)):=by
 intro pins s σ H Q I h
 refine isTrue_chain (thn (ha pins s σ H _ I h) fun v s1 ⟨x,H1,I1,r1,q1⟩=>test_link (thn (hb pins s1 σ H1 _ I1 q1) fun u s2 ⟨y,H2,I2,r2,q2⟩=>
  thn (ho pins s2 σ H2 x y v u _ I2 r1 r2 q2) fun d s3 ⟨z,H3,I3,r3,k,e,q3⟩=> ?_)) hm
 subst e
 cases r3
 refine wpAny_truthy_bool ?_
 cases k with
 |false=>
  obtain⟨k',e',q'⟩:=q3
  cases e'
  exact ite_ff ⟨H3,I3,q'⟩
 |true=>
  refine ite_tt (test_link (thn (hc pins s3 σ H3 _ I3 q3) fun w' s4 ⟨z',H4,I4,r4,q4⟩=>thn (ho' pins s4 σ H4 y z' u w' _ I4 r2 r4 q4) fun d' s5 ⟨z2,H5,I5,r5,k2,e2,q5⟩=> ?_))
  subst e2
  cases r5
  refine wpAny_truthy_bool ?_
  cases k2 with
  |false=>
   obtain⟨k',e',q'⟩:=q5
   cases e'
   exact ite_ff ⟨H5,I5,q'⟩
  |true=>
   refine ite_tt (test_last (thn (hd pins s5 σ H5 _ I5 q5) fun w2 s6 ⟨z3,H6,I6,r6,q6⟩=>thn (ho'' pins s6 σ H6 z' z3 w' w2 _ I6 r4 r6 q6) fun d2 s7 ⟨z4,H7,I7,r7,k3,e3,q7⟩=> ?_))
   subst e3
   cases r7
   exact wpAny_truthy_bool ⟨H7,I7,q7⟩
end
end L2
namespace HT
open PySem PySem.Spec PyProof.Rows
section
variable {prog:Program}{w:World}{A:Around}{E:Value→Shared→Prop}{s:Shared}
end
end HT
namespace L2
open PySem PySem.Spec PyProof.Rows
section
variable {X:Cx}
end
end L2
namespace L2
open PySem PySem.Spec PyProof.Rows PySem.W
section
variable {c:Nat→Nat→Bool}
end
section
variable {X:Cx}{pins:List (Addr×Obj)}{σ:St}{H:Hp}{s:Shared}
def bvs (bs:List Bool):Array Value:=(bs.map Value.bool).toArray
end
end L2
namespace L2
open PySem PySem.SetTable
def bN_ (m:Nat) (p:Probe):Probe:=advance {mask:=m,place:= #[],dummies:= #[],finger:=0,led:=true,moves:=0,plain:=true} p
def pAt (m:Nat) (h:Int):Nat→Probe
 |0=>probeStart {mask:=m,place:= #[],dummies:= #[],finger:=0,led:=true,moves:=0,plain:=true} h
 |n+1=>bN_ m (pAt m h n)
def sl (m:Nat) (h:Int) (n:Nat):Nat:=(pAt m h n).j
theorem nZ_ (t:SetTable) (p:Probe):advance t p=bN_ t.mask p:=rfl
theorem er_ {m:Nat}{p:Probe} (h:p.dummy=none):(bN_ m p).dummy=none:=by
 unfold bN_ advance
 split<;>exact h
theorem es_ (m:Nat) (h:Int):∀n,(pAt m h n).dummy=none
 |0=>rfl
 |n+1=>er_ (es_ m h n)
def Ris (xs:Array Nat):Prop:=∀i j,i<j→j<xs.size→xs.getD i 0<xs.getD j 0
theorem iy_ {xs:Array Nat}{i:Nat} (h:i<xs.size) (a b:Nat):xs.getD i a=xs.getD i b:=by simp [Array.getD,h]
theorem f8_ {xs:Array Nat}{j:Nat} (r:Ris xs):∀(f lo hi:Nat),hi-lo≤f→lo≤hi→hi≤xs.size→(∀i,i<lo→xs.getD i 0<j)→(∀i,hi≤i→i<xs.size→j≤xs.getD i 0)→
  lo≤below.go xs j f lo hi∧below.go xs j f lo hi≤hi∧(∀i,i<below.go xs j f lo hi→xs.getD i 0<j)∧(∀i,below.go xs j f lo hi≤i→i<xs.size→j≤xs.getD i 0)
 |0,lo,hi,hf,hl,hh,h1,h2=>by
  unfold below.go
  have:lo=hi:=by omega
  subst this
  exact⟨Nat.le_refl _,Nat.le_refl _,h1,h2⟩
 |f+1,lo,hi,hf,hl,hh,h1,h2=>by
  unfold below.go
  by_cases c:lo<hi
  ·rw [if_pos c]
   dsimp only
   have hm:(lo+hi)/2<xs.size:=by omega
   by_cases c2:xs.getD ((lo+hi)/2) j<j
   ·rw [if_pos c2]
    rw [iy_ hm j 0] at c2
    obtain⟨a,b,c,d⟩:=f8_ r f ((lo+hi)/2+1) hi (by omega) (by omega) hh (fun i hi'=>by
     by_cases e:i=(lo+hi)/2
     ·rw [e];exact c2
     ·exact Nat.lt_trans (r i _ (by omega) hm) c2) h2
    exact⟨by omega,b,c,d⟩
   ·rw [if_neg c2]
    rw [iy_ hm j 0] at c2
    obtain⟨a,b,c,d⟩:=f8_ r f lo ((lo+hi)/2) (by omega) (by omega) (by omega) h1 (fun i h3 h4=>by
     by_cases e:i=(lo+hi)/2
     ·rw [e];omega
     ·have:=r ((lo+hi)/2) i (by omega) h4
      omega)
    exact⟨a,by omega,c,d⟩
  ·rw [if_neg c]
   have:lo=hi:=by omega
   subst this
   exact⟨Nat.le_refl _,Nat.le_refl _,h1,h2⟩
theorem dx_ {xs:Array Nat} (r:Ris xs) (j:Nat):below xs j≤xs.size∧(∀i,i<below xs j→xs.getD i 0<j)∧(∀i,below xs j≤i→i<xs.size→j≤xs.getD i 0):=by
 obtain⟨_,b,c,d⟩:=f8_ (j:=j) r xs.size 0 xs.size (by omega) (Nat.zero_le _) (Nat.le_refl _) (fun i h=>absurd h (by omega)) (fun i h1 h2=>by omega)
 exact⟨b,c,d⟩
def In (xs:Array Nat) (j:Nat):Prop:=∃i,i<xs.size∧xs.getD i 0=j
theorem iH_ {xs:Array Nat} (r:Ris xs) {i:Nat} (hi:i<xs.size):below xs (xs.getD i 0)=i:=by
 obtain⟨a,b,c⟩:=dx_ r (xs.getD i 0)
 by_cases h:below xs (xs.getD i 0)<i
 ·have:=c _ (Nat.le_refl _) (by omega)
  have:=r _ _ h hi
  omega
 ·by_cases h2:i<below xs (xs.getD i 0)
  ·have:=b i h2
   omega
  ·omega
theorem ge_ {t:SetTable} (r:Ris t.place) {i:Nat} (hi:i<t.place.size):t.slot (t.place.getD i 0)= .live i:=by
 unfold slot
 dsimp only
 rw [iH_ r hi,if_pos]
 simp [Array.getD,hi]
theorem ka_ (j:Nat):has #[] j=false:=by unfold has;simp
theorem iN_ {t:SetTable} (r:Ris t.place) (hd:t.dummies= #[]) {j:Nat} (h:¬In t.place j):t.slot j= .empty:=by
 unfold slot
 dsimp only
 have e:(t.place[below t.place j]? ==some j)=false:=by
  cases q:t.place[below t.place j]? with
  |none=>rfl
  |some x=>
   obtain⟨hl,e⟩:=Array.getElem?_eq_some_iff.mp q
   have:x≠j:=fun z=>h ⟨_,hl,by simp [Array.getD,hl,e,z]⟩
   simpa using this
 rw [e,hd,ka_]
 rfl
theorem lx_ (xs:Array Nat) (j:Nat):In xs j∨¬In xs j:=Classical.em _
theorem probe_go {t : SetTable} (r : Ris t.place) (hd : t.dummies = #[]) (hashAt : Nat → Int) (h : Int) : ∀ (f n0 : Nat), (∃ n1, n0 ≤ n1 ∧ n1 < n0 + f ∧ ¬ In t.place (sl t.mask h n1)) →
    ∃ n, n0 ≤ n ∧ (∀ k, n0 ≤ k → k < n → ∃ i, i < t.place.size ∧ t.place.getD i 0 = sl t.mask h k ∧ (hashAt i == h) = false) ∧
      ((¬ In t.place (sl t.mask h n) ∧ probe.go t hashAt h f (pAt t.mask h n0) = some (.empty (sl t.mask h n) none)) ∨
       ∃ i, i < t.place.size ∧ t.place.getD i 0 = sl t.mask h n ∧ (hashAt i == h) = true ∧ probe.go t hashAt h f (pAt t.mask h n0) = some (.candidate (sl t.mask h n) i (pAt t.mask h (n + 1))))
  | 0, n0, ⟨n1, h1, h2, _⟩ => absurd h2 (by omega)
  | f + 1, n0, ⟨n1, h1, h2, h3⟩ => by
    unfold probe.go
    rcases lx_ t.place (sl t.mask h n0) with c | c
    · obtain ⟨i, hi, e⟩ := c
      have sl' : t.slot (pAt t.mask h n0).j = .live i := by
        show t.slot (sl t.mask h n0) = _
        rw [← e]; exact ge_ r hi
      rw [sl']
      dsimp only
      cases q : (hashAt i == h) with
      | true =>
        refine ⟨n0, Nat.le_refl _, fun k h1 h2 => absurd h2 (by omega), .inr ⟨i, hi, e, q, ?_⟩⟩
        rw [if_pos rfl]
        rfl
      | false =>
        have ne : n0 ≠ n1 := by rintro rfl; exact h3 ⟨i, hi, e⟩
        obtain ⟨n, a, b, c⟩ := probe_go r hd hashAt h f (n0 + 1) ⟨n1, by omega, by omega, h3⟩
        refine ⟨n, by omega, fun k k1 k2 => ?_, ?_⟩
        · by_cases ek : k = n0
          · subst ek; exact ⟨i, hi, e, q⟩
          · exact b k (by omega) k2
        · rw [if_neg (by simp), nZ_]
          exact c
    · have sl' : t.slot (pAt t.mask h n0).j = .empty := iN_ r hd c
      rw [sl']
      refine ⟨n0, Nat.le_refl _, fun k h1 h2 => absurd h2 (by omega), .inl ⟨c, ?_⟩⟩
      dsimp only
      rw [es_]
      rfl
def lv_ (m:Nat) (q:Nat×Nat):Nat×Nat:=leap m q.1 q.2
def eQ_ (m:Nat) (q:Nat×Nat):Probe:={j:=q.1,more:=runEnd m q.1-q.1,i:=q.1,perturb:=q.2,dummy:=none}
def bp_ (m:Nat) (q:Nat×Nat):Nat→Nat×Nat
 |0=>q
 |n+1=>lv_ m (bp_ m q n)
theorem jj_ (m i:Nat):runEnd m i-i≤9:=by unfold runEnd;split<;>omega
def dd_ (m:Nat) (p:Probe):Nat→Probe
 |0=>p
 |n+1=>bN_ m (dd_ m p n)
theorem ev_ (m:Nat) (p:Probe) (a:Nat):∀b,dd_ m p (a+b)=dd_ m (dd_ m p a) b
 |0=>rfl
 |b+1=>by show bN_ m (dd_ m p (a+b))=_;rw [ev_ m p a b];rfl
theorem do_ (m:Nat) (h:Int) (a:Nat):∀b,pAt m h (a+b)=dd_ m (pAt m h a) b
 |0=>rfl
 |b+1=>by show bN_ m (pAt m h (a+b))=_;rw [do_ m h a b];rfl
theorem fo_ (m:Nat):∀(k:Nat) (p:Probe),p.more=k→p.dummy=none→dd_ m p (k+1)=eQ_ m (lv_ m (p.i,p.perturb))
 |0,p,hm,hd=>by
  show bN_ m p=_
  unfold bN_ advance
  rw [if_neg (by omega)]
  obtain⟨j,mo,i,pe,du⟩:=p
  dsimp only at hm hd
  subst hm hd
  rfl
 |k+1,p,hm,hd=>by
  have e:dd_ m p (k+1+1)=dd_ m (bN_ m p) (k+1):=by rw [show k+1+1=1+(k+1) by omega,ev_];rfl
  have en:bN_ m p={p with j:=p.j+1,more:=p.more-1}:=by
   unfold bN_ advance
   rw [if_pos (by omega)]
  rw [e,fo_ m k (bN_ m p) (by rw [en];show p.more-1=k;omega) (er_ hd),en]
theorem far (m:Nat):∀(L:Nat) (p:Probe),p.more≤9→p.dummy=none→∃n,n≤10*(L+1)∧dd_ m p n=eQ_ m (bp_ m (p.i,p.perturb) (L+1))
 |0,p,h9,hd=>⟨p.more+1,by omega,fo_ m p.more p rfl hd⟩
 |L+1,p,h9,hd=>by
  obtain⟨n,hn,e⟩:=far m L p h9 hd
  have:=jj_ m (bp_ m (p.i,p.perturb) (L+1)).1
  refine⟨n+(runEnd m (bp_ m (p.i,p.perturb) (L+1)).1-(bp_ m (p.i,p.perturb) (L+1)).1+1),by omega, ?_⟩
  rw [ev_,e]
  exact fo_ m _ (eQ_ m (bp_ m (p.i,p.perturb) (L+1))) rfl rfl
def Tm (m i:Nat):Nat:=(i*5+1)%(m+1)
def Tn (m i:Nat):Nat→Nat
 |0=>i
 |n+1=>Tm m (Tn m i n)
theorem g3_ (m i a:Nat):∀b,Tn m i (a+b)=Tn m (Tn m i a) b
 |0=>rfl
 |b+1=>by show Tm m (Tn m i (a+b))=_;rw [g3_ m i a b];rfl
theorem du_ (m:Nat) (q:Nat×Nat) (a:Nat):∀b,bp_ m q (a+b)=bp_ m (bp_ m q a) b
 |0=>rfl
 |b+1=>by show lv_ m (bp_ m q (a+b))=_;rw [du_ m q a b];rfl
theorem dJ_ (m:Nat) (q:Nat×Nat):∀n,(bp_ m q n).2=q.2/32^n
 |0=>by simp [bp_]
 |n+1=>by
  show(bp_ m q n).2/32=_
  rw [dJ_ m q n,Nat.div_div_eq_div_mul,Nat.pow_succ]
theorem dI_ (m:Nat) (i:Nat):∀n,bp_ m (i,0) n=(Tn m i n,0)
 |0=>rfl
 |n+1=>by
  show lv_ m (bp_ m (i,0) n)=_
  rw [dI_ m i n]
  unfold lv_ leap
  simp [Tn,Tm]
def Msk (m:Nat):Prop:=m=7∨m=31∨m=127
def orb (m:Nat):Nat→Nat→List Nat
 |0,_=>[]
 |n+1,i=>i::orb m n (Tm m i)
theorem lo_ (m:Nat):∀(n i e:Nat),e∈orb m n i→∃k,k<n∧Tn m i k=e
 |0,_,_,h=>by simp [orb] at h
 |n+1,i,e,h=>by
  rcases List.mem_cons.mp h with h|h
  ·exact⟨0,by omega,h.symm⟩
  ·obtain⟨k,hk,e⟩:=lo_ m n (Tm m i) e h
   exact⟨k+1,by omega,by rw [show k+1=1+k by omega,g3_];exact e⟩
theorem pC_:(List.range 8).all (fun e=>(orb 7 8 0).contains e)=true:=by decide+kernel
theorem oY_:(List.range 32).all (fun e=>(orb 31 32 0).contains e)=true:=by decide+kernel
theorem nr_:(List.range 128).all (fun e=>(orb 127 128 0).contains e)=true:=by decide+kernel
theorem pB_:Tn 7 0 8=0:=by decide+kernel
theorem oU_:Tn 31 0 32=0:=by decide+kernel
theorem nm_:Tn 127 0 128=0:=by decide+kernel
theorem oX_ {m:Nat} (hm:Msk m):(∀e,e≤m→∃k,k≤m∧Tn m 0 k=e)∧Tn m 0 (m+1)=0:=by
 have go:∀n,(List.range (n+1)).all (fun e=>(orb n (n+1) 0).contains e)=true→∀e,e≤n→∃k,k≤n∧Tn n 0 k=e:=fun n h e he=>by
  have:=List.all_eq_true.mp h e (by simp;omega)
  obtain⟨k,hk,e⟩:=lo_ n (n+1) 0 e (by simpa using this)
  exact⟨k,by omega,e⟩
 rcases hm with rfl|rfl|rfl
 ·exact⟨go 7 pC_,pB_⟩
 ·exact⟨go 31 oY_,oU_⟩
 ·exact⟨go 127 nr_,nm_⟩
theorem lB_ {m:Nat} (hm:Msk m) {i e:Nat} (hi:i≤m) (he:e≤m):∃k,k≤m∧Tn m i k=e:=by
 obtain⟨o,p⟩:=oX_ hm
 obtain⟨a,ha,rfl⟩:=o i hi
 obtain⟨b,hb,rfl⟩:=o e he
 by_cases c:a≤b
 ·exact⟨b-a,by omega,by rw [←g3_];congr 1;omega⟩
 ·refine⟨m+1-a+b,by omega, ?_⟩
  rw [←g3_,show a+(m+1-a+b)=m+1+b by omega,g3_,p]
theorem kq_ (h:Int):bits h<2^64:=by unfold bits;omega
theorem oZ_ {m:Nat} (hm:Msk m) {p:Probe} (h9:p.more≤9) (hd:p.dummy=none) (hp:p.perturb<2^64) {e:Nat} (he:e≤m):∃n,n<10*turns m∧(dd_ m p n).j=e:=by
 have z:∀L,13≤L→(bp_ m (p.i,p.perturb) L).2=0:=fun L hL=>by
  rw [dJ_]
  apply Nat.div_eq_of_lt
  have h1:(32:Nat)^13≤32^L:=Nat.pow_le_pow_right (by decide) hL
  have h2:(2:Nat)^64<32^13:=by decide
  show p.perturb<_
  omega
 have j13:(bp_ m (p.i,p.perturb) 13).1≤m:=by
  show(leap m _ _).1≤m
  unfold leap
  have:=Nat.mod_lt ((bp_ m (p.i,p.perturb) 12).1*5+1+(bp_ m (p.i,p.perturb) 12).2/32) (show 0<m+1 by omega)
  dsimp only
  omega
 obtain⟨k,hk,ek⟩:=lB_ hm j13 he
 obtain⟨n,hn,en⟩:=far m (12+k) p h9 hd
 refine⟨n,by unfold turns;omega, ?_⟩
 rw [en,show 12+k+1=13+k by omega,du_]
 have e13:bp_ m (p.i,p.perturb) 13=((bp_ m (p.i,p.perturb) 13).1,0):=Prod.ext rfl (z 13 (Nat.le_refl _))
 rw [e13,dI_]
 exact ek
theorem jx_ (m:Nat) (h:Int):∀n,(pAt m h n).more≤9∧(pAt m h n).perturb<2^64
 |0=>⟨jj_ m _,kq_ h⟩
 |n+1=>by
  obtain⟨a,b⟩:=jx_ m h n
  show(bN_ m (pAt m h n)).more≤9∧(bN_ m (pAt m h n)).perturb<2^64
  unfold bN_ advance
  split
  ·exact⟨by show(pAt m h n).more-1≤9;omega,b⟩
  ·unfold leap
   dsimp only
   exact⟨jj_ _ _,by omega⟩
theorem pf_ {m:Nat} (hm:Msk m) (h:Int) (n0:Nat) {e:Nat} (he:e≤m):∃n1,n0≤n1∧n1<n0+10*turns m∧sl m h n1=e:=by
 obtain⟨n,hn,e⟩:=oZ_ hm (jx_ m h n0).1 (es_ m h n0) (jx_ m h n0).2 he
 exact⟨n0+n,by omega,by omega,by unfold sl;rw [do_];exact e⟩
theorem e0_:∀(k N:Nat) (f:Nat→Nat),(∀j,j<N→∃i,i<k∧f i=j)→N≤k
 |0,N,f,h=>by
  rcases Nat.eq_zero_or_pos N with e|e
  ·omega
  ·obtain⟨i,hi,_⟩:=h 0 e
   omega
 |k+1,N,f,h=>by
  by_cases c:f k<N
  ·have:=e0_ k (N-1) (fun i=>if f k<f i then f i-1 else f i) fun j hj=>by
    by_cases e:j<f k
    ·obtain⟨i,hi,ei⟩:=h j (by omega)
     refine⟨i, ?_, ?_⟩
     ·by_cases z:i=k
      ·subst z;omega
      ·omega
     ·rw [if_neg (by omega)]
      exact ei
    ·obtain⟨i,hi,ei⟩:=h (j+1) (by omega)
     refine⟨i, ?_, ?_⟩
     ·by_cases z:i=k
      ·subst z;omega
      ·omega
     ·rw [if_pos (by omega)]
      omega
   omega
  ·have:=e0_ k N f fun j hj=>by
    obtain⟨i,hi,ei⟩:=h j hj
    refine⟨i, ?_,ei⟩
    by_cases z:i=k
    ·subst z;omega
    ·omega
   omega
def hAt (es:Array (Int×Value)) (i:Nat):Int:=(es[i]?.map (·.1)).getD 0
structure Tb (t:SetTable) (es:Array (Int×Value)):Prop where
 mask:Msk t.mask
 dum:t.dummies= #[]
 size:t.place.size=es.size
 ris:Ris t.place
 bnd:∀i,i<t.place.size→t.place.getD i 0≤t.mask
 reach:∀i,i<es.size→∃n,sl t.mask (hAt es i) n=t.place.getD i 0∧∀k,k<n→In t.place (sl t.mask (hAt es i) k)
theorem Tb.free {t:SetTable}{es:Array (Int×Value)} (b:Tb t es) (h:es.size≤t.mask):∃e,e≤t.mask∧¬In t.place e:=by
 refine Classical.byContradiction fun z=> ?_
 have:=e0_ t.place.size (t.mask+1) (fun i=>t.place.getD i 0) fun j hj=>by
  rcases lx_ t.place j with c|c
  ·exact c
  ·exact absurd ⟨j,by omega,c⟩ z
 have:=b.size
 omega
theorem Tb.probe {t : SetTable} {es : Array (Int × Value)} (b : Tb t es) (hs : es.size ≤ t.mask) (hashAt : Nat → Int) (h : Int) (n0 : Nat) :
    ∃ n, n0 ≤ n ∧ (∀ k, n0 ≤ k → k < n → ∃ i, i < t.place.size ∧ t.place.getD i 0 = sl t.mask h k ∧ (hashAt i == h) = false) ∧
      ((¬ In t.place (sl t.mask h n) ∧ t.probe hashAt h (pAt t.mask h n0) = some (.empty (sl t.mask h n) none)) ∨
       ∃ i, i < t.place.size ∧ t.place.getD i 0 = sl t.mask h n ∧ (hashAt i == h) = true ∧ t.probe hashAt h (pAt t.mask h n0) = some (.candidate (sl t.mask h n) i (pAt t.mask h (n + 1)))) := by
  obtain ⟨e, he, hn⟩ := b.free hs
  obtain ⟨n1, h1, h2, h3⟩ := pf_ b.mask h n0 he
  exact probe_go b.ris b.dum hashAt h _ n0 ⟨n1, h1, h2, by rw [h3]; exact hn⟩
theorem dX_ {α:Type}{xs:Array α}{p:Nat} (hp:p≤xs.size) (x:α) (i:Nat):(insertAt xs p x)[i]? =if i<p then xs[i]? else if i=p then some x else xs[i-1]? :=by
 unfold insertAt
 have s1:(xs.extract 0 p).size=p:=by simp;omega
 have s2:((xs.extract 0 p).push x).size=p+1:=by simp;omega
 by_cases h1:i<p
 ·rw [if_pos h1,Array.getElem?_append_left (by rw [s2];omega),Array.getElem?_push,if_neg (by rw [s1];omega)]
  simp [Array.getElem?_extract]
  omega
 ·rw [if_neg h1]
  by_cases h2:i=p
  ·rw [if_pos h2,Array.getElem?_append_left (by rw [s2];omega),Array.getElem?_push,if_pos (by rw [s1];exact h2)]
  ·rw [if_neg h2,Array.getElem?_append_right (by rw [s2];omega),s2]
   simp only [Array.getElem?_extract]
   by_cases h3:i-(p+1)<xs.size-p
   ·rw [if_pos (by omega)]
    congr 1
    omega
   ·rw [if_neg (by omega)]
    symm
    rw [Array.getElem?_eq_none_iff]
    omega
theorem bq_ {α:Type}{xs:Array α}{p:Nat} (hp:p≤xs.size) (x:α):(insertAt xs p x).size=xs.size+1:=by
 unfold insertAt
 simp
 omega
theorem fZ_ (xs:Array Nat) (i:Nat):xs.getD i 0=(xs[i]?).getD 0:=by
 by_cases h:i<xs.size<;>simp [Array.getD,h]
theorem bT_ {xs:Array Nat}{p:Nat} (hp:p≤xs.size) (x i:Nat):(insertAt xs p x).getD i 0=if i<p then xs.getD i 0 else if i=p then x else xs.getD (i-1) 0:=by
 rw [fZ_,dX_ hp,fZ_,fZ_]
 split
 ·rfl
 ·split<;>rfl
theorem nO_ {xs:Array Nat}{p:Nat} (hp:p≤xs.size) (x j:Nat):In (insertAt xs p x) j↔In xs j∨j=x:=by
 constructor
 ·rintro⟨i,hi,e⟩
  rw [bq_ hp] at hi
  rw [bT_ hp] at e
  by_cases h1:i<p
  ·rw [if_pos h1] at e
   exact .inl ⟨i,by omega,e⟩
  ·rw [if_neg h1] at e
   by_cases h2:i=p
   ·rw [if_pos h2] at e
    exact .inr e.symm
   ·rw [if_neg h2] at e
    exact .inl ⟨i-1,by omega,e⟩
 ·rintro(⟨i,hi,e⟩|rfl)
  ·by_cases h1:i<p
   ·exact⟨i,by rw [bq_ hp];omega,by rw [bT_ hp,if_pos h1];exact e⟩
   ·exact⟨i+1,by rw [bq_ hp];omega,by rw [bT_ hp,if_neg (by omega),if_neg (by omega)];exact e⟩
  ·exact⟨p,by rw [bq_ hp];omega,by rw [bT_ hp,if_neg (Nat.lt_irrefl _),if_pos rfl]⟩
theorem mx_ {xs:Array Nat} (r:Ris xs) {j:Nat} (h:¬In xs j):Ris (insertAt xs (below xs j) j):=by
 obtain⟨a,b,c⟩:=dx_ r j
 have c':∀i,below xs j≤i→i<xs.size→j<xs.getD i 0:=fun i h1 h2=>by
  have:=c i h1 h2
  have:xs.getD i 0≠j:=fun z=>h ⟨i,h2,z⟩
  omega
 intro i k hik hk
 rw [bq_ a] at hk
 rw [bT_ a,bT_ a]
 by_cases h1:k<below xs j
 ·rw [if_pos h1,if_pos (by omega)]
  exact r i k hik (by omega)
 ·rw [if_neg h1]
  by_cases h2:k=below xs j
  ·rw [if_pos h2,if_pos (by omega)]
   exact b i (by omega)
  ·rw [if_neg h2]
   by_cases h3:i<below xs j
   ·rw [if_pos h3]
    exact Nat.lt_trans (b i h3) (c' (k-1) (by omega) (by omega))
   ·rw [if_neg h3]
    by_cases h4:i=below xs j
    ·rw [if_pos h4]
     exact c' (k-1) (by omega) (by omega)
    ·rw [if_neg h4]
     exact r (i-1) (k-1) (by omega) (by omega)
theorem lm_ (t:SetTable) (hd:t.dummies= #[]) (j:Nat):t.put j=({t with place:=insertAt t.place (below t.place j) j},below t.place j):=by
 unfold put
 dsimp only
 rw [hd,ka_]
 obtain⟨a,b,c,d,e,f,g⟩:=t
 dsimp only at hd
 subst hd
 rfl
theorem Tb.add {t:SetTable}{es:Array (Int×Value)} (b:Tb t es) (h:Int) (x:Value) (n:Nat) (hn:¬In t.place (sl t.mask h n)) (hm:sl t.mask h n≤t.mask) (hk:∀k,k<n→In t.place (sl t.mask h k)):
  Tb (t.put (sl t.mask h n)).1 (insertAt es (t.put (sl t.mask h n)).2 (h,x)):=by
 rw [lm_ t b.dum]
 obtain⟨a1,a2,a3⟩:=dx_ b.ris (sl t.mask h n)
 have a1':below t.place (sl t.mask h n)≤es.size:=by rw [←b.size];exact a1
 refine⟨b.mask,b.dum, ?_,mx_ b.ris hn, ?_, ?_⟩
 ·rw [bq_ a1,bq_ a1',b.size]
 ·intro i hi
  dsimp only at hi⊢
  rw [bq_ a1] at hi
  rw [bT_ a1]
  split
  ·exact b.bnd i (by omega)
  ·split
   ·exact hm
   ·exact b.bnd (i-1) (by omega)
 ·intro i hi
  dsimp only at hi⊢
  rw [bq_ a1'] at hi
  have sub:∀j,In t.place j→In (insertAt t.place (below t.place (sl t.mask h n)) (sl t.mask h n)) j:=fun j hj=>(nO_ a1 _ j).mpr (.inl hj)
  have eh:hAt (insertAt es (below t.place (sl t.mask h n)) (h,x)) i=if i<below t.place (sl t.mask h n) then hAt es i else if i=below t.place (sl t.mask h n) then h else hAt es (i-1):=by
   unfold hAt
   rw [dX_ a1']
   split
   ·rfl
   ·split<;>rfl
  rw [bT_ a1,eh]
  by_cases h1:i<below t.place (sl t.mask h n)
  ·rw [if_pos h1,if_pos h1]
   obtain⟨m,e,q⟩:=b.reach i (by omega)
   exact⟨m,e,fun k hk=>sub _ (q k hk)⟩
  ·rw [if_neg h1,if_neg h1]
   by_cases h2:i=below t.place (sl t.mask h n)
   ·rw [if_pos h2,if_pos h2]
    exact⟨n,rfl,fun k hk'=>sub _ (hk k hk')⟩
   ·rw [if_neg h2,if_neg h2]
    obtain⟨m,e,q⟩:=b.reach (i-1) (by omega)
    exact⟨m,e,fun k hk=>sub _ (q k hk)⟩
theorem hj_ {m i:Nat} (h:i≤m):i+(runEnd m i-i)≤m:=by unfold runEnd;split<;>omega
theorem jy_ (m:Nat) (h:Int):∀n,(pAt m h n).j+(pAt m h n).more≤m
 |0=>by
  have:=Nat.mod_lt (bits h) (show 0<m+1 by omega)
  exact hj_ (m:=m) (i:=bits h%(m+1)) (by omega)
 |n+1=>by
  have a:=jy_ m h n
  show(bN_ m (pAt m h n)).j+(bN_ m (pAt m h n)).more≤m
  unfold bN_ advance
  split
  ·show(pAt m h n).j+1+((pAt m h n).more-1)≤m
   omega
  ·unfold leap
   dsimp only
   have:=Nat.mod_lt ((pAt m h n).i*5+1+(pAt m h n).perturb/32) (show 0<m+1 by omega)
   exact hj_ (by omega)
theorem ni_ (m:Nat) (h:Int) (n:Nat):sl m h n≤m:=by
 have:=jy_ m h n
 unfold sl
 omega
abbrev Own:=Array (Option Nat)
def Occ (o:Own) (j:Nat):Prop:=∃k,o[j]? =some (some k)
theorem h3_ (m:Nat) (q:Nat×Nat):∀k,k≤runEnd m q.1-q.1→(dd_ m (eQ_ m q) k).j=q.1+k∧(dd_ m (eQ_ m q) k).more=runEnd m q.1-q.1-k
 |0,_=>⟨rfl,rfl⟩
 |k+1,h=>by
  obtain⟨a,b⟩:=h3_ m q k (by omega)
  show(bN_ m (dd_ m (eQ_ m q) k)).j=_∧(bN_ m (dd_ m (eQ_ m q) k)).more=_
  unfold bN_ advance
  rw [if_pos (by omega)]
  dsimp only
  rw [a,b]
  exact⟨by omega,by omega⟩
theorem e7_ {p:Nat→Bool}:∀(n:Nat),((List.range n).find? p=none∧∀i,i<n→p i=false)∨∃k,k<n∧(List.range n).find? p=some k∧p k=true∧∀i,i<k→p i=false
 |0=> .inl ⟨rfl,fun i h=>absurd h (by omega)⟩
 |n+1=>by
  rw [List.range_succ,List.find?_append]
  rcases e7_ (p:=p) n with⟨a,b⟩|⟨k,h1,h2,h3,h4⟩
  ·rw [a]
   cases c:p n with
   |true=>exact .inr ⟨n,by omega,by simp [c],c,b⟩
   |false=>
    refine .inl ⟨by simp [c],fun i hi=> ?_⟩
    by_cases e:i=n
    ·rw [e];exact c
    ·exact b i (by omega)
  ·rw [h2]
   exact .inr ⟨k,by omega,rfl,h3,h4⟩
theorem kd_ {m:Nat}{o:Own} (hs:o.size=m+1) (h:Int):∀(f:Nat) (q:Nat×Nat) (n:Nat),q.1≤m→pAt m h n=eQ_ m q→(∀k,k<n→Occ o (sl m h k))→(∃L,L<f∧¬Occ o (bp_ m q L).1)→
  ∃n',layClean.free m o f q.1 q.2=some (sl m h n')∧¬Occ o (sl m h n')∧∀k,k<n'→Occ o (sl m h k)
 |0,q,n,hq,hp,ho,⟨L,hL,_⟩=>absurd hL (by omega)
 |f+1,q,n,hq,hp,ho,⟨L,hL,hf⟩=>by
  unfold layClean.free
  have run:∀k,k<runEnd m q.1+1-q.1→sl m h (n+k)=q.1+k:=fun k hk=>by
   unfold sl
   rw [do_,hp]
   exact(h3_ m q k (by omega)).1
  have rb:=hj_ hq
  have rl:q.1≤runEnd m q.1:=by unfold runEnd;split<;>omega
  have no:∀j,j≤m→(((o.getD j (some 0)).isNone=false→Occ o j)∧((o.getD j (some 0)).isNone=true→¬Occ o j)):=fun j hj=>by
   have hj':j<o.size:=by omega
   have e:o[j]? =some (o.getD j (some 0)):=by simp [Array.getD,hj']
   constructor
   ·intro z
    cases c:o.getD j (some 0) with
    |none=>rw [c] at z;cases z
    |some k=>exact⟨k,by rw [e,c]⟩
   ·rintro z ⟨k,hk⟩
    rw [e] at hk
    rw [Option.some.inj hk] at z
    cases z
  rcases e7_ (p:=fun k=>(o.getD (q.1+k) (some 0)).isNone) (runEnd m q.1+1-q.1) with⟨a,b⟩|⟨k,h1,h2,h3,h4⟩
  ·rw [a]
   dsimp only
   have all:∀k,k<n+(runEnd m q.1-q.1+1)→Occ o (sl m h k):=fun k hk=>by
    by_cases c:k<n
    ·exact ho k c
    ·have e:k=n+(k-n):=by omega
     rw [e,run (k-n) (by omega)]
     exact(no _ (by omega)).1 (b (k-n) (by omega))
   have hj:(lv_ m q).1≤m:=by
    show(leap m _ _).1≤m
    unfold leap
    have:=Nat.mod_lt (q.1*5+1+q.2/32) (show 0<m+1 by omega)
    dsimp only
    omega
   have hp':pAt m h (n+(runEnd m q.1-q.1+1))=eQ_ m (lv_ m q):=by
    rw [do_,hp]
    exact fo_ m _ (eQ_ m q) rfl rfl
   have hL0:L≠0:=by
    rintro rfl
    apply hf
    have:=(no q.1 hq).1 (b 0 (by unfold runEnd;split<;>omega))
    exact this
   obtain⟨L',rfl⟩:∃L',L=L'+1:=⟨L-1,by omega⟩
   exact kd_ hs h f (lv_ m q) _ hj hp' all ⟨L',by omega,by
    rw [show L'+1=1+L' by omega,du_] at hf
    exact hf⟩
  ·rw [h2]
   dsimp only
   refine⟨n+k,by rw [run k h1], ?_,fun k' hk'=> ?_⟩
   ·rw [run k h1]
    exact(no _ (by omega)).2 h3
   ·by_cases c:k'<n
    ·exact ho k' c
    ·have e:k'=n+(k'-n):=by omega
     rw [e,run (k'-n) (by omega)]
     exact(no _ (by omega)).1 (h4 (k'-n) (by omega))
theorem nD_ {m:Nat} (hm:Msk m) (q:Nat×Nat) (hp:q.2<2^64) {e:Nat} (he:e≤m):∃L,L<turns m∧(bp_ m q L).1=e:=by
 have z:(bp_ m q 13).2=0:=by
  rw [dJ_]
  apply Nat.div_eq_of_lt
  have h2:(2:Nat)^64<32^13:=by decide
  omega
 have j13:(bp_ m q 13).1≤m:=by
  show(leap m _ _).1≤m
  unfold leap
  have:=Nat.mod_lt ((bp_ m q 12).1*5+1+(bp_ m q 12).2/32) (show 0<m+1 by omega)
  dsimp only
  omega
 obtain⟨k,hk,ek⟩:=lB_ hm j13 he
 refine⟨13+k,by unfold turns;omega, ?_⟩
 rw [du_]
 have e13:bp_ m q 13=((bp_ m q 13).1,0):=Prod.ext rfl z
 rw [e13,dI_]
 exact ek
structure Lay (m:Nat) (hs:List Int) (o:Own) (ss:Nat→Nat):Prop where
 size:o.size=m+1
 at_:∀i,i<hs.length→ss i≤m∧o[ss i]? =some (some i)
 of_:∀j k,o[j]? =some (some k)→k<hs.length∧ss k=j
 reach:∀(i:Nat) h,hs[i]? =some h→∃n,sl m h n=ss i∧∀k,k<n→Occ o (sl m h k)
theorem Lay.step {m:Nat} (hm:Msk m) {hs:List Int}{o:Own}{ss:Nat→Nat} (l:Lay m hs o ss) (h:Int) (hl:hs.length≤m):
  ∃j,layClean.free m o (turns m) (bits h%(m+1)) (bits h)=some j∧∃ss',Lay m (hs++[h]) (o.setIfInBounds j (some hs.length)) ss':=by
 obtain⟨e,he,hne⟩:∃e,e≤m∧¬Occ o e:=by
  refine Classical.byContradiction fun z=> ?_
  have:=e0_ hs.length (m+1) ss fun j hj=>by
   rcases Classical.em (Occ o j) with⟨k,hk⟩|c
   ·exact⟨k,(l.of_ j k hk).1,(l.of_ j k hk).2⟩
   ·exact absurd ⟨j,by omega,c⟩ z
  omega
 obtain⟨L,hL,eL⟩:=nD_ hm (bits h%(m+1),bits h) (kq_ h) he
 have i0:=Nat.mod_lt (bits h) (show 0<m+1 by omega)
 obtain⟨n,e1,e2,e3⟩:=kd_ l.size h (turns m) (bits h%(m+1),bits h) 0 (by omega) rfl (fun k hk=>absurd hk (by omega)) ⟨L,hL,by rw [eL];exact hne⟩
 have jm:=ni_ m h n
 have js:sl m h n<o.size:=by rw [l.size];omega
 refine⟨sl m h n,e1,fun i=>if i=hs.length then sl m h n else ss i, ?_⟩
 have set_:∀j,(o.setIfInBounds (sl m h n) (some hs.length))[j]? =if j=sl m h n then some (some hs.length) else o[j]? :=fun j=>by
  rw [Array.getElem?_setIfInBounds]
  by_cases c:sl m h n=j
  ·rw [if_pos c,if_pos c.symm]
   simp [←c,js]
  ·rw [if_neg c,if_neg fun z=>c z.symm]
 have sub:∀j,Occ o j→Occ (o.setIfInBounds (sl m h n) (some hs.length)) j:=fun j ⟨k,hk⟩=>by
  refine⟨k, ?_⟩
  rw [set_,if_neg]
  ·exact hk
  ·rintro rfl
   exact e2 ⟨k,hk⟩
 refine⟨by rw [Array.size_setIfInBounds];exact l.size,fun i hi=> ?_,fun j k hk=> ?_,fun i h' hh'=> ?_⟩
 ·rw [List.length_append,List.length_singleton] at hi
  by_cases c:i=hs.length
  ·rw [if_pos c,set_,if_pos rfl,c]
   exact⟨jm,rfl⟩
  ·rw [if_neg c,set_]
   obtain⟨a,b⟩:=l.at_ i (by omega)
   refine⟨a, ?_⟩
   rw [if_neg]
   ·exact b
   ·intro z
    rw [z] at b
    exact e2 ⟨i,b⟩
 ·rw [set_] at hk
  rw [List.length_append,List.length_singleton]
  by_cases c:j=sl m h n
  ·rw [if_pos c] at hk
   cases hk
   exact⟨by omega,by rw [if_pos rfl];exact c.symm⟩
  ·rw [if_neg c] at hk
   obtain⟨a,b⟩:=l.of_ j k hk
   exact⟨by omega,by rw [if_neg (by omega)];exact b⟩
 ·by_cases c:i<hs.length
  ·rw [List.getElem?_append_left c] at hh'
   obtain⟨n',a,b⟩:=l.reach i h' hh'
   rw [if_neg (by omega)]
   exact⟨n',a,fun k hk=>sub _ (b k hk)⟩
  ·have hlt:=(List.getElem?_eq_some_iff.mp hh').1
   rw [List.length_append,List.length_singleton] at hlt
   obtain rfl:i=hs.length:=by omega
   rw [List.getElem?_append_right (Nat.le_refl _),Nat.sub_self] at hh'
   cases hh'
   rw [if_pos rfl]
   exact⟨n,rfl,fun k hk=>sub _ (e3 k hk)⟩
def eB_ (m:Nat) (acc:Option (Own×Nat)) (h:Int):Option (Own×Nat):=do
 let (owner,k)←acc
 let j←layClean.free m owner (turns m) (bits h%(m+1)) (bits h)
 pure (owner.setIfInBounds j (some k),k+1)
theorem ij_ {m:Nat} (hm:Msk m):∀(more hs:List Int) (o:Own) (ss:Nat→Nat),Lay m hs o ss→hs.length+more.length≤m+1→
  ∃o' ss',more.foldl (eB_ m) (some (o,hs.length))=some (o',(hs++more).length)∧Lay m (hs++more) o' ss'
 |[],hs,o,ss,l,_=>⟨o,ss,by simp,by simpa using l⟩
 |h::more,hs,o,ss,l,hl=>by
  rw [List.length_cons] at hl
  obtain⟨j,e,ss',l'⟩:=l.step hm h (by omega)
  obtain⟨o',ss2,e2,l2⟩:=ij_ hm more (hs++[h]) _ ss' l' (by rw [List.length_append,List.length_singleton];omega)
  rw [List.append_assoc,List.singleton_append] at e2 l2
  refine⟨o',ss2, ?_,l2⟩
  rw [List.foldl_cons]
  have es:eB_ m (some (o,hs.length)) h=some (o.setIfInBounds j (some hs.length),(hs++[h]).length):=by
   unfold eB_
   simp only [Option.bind_eq_bind,Option.bind_some,e]
   simp
  rw [es]
  exact e2
theorem jW_ {m:Nat} (hm:Msk m) (hs:Array Int) (hl:hs.size≤m+1):∃o ss,layClean m hs=some o∧Lay m hs.toList o ss:=by
 have l0:Lay m [] (Array.replicate (m+1) none) (fun _=>0):=⟨by simp,fun i hi=>absurd hi (by simp),fun j k hk=>(by
  rw [Array.getElem?_replicate] at hk
  split at hk<;>cases hk),fun i h e=>by simp at e⟩
 obtain⟨o,ss,e,l⟩:=ij_ hm hs.toList [] _ _ l0 (by simpa using hl)
 refine⟨o,ss, ?_,by simpa using l⟩
 unfold layClean
 have:hs.foldl (init:=some (Array.replicate (m+1) none,0)) (eB_ m)=some (o,([]++hs.toList).length):=by
  rw [←Array.foldl_toList]
  exact e
 have e2:(hs.foldl (init:=some (Array.replicate (m+1) none,0)) fun acc h=>do
  let (owner,k)←acc
  let j←layClean.free m owner (turns m) (bits h%(m+1)) (bits h)
  pure (owner.setIfInBounds j (some k),k+1))=hs.foldl (init:=some (Array.replicate (m+1) none,0)) (eB_ m):=rfl
 rw [e2,this]
 rfl
def bo_ (m:Nat) (o:Own):List (Nat×Nat):=(List.range (m+1)).filterMap fun j=>(o.getD j none).map (j, ·)
theorem fL_ {m:Nat}{o:Own} (hs:o.size=m+1) (j k:Nat):(j,k)∈bo_ m o↔o[j]? =some (some k):=by
 unfold bo_
 rw [List.mem_filterMap]
 constructor
 ·rintro⟨a,ha,e⟩
  obtain⟨k',e1,e2⟩:=Option.map_eq_some_iff.mp e
  cases e2
  have hj:j<o.size:=by rw [hs];simpa using ha
  have e:o[j]? =some (o.getD j none):=by simp [Array.getD,hj]
  rw [e,e1]
 ·intro e
  obtain⟨hj,e2⟩:=Array.getElem?_eq_some_iff.mp e
  refine⟨j,by simpa [hs] using hj, ?_⟩
  have:o.getD j none=some k:=by simp [Array.getD,hj,e2]
  rw [this]
  rfl
theorem mq_ (m:Nat) (o:Own):(bo_ m o).Pairwise fun a b=>a.1<b.1:=by
 unfold bo_
 rw [List.pairwise_filterMap]
 refine List.Pairwise.imp ?_ (List.pairwise_lt_range (n:=m+1))
 intro a b hab x hx y hy
 obtain⟨_,_,e1⟩:=Option.map_eq_some_iff.mp hx
 obtain⟨_,_,e2⟩:=Option.map_eq_some_iff.mp hy
 rw [←e1,←e2]
 exact hab
structure Laid (m:Nat) (hs:Array Int) (pl od:Array Nat):Prop where
 ps:pl.size=hs.size
 os:od.size=hs.size
 ris:Ris pl
 bnd:∀i,i<pl.size→pl.getD i 0≤m
 lt:∀i,i<hs.size→od.getD i 0<hs.size
 inj:∀i j,i<hs.size→j<hs.size→od.getD i 0=od.getD j 0→i=j
 sur:∀k,k<hs.size→∃i,i<hs.size∧od.getD i 0=k
 reach:∀i,i<hs.size→∃n,sl m (hs.getD (od.getD i 0) 0) n=pl.getD i 0∧∀k,k<n→In pl (sl m (hs.getD (od.getD i 0) 0) k)
theorem mt_ {m:Nat} (hm:Msk m) (fg mv:Nat) (led plain:Bool) (hs:Array Int) (hl:hs.size≤m+1):
  ∃pl od,laid m fg mv led plain hs=some ({mask:=m,place:=pl,dummies:= #[],finger:=fg,led:=led,moves:=mv,plain:=plain},od)∧Laid m hs pl od:=by
 obtain⟨o,ss,e,l⟩:=jW_ hm hs hl
 have ln:hs.toList.length=hs.size:=Array.length_toList
 refine⟨((bo_ m o).map (·.1)).toArray,((bo_ m o).map (·.2)).toArray, ?_, ?_⟩
 ·unfold laid
  rw [e]
  rfl
 have at_:∀i (h:i<(bo_ m o).length),((bo_ m o).map (·.1)).toArray.getD i 0=(bo_ m o)[i].1∧((bo_ m o).map (·.2)).toArray.getD i 0=(bo_ m o)[i].2∧o[(bo_ m o)[i].1]? =some (some (bo_ m o)[i].2):=fun i h=>by
  refine⟨by simp [Array.getD,h],by simp [Array.getD,h],(fL_ l.size _ _).mp ?_⟩
  exact List.getElem_mem h
 have ris:Ris ((bo_ m o).map (·.1)).toArray:=fun i j hij hj=>by
  have hj':j<(bo_ m o).length:=by simpa using hj
  rw [(at_ i (by omega)).1,(at_ j hj').1]
  exact List.pairwise_iff_getElem.mp (mq_ m o) i j (by omega) hj' hij
 have sur:∀k,k<hs.size→∃i,∃h:i<(bo_ m o).length,(bo_ m o)[i].2=k∧(bo_ m o)[i].1=ss k:=fun k hk=>by
  have:=(fL_ l.size (ss k) k).mpr (l.at_ k (by rw [ln];exact hk)).2
  obtain⟨i,hi,e⟩:=List.mem_iff_getElem.mp this
  exact⟨i,hi,by rw [e],by rw [e]⟩
 have size:(bo_ m o).length=hs.size:=by
  have h1:=e0_ (bo_ m o).length hs.size (fun i=>((bo_ m o).map (·.2)).toArray.getD i 0) fun k hk=>by
   obtain⟨i,hi,e,_⟩:=sur k hk
   exact⟨i,hi,by rw [(at_ i hi).2.1,e]⟩
  have h2:=e0_ hs.size (bo_ m o).length (fun k=>below ((bo_ m o).map (·.1)).toArray (ss k)) fun i hi=>by
   obtain⟨a1,a2,a3⟩:=at_ i hi
   obtain⟨b1,b2⟩:=l.of_ _ _ a3
   refine⟨(bo_ m o)[i].2,by omega, ?_⟩
   rw [b2,←a1]
   exact iH_ ris (by simpa using hi)
  omega
 have inOcc:∀j,Occ o j→In ((bo_ m o).map (·.1)).toArray j:=fun j ⟨k,hk⟩=>by
  obtain⟨i,hi,e⟩:=List.mem_iff_getElem.mp ((fL_ l.size j k).mpr hk)
  exact⟨i,by simpa using hi,by rw [(at_ i hi).1,e]⟩
 refine⟨by simpa using size,by simpa using size,ris,fun i hi=> ?_,fun i hi=> ?_,fun i j hi hj e=> ?_,fun k hk=> ?_,fun i hi=> ?_⟩
 ·have hi':i<(bo_ m o).length:=by simpa using hi
  obtain⟨a1,a2,a3⟩:=at_ i hi'
  rw [a1]
  have:=(Array.getElem?_eq_some_iff.mp a3).1
  have:=l.size
  omega
 ·obtain⟨a1,a2,a3⟩:=at_ i (by omega)
  rw [a2]
  have:=(l.of_ _ _ a3).1
  omega
 ·obtain⟨a1,a2,a3⟩:=at_ i (by omega)
  obtain⟨b1,b2,b3⟩:=at_ j (by omega)
  rw [a2,b2] at e
  have e1:=(l.of_ _ _ a3).2
  have e2:=(l.of_ _ _ b3).2
  rw [e,e2] at e1
  by_cases c:i<j
  ·have:=ris i j c (by simp;omega)
   omega
  ·by_cases c2:j<i
   ·have:=ris j i c2 (by simp;omega)
    omega
   ·omega
 ·obtain⟨i,hi,e,_⟩:=sur k hk
  exact⟨i,by omega,by rw [(at_ i hi).2.1,e]⟩
 ·obtain⟨a1,a2,a3⟩:=at_ i (by omega)
  obtain⟨b1,b2⟩:=l.of_ _ _ a3
  have hk:(bo_ m o)[i].2<hs.size:=by omega
  have eh:hs.toList[(bo_ m o)[i].2]? =some (hs.getD (bo_ m o)[i].2 0):=by simp [Array.getD,hk]
  obtain⟨n,e,q⟩:=l.reach _ _ eh
  rw [a1,a2]
  exact⟨n,by rw [e,b2],fun k hk=>inOcc _ (q k hk)⟩
theorem lz_ {α β:Type}{f:α→Option β}{g:α→β}:∀(l:List α),(∀a∈l,f a=some (g a))→l.filterMap f=l.map g
 |[],_=>rfl
 |a::l,h=>by
  rw [List.filterMap_cons_some (h a (by simp)),List.map_cons,lz_ l fun b hb=>h b (by simp [hb])]
theorem mL_:sizeAbove 20=32:=by decide
theorem mK_:sizeAbove 76=128:=by decide
theorem Tb.again {t:SetTable}{es:Array (Int×Value)} (hm:(t.mask=7∧es.size=5)∨(t.mask=31∧es.size=19)):
  ∃pl od,t.relaid (es.map (·.1)) (grown es.size)=some ({mask:=sizeAbove (grown es.size)-1,place:=pl,dummies:= #[],finger:=t.finger,led:=t.led,moves:=t.movedTo (sizeAbove (grown es.size)-1),plain:=t.plain},od)∧
   Tb {mask:=sizeAbove (grown es.size)-1,place:=pl,dummies:= #[],finger:=t.finger,led:=t.led,moves:=t.movedTo (sizeAbove (grown es.size)-1),plain:=t.plain} (od.filterMap (es[·]?))∧
   (od.filterMap (es[·]?)).size=es.size∧(∀i,i<es.size→∃k,k<es.size∧(od.filterMap (es[·]?))[i]? =es[k]? ∧k=od.getD i 0)∧
   (∀i j,i<es.size→j<es.size→od.getD i 0=od.getD j 0→i=j)∧(∀k,k<es.size→∃i,i<es.size∧od.getD i 0=k)∧
   es.size*5<(sizeAbove (grown es.size)-1)*3∧sizeAbove (grown es.size)≤sizeLine:=by
 have hM:Msk (sizeAbove (grown es.size)-1)∧es.size≤sizeAbove (grown es.size)-1+1∧es.size*5<(sizeAbove (grown es.size)-1)*3∧sizeAbove (grown es.size)≤sizeLine:=by
  rcases hm with⟨_,e⟩|⟨_,e⟩
  ·rw [e,show grown 5=20 from rfl,mL_]
   exact⟨.inr (.inl rfl),by decide,by decide,by decide⟩
  ·rw [e,show grown 19=76 from rfl,mK_]
   exact⟨.inr (.inr rfl),by decide,by decide,by decide⟩
 have sz:(es.map (·.1)).size=es.size:=Array.size_map
 obtain⟨pl,od,e,L⟩:=mt_ hM.1 t.finger (t.movedTo (sizeAbove (grown es.size)-1)) t.led t.plain (es.map (·.1)) (by rw [sz];exact hM.2.1)
 have odlt:∀i,i<es.size→od.getD i 0<es.size:=fun i hi=>by have:=L.lt i (by rw [sz];exact hi);rw [sz] at this;exact this
 have ods:od.size=es.size:=by rw [L.os,sz]
 have fm:od.filterMap (es[·]?)=od.map fun k=>es.getD k (0, .none):=by
  apply Array.toList_inj.mp
  rw [Array.toList_filterMap,Array.toList_map]
  refine lz_ _ fun k hk=> ?_
  obtain⟨i,hi,ei⟩:=List.mem_iff_getElem.mp hk
  have hi':i<od.size:=by simpa using hi
  have:k<es.size:=by
   have:=odlt i (by omega)
   simp only [Array.getD,hi',dite_true] at this
   simp only [Array.getElem_toList] at ei
   rw [←ei]
   exact this
  simp [Array.getD,this]
 have fs:(od.filterMap (es[·]?)).size=es.size:=by rw [fm,Array.size_map,ods]
 have fat:∀i,i<es.size→(od.filterMap (es[·]?))[i]? =es[od.getD i 0]? :=fun i hi=>by
  have h2:=odlt i hi
  have hi':i<od.size:=by omega
  rw [fm,Array.getElem?_map]
  have e1:od[i]? =some (od.getD i 0):=by simp [Array.getD,hi']
  rw [e1]
  simp only [Option.map_some]
  generalize od.getD i 0=k at h2⊢
  simp [Array.getD,h2]
 refine⟨pl,od,e,⟨hM.1,rfl,by rw [fs];show pl.size=_;rw [L.ps,sz],L.ris,L.bnd,fun i hi=> ?_⟩,fs,fun i hi=>⟨od.getD i 0,odlt i hi,fat i hi,rfl⟩,fun i j hi hj=>L.inj i j (by rw [sz];exact hi) (by rw [sz];exact hj),fun k hk=> ?_,hM.2.2⟩
 ·rw [fs] at hi
  obtain⟨n,e1,e2⟩:=L.reach i (by rw [sz];exact hi)
  have eh:(es.map (·.1)).getD (od.getD i 0) 0=hAt (od.filterMap (es[·]?)) i:=by
   unfold hAt
   rw [fat i hi]
   have h2:=odlt i hi
   generalize od.getD i 0=k at h2⊢
   simp [Array.getD,h2]
  rw [eh] at e1 e2
  exact⟨n,e1,e2⟩
 ·obtain⟨i,hi,ei⟩:=L.sur k (by rw [sz];exact hk)
  exact⟨i,by rw [sz] at hi;exact hi,ei⟩
end L2
namespace L2
open PySem PySem.SetTable PySem.Spec PyProof.Rows
section
variable {prog:Program}{w:World}{A:Around}{E:Value→Shared→Prop}{s:Shared}
theorem io_ {k:List Int}{vs:List Value} (h:ItemsAre (intKind prog w) k vs):∀v∈vs,∃n t,v= .int n t:=by
 induction h with
 |nil=>intro v hv;simp at hv
 | @cons k v' ks vs h1 _ ih=>
  intro v hv
  rcases List.mem_cons.mp hv with rfl|hv
  ·cases v with
   |int n t=>exact⟨n,t,rfl⟩
   |_=>exact absurd h1 (by simp [intKind,Value.isInt])
  ·exact ih v hv
theorem eu_ {k:List Int}{x:Addr}{Q:Bool→Shared→Prop} (hx:IsTupleKey (intKind prog w) s.heap k x) (h:Q false s):
  wpAny (model prog w) A (ofAClassStatement 8 (.ref x)) Q E s:=by
 have hT:=hx.typeIs
 obtain⟨o,items,n,ho,hc,hd,hi⟩:=hx
 unfold ofAClassStatement
 refine wpAny_bind (wpAny_typeOf hT ?_)
 show wpAny _ _ ((if("tuple"=="tuple")=true then pure true else isSubtype (.type "tuple") (.type "tuple"))>>=_) _ _ s
 refine wpAny_bind (wpAny_pure ?_)
 simp only [Bool.not_true,Bool.false_eq_true,if_false]
 refine wpAny_bind (wpAny_seqItems ho hd ?_)
 refine wpAny_bind ?_
 show wpAny _ _ (forIn items _ _) _ _ s
 rw [←Array.forIn_toList]
 refine wpAny_forIn_list _ (fun bC_ r s'=>r.1=none∧s'=s∧∀v∈bC_,∃n t,v=Value.int n t) _ ?_ ?_ _ _ ⟨rfl,rfl,io_ hi⟩
 ·rintro v bC_ r s' ⟨hr,rfl,hall⟩
  obtain⟨n,t,rfl⟩:=hall v List.mem_cons_self
  refine wpAny_bind (wpAny_of_eq (show ofAClassStatement 7 (.int n t)=pure false from by unfold ofAClassStatement;rfl) (wpAny_pure ?_))
  simp only [Bool.false_eq_true,if_false]
  exact⟨trivial,trivial,fun u hu'=>hall u (List.mem_cons_of_mem _ hu')⟩
 ·rintro⟨r1,r2⟩ s' ⟨hr,rfl,_⟩
  simp only at hr
  subst hr
  exact wpAny_pure h
theorem kI_ {k:List Int}{x:Addr}{Q:Bool→Shared→Prop} (hx:IsTupleKey (intKind prog w) s.heap k x) (ys:List Value)
  (hy:∀y∈ys,∃b j,y= .ref b∧IsTupleKey (intKind prog w) s.heap j b) (h:Q false s):
  wpAny (model prog w) A (searchCouldBeSeen (.ref x) ys) Q E s:=by
 unfold searchCouldBeSeen
 refine wpAny_bind ?_
 refine wpAny_forIn_list _ (fun bC_ r s'=>r.1=none∧s'=s∧∀v∈bC_,∃b j,v=Value.ref b∧IsTupleKey (intKind prog w) s.heap j b) _ ?_ ?_ _ _ ⟨rfl,rfl,hy⟩
 ·rintro v bC_ r s' ⟨hr,rfl,hall⟩
  obtain⟨b,j,rfl,hj⟩:=hall v List.mem_cons_self
  have hall':∀u∈bC_,∃b j,u=Value.ref b∧IsTupleKey (intKind prog w) s'.heap j b:=fun u hu'=>hall u (List.mem_cons_of_mem _ hu')
  dsimp only
  split
  ·exact wpAny_pure ⟨rfl,rfl,hall'⟩
  ·refine wpAny_bind (wpAny_eqIsQuiet_tuple hx ?_)
   simp only [Bool.not_true,Bool.false_eq_true,if_false]
   refine wpAny_bind (wpAny_eqIsQuiet_tuple hj ?_)
   simp only [Bool.not_true,Bool.false_eq_true,if_false]
   refine wpAny_bind (eu_ hx ?_)
   simp only [Bool.false_eq_true,if_false]
   refine wpAny_bind (eu_ hj ?_)
   simp only [Bool.false_eq_true,if_false]
   exact wpAny_pure ⟨rfl,rfl,hall'⟩
 ·rintro⟨r1,r2⟩ s' ⟨hr,rfl,_⟩
  simp only at hr
  subst hr
  exact wpAny_pure h
structure Ent (prog:Program) (w:World) (h:Heap) (es:Array (Int×Value)):Prop where
 ent:∀i,i<es.size→∃k b,es[i]? =some (tupleKeyHash (intKind prog w) k, .ref b)∧IsTupleKey (intKind prog w) h k b
 dis:∀(i j:Nat) (k:List Int) (b c:Addr) (g g':Int),es[i]? =some (g,Value.ref b)→es[j]? =some (g',Value.ref c)→IsTupleKey (intKind prog w) h k b→IsTupleKey (intKind prog w) h k c→i=j
def mP_ (prog:Program) (w:World) (h:Heap) (es:Array (Int×Value)) (k:List Int):Prop:=∃(i:Nat) (b:Addr),es[i]? =some (tupleKeyHash (intKind prog w) k, .ref b)∧IsTupleKey (intKind prog w) h k b
theorem jg_ (a:Addr) (x:Value) (h:Int) (adding:Bool) (fuel:Nat) (stand:Option Probe):setSearchFrom a x h adding (fuel+1) stand=(do
  let (es,_,t)←setState a
  if t.gaveWay then unsupported "set:on-a-table-that-gave-way"
  let some met:=t.probe (hAt es) h (stand.getD (t.probeStart h))|unsupported "internal:set-table-without-an-empty-slot"
  match met with
  | .empty j dummy=>
   match dummy with
   |none=>return .free j false
   |some d=>
    if adding&&t.slot d != .dummy then rule "set.search.the-dummy-was-taken";return←setSearchFrom a x h adding fuel none
    return .free d true
  | .candidate j i next=>
   if !t.led then
    if←searchCouldBeSeen x ((es.filter (·.1==h)).toList.map (·.2)) then unsupported "set:the-search-would-show-the-table"
   let some (_,y):=es[i]? |unsupported "internal:set-entry"
   let equal←holding [y] (eqBool y x)
   let (es',_,t')←setState a
   if adding&&equal then return .there none
   let some same:=t'.sameMemory t.moves t.mask|unsupported "set.changed-during-lookup:is-the-new-block-at-the-old-address"
   let still←match(if same then t'.slot j else .empty) with
    | .live i'=>match es'[i']? with
     |some (_,y')=>do pure (if←isSame y' y then some i' else none)
     |none=>pure none
    |_=>pure none
   match still with
   |none=>rule "set.search.anew";setSearchFrom a x h adding fuel none
   |some i'=>if equal then return .there (some i') else setSearchFrom a x h adding fuel (some next)):=rfl
theorem in_ {h:Heap}{es:Array (Int×Value)} (e:Ent prog w h es) {i:Nat} (hi:i<es.size) {k:List Int}{b:Addr}{g:Int} (he:es[i]? =some (g, .ref b)) (hk:IsTupleKey (intKind prog w) h k b):
  g=tupleKeyHash (intKind prog w) k:=by
 obtain⟨k',b',e',hk'⟩:=e.ent i hi
 rw [e'] at he
 simp only [Option.some.injEq,Prod.mk.injEq,Value.ref.injEq] at he
 obtain⟨rfl,rfl⟩:=he
 rw [hk.inj hk']
theorem c2_ {α:Type}{xs:Array α}{i:Nat}{a:α} (h:xs[i]? =some a):i<xs.size:=by
 rcases Nat.lt_or_ge i xs.size with c|c
 ·exact c
 ·rw [Array.getElem?_eq_none c] at h;exact nomatch h
theorem c5_ {es:Array (Int×Value)}{t:SetTable} (b:Tb t es) (hs:es.size≤t.mask):t.fits es.size=true:=by
 have h1:t.fill≤t.mask:=by
  unfold SetTable.fill
  rw [b.dum,b.size]
  exact hs
 unfold SetTable.fits
 rw [b.size,decide_eq_true h1]
 simp
theorem eZ_ {a:Addr}{o:Obj}{es:Array (Int×Value)}{ep:Nat}{t:SetTable} (ho:s.heap.get? a=some o) (hd:o.data= .set es ep t) (b:Tb t es) (hs:es.size≤t.mask)
  (hu:A.units<cLine) (en:Ent prog w s.heap es) {k:List Int}{x:Addr} (hx:IsTupleKey (intKind prog w) s.heap k x) {Q:SetFound→Shared→Prop}
  (hT:mP_ prog w s.heap es k→Q (.there none) s)
  (hF:∀n,¬In t.place (sl t.mask (tupleKeyHash (intKind prog w) k) n)→(∀j,j<n→In t.place (sl t.mask (tupleKeyHash (intKind prog w) k) j))→¬mP_ prog w s.heap es k→
   Q (.free (sl t.mask (tupleKeyHash (intKind prog w) k) n) false) s):
  ∀(fuel n0:Nat) (stand:Option Probe),(∃N,n0≤N∧N<n0+fuel∧¬In t.place (sl t.mask (tupleKeyHash (intKind prog w) k) N))→
   (∀j,j<n0→∃i,i<t.place.size∧t.place.getD i 0=sl t.mask (tupleKeyHash (intKind prog w) k) j∧∀g c,es[i]? =some (g,Value.ref c)→¬IsTupleKey (intKind prog w) s.heap k c)→
   stand.getD (t.probeStart (tupleKeyHash (intKind prog w) k))=pAt t.mask (tupleKeyHash (intKind prog w) k) n0→
   wpAny (model prog w) A (setSearchFrom a (.ref x) (tupleKeyHash (intKind prog w) k) true fuel stand) Q E s
 |0,n0,_,⟨N,h1,h2,_⟩,_,_=>absurd h2 (by omega)
 |fuel+1,n0,stand,⟨N,h1,h2,h3⟩,hp,hst=>by
  have hf:t.fits es.size=true:=c5_ b hs
  have hw:t.gaveWay=false:=by
   unfold SetTable.gaveWay
   rcases b.mask with e|e|e<;>rw [e]<;>rfl
  rw [jg_]
  refine wpAny_bind (wpAny_setState_of ho hd hf ?_)
  dsimp only
  rw [hw,hst]
  simp only [Bool.false_eq_true,if_false]
  obtain⟨n,hn,hq,hr⟩:=b.probe hs (hAt es) (tupleKeyHash (intKind prog w) k) n0
  have hp':∀j,j<n→∃i,i<t.place.size∧t.place.getD i 0=sl t.mask (tupleKeyHash (intKind prog w) k) j∧∀g c,es[i]? =some (g,Value.ref c)→¬IsTupleKey (intKind prog w) s.heap k c:=by
   intro j hj
   rcases Nat.lt_or_ge j n0 with c|c
   ·exact hp j c
   ·obtain⟨i,hi,ei,eh⟩:=hq j c hj
    refine⟨i,hi,ei,fun g c e hk=> ?_⟩
    have:=in_ en (by rw [←b.size];exact hi) e hk
    unfold hAt at eh
    rw [e] at eh
    simp [this] at eh
  rcases hr with⟨r1,r2⟩|⟨i,hi,ei,eh,r2⟩
  ·rw [r2]
   refine wpAny_pure (hF n r1 (fun j hj=> ?_) fun⟨i,c,e,hk⟩=> ?_)
   ·obtain⟨i,hi,ei,_⟩:=hp' j hj
    exact⟨i,hi,ei⟩
   ·have hil:=c2_ e
    obtain⟨m,em,hm⟩:=b.reach i hil
    have eha:hAt es i=tupleKeyHash (intKind prog w) k:=by unfold hAt;rw [e];rfl
    rw [eha] at em hm
    have hmn:m<n:=by
     rcases Nat.lt_or_ge m n with c|c
     ·exact c
     ·exfalso
      rcases Nat.lt_or_ge n m with d|d
      ·exact r1 (hm n d)
      ·have:m=n:=by omega
       subst this
       exact r1 ⟨i,by rw [b.size];exact hil,em.symm⟩
    obtain⟨i',hi',ei',hno⟩:=hp' m hmn
    have:i'=i:=by
     rcases Nat.lt_trichotomy i' i with c|c|c
     ·have:=b.ris i' i c (by rw [b.size];exact hil);omega
     ·exact c
     ·have:=b.ris i i' c hi';omega
    subst this
    exact hno _ _ e hk
  ·rw [r2]
   dsimp only
   have hil:i<es.size:=by rw [←b.size];exact hi
   obtain⟨k',y,ey,hy⟩:=en.ent i hil
   have hSeen:∀y∈(es.filter (fun e=>e.1==tupleKeyHash (intKind prog w) k)).toList.map (·.2),∃b j,y=Value.ref b∧IsTupleKey (intKind prog w) s.heap j b:=by
    intro y hy
    obtain⟨e,he,rfl⟩:=List.mem_map.mp hy
    have he':e∈es:=by
     have:=Array.mem_toList_iff.mp he
     exact(Array.mem_filter.mp this).1
    obtain⟨i,hi,ei⟩:=Array.mem_iff_getElem.mp he'
    obtain⟨k',y,ey,hy'⟩:=en.ent i hi
    rw [Array.getElem?_eq_getElem hi,ei] at ey
    simp only [Option.some.injEq] at ey
    subst ey
    exact⟨y,k',rfl,hy'⟩
   have goal2:wpAny (model prog w) A (do
     let some (_,y):=es[i]? |unsupported "internal:set-entry"
     let equal←holding [y] (eqBool y (.ref x))
     let (es',_,t')←setState a
     if true&&equal then return SetFound.there none
     let some same:=t'.sameMemory t.moves t.mask|unsupported "set.changed-during-lookup:is-the-new-block-at-the-old-address"
     let still←match(if same then t'.slot (sl t.mask (tupleKeyHash (intKind prog w) k) n) else .empty) with
      | .live i'=>match es'[i']? with
       |some (_,y')=>do pure (if←isSame y' y then some i' else none)
       |none=>pure none
      |_=>pure none
     match still with
     |none=>rule "set.search.anew";setSearchFrom a (.ref x) (tupleKeyHash (intKind prog w) k) true fuel none
     |some i'=>if equal then return SetFound.there (some i') else setSearchFrom a (.ref x) (tupleKeyHash (intKind prog w) k) true fuel (some (pAt t.mask (tupleKeyHash (intKind prog w) k) (n+1)))) Q E s:=by
    rw [ey]
    dsimp only
    refine wpAny_bind (wpAny_holding (wpAny_eqBool_tuple hu hy hx ?_))
    refine wpAny_bind (wpAny_setState_of ho hd hf ?_)
    dsimp only
    by_cases hkk:k'=k
    ·subst hkk
     rw [decide_eq_true rfl]
     simp only [Bool.true_and,if_true]
     exact wpAny_pure (hT ⟨i,y,ey,hy⟩)
    ·rw [decide_eq_false hkk]
     simp only [Bool.and_false,Bool.false_eq_true,if_false]
     have hsm:t.sameMemory t.moves t.mask=some true:=by unfold SetTable.sameMemory;simp
     rw [hsm]
     dsimp only
     rw [if_pos rfl,←ei,ge_ b.ris hi]
     dsimp only
     rw [ey]
     dsimp only
     refine wpAny_bind ?_
     refine wpAny_isSame_ref_self ?_
     simp only [if_true]
     refine eZ_ ho hd b hs hu en hx hT hF fuel (n+1) _ ⟨N, ?_,by omega,h3⟩ ?_ rfl
     ·have:n≠N:=fun e=>h3 (by rw [←e];exact⟨i,hi,ei⟩)
      have:¬N<n:=fun c=>by
       obtain⟨i',hi',ei',_⟩:=hp' N c
       exact h3 ⟨i',hi',ei'⟩
      omega
     ·intro j hj
      rcases Nat.lt_or_ge j n with c|c
      ·exact hp' j c
      ·have:j=n:=by omega
       subst this
       refine⟨i,hi,ei,fun g c e hk=>hkk ?_⟩
       rw [ey] at e
       simp only [Option.some.injEq,Prod.mk.injEq,Value.ref.injEq] at e
       obtain⟨_,rfl⟩:=e
       exact hy.inj hk
   cases hl:t.led with
   |true=>simpa only [Bool.not_true,Bool.false_eq_true,if_false] using goal2
   |false=>
    simp only [Bool.not_false,if_true]
    refine wpAny_bind (kI_ hx _ hSeen ?_)
    simp only [Bool.false_eq_true,if_false]
    exact goal2
def ky_ (h:Heap) (S:Addr) (led:Bool) (es:Array (Int×Value)):Prop:=
 ∃ep t,h.get? S=some {cls:= .type "set",dict:=none,data:= .set es ep t}∧Tb t es∧t.led=led∧t.plain=true∧es.size*5<t.mask*3
theorem g4_ {h:Heap}{a:Addr}{es:Array (Int×Value)}{ep:Nat}{t:SetTable} (ho:h.get? a=some {cls:= .type "set",dict:=none,data:= .set es ep t}) (es':Array (Int×Value)) (t':SetTable):
  (h.update a (Obj.putSet es' t')).get? a=some {cls:= .type "set",dict:=none,data:= .set es' (ep+1) t'}:=by
 have:=Heap.get?_update_self (Obj.putSet es' t') ho (by rw [putSet_of es' t' rfl];rfl)
 rw [putSet_of es' t' rfl] at this;exact this
theorem lu_ {h h':Heap}{S:Addr}{o o':Obj}{es es':Array (Int×Value)}{ep ep':Nat}{t t':SetTable} (q:Heap.SameBut S h h') (e:h.get? S=some o) (hd:o.data= .set es ep t)
  (e':h'.get? S=some o') (hd':o'.data= .set es' ep' t') (k:List Int) (x:Addr):
  IsTupleKey (intKind prog w) h k x↔IsTupleKey (intKind prog w) h' k x:=by
 constructor
 ·rintro⟨o,items,n,ho,hc,hdd,hi⟩
  refine⟨o,items,n,(q.2 x fun z=> ?_).trans ho,hc,hdd,hi⟩
  subst z
  rw [ho,Option.some.injEq] at e;subst e;rw [hd] at hdd;exact nomatch hdd
 ·rintro⟨o,items,n,ho,hc,hdd,hi⟩
  refine⟨o,items,n,(q.2 x fun z=> ?_).symm.trans ho,hc,hdd,hi⟩
  subst z
  rw [ho,Option.some.injEq] at e';subst e';rw [hd'] at hdd;exact nomatch hdd
theorem hP_ {k:List Int}{x:Addr}{Q:Bool→Shared→Prop} (hx:IsTupleKey (intKind prog w) s.heap k x) (h:Q true s):
  wpAny (model prog w) A (hashByValue 8 (.ref x)) Q E s:=by
 have hT:=hx.typeIs
 obtain⟨o,items,n,ho,hc,hd,hi⟩:=hx
 unfold hashByValue
 refine wpAny_bind (wpAny_specialOf hT F.slot_tuple_hash.lookup ?_)
 dsimp only
 refine wpAny_bind (wpAny_seqItems ho hd ?_)
 refine wpAny_bind ?_
 show wpAny _ _ (forIn items _ _) _ _ s
 rw [←Array.forIn_toList]
 refine wpAny_forIn_list _ (fun bC_ r s'=>r.1=none∧s'=s∧∀v∈bC_,∃n t,v=Value.int n t) _ ?_ ?_ _ _ ⟨rfl,rfl,io_ hi⟩
 ·rintro v bC_ r s' ⟨hr,rfl,hall⟩
  obtain⟨n,t,rfl⟩:=hall v List.mem_cons_self
  refine wpAny_bind (wpAny_of_eq (show hashByValue 7 (.int n t)=pure true from by unfold hashByValue;rfl) (wpAny_pure ?_))
  simp only [Bool.not_true,Bool.false_eq_true,if_false]
  exact⟨trivial,trivial,fun u hu'=>hall u (List.mem_cons_of_mem _ hu')⟩
 ·rintro⟨r1,r2⟩ s' ⟨hr,rfl,_⟩
  simp only at hr
  subst hr
  exact wpAny_pure h
theorem Ent.perm {h h':Heap}{es es':Array (Int×Value)} (en:Ent prog w h es) (hk:∀k x,IsTupleKey (intKind prog w) h k x↔IsTupleKey (intKind prog w) h' k x) (f:Nat→Nat)
  (hf:∀i,i<es'.size→f i<es.size∧es'[i]? =es[f i]?) (hj:∀i j,i<es'.size→j<es'.size→f i=f j→i=j):Ent prog w h' es':=by
 refine⟨fun i hi=> ?_,fun i j k b c g g' e1 e2 k1 k2=> ?_⟩
 ·obtain⟨k,b,e,q⟩:=en.ent (f i) (hf i hi).1
  exact⟨k,b,by rw [(hf i hi).2];exact e,(hk _ _).mp q⟩
 ·have l1:=c2_ e1
  have l2:=c2_ e2
  rw [(hf i l1).2] at e1
  rw [(hf j l2).2] at e2
  exact hj i j l1 l2 (en.dis _ _ k b c g g' e1 e2 ((hk _ _).mpr k1) ((hk _ _).mpr k2))
theorem Ent.insert {h h':Heap}{es:Array (Int×Value)} (en:Ent prog w h es) (hk:∀k x,IsTupleKey (intKind prog w) h k x↔IsTupleKey (intKind prog w) h' k x) {p:Nat} (hp:p≤es.size) {k:List Int}{x:Addr}
  (hx:IsTupleKey (intKind prog w) h k x) (hno:¬mP_ prog w h es k):Ent prog w h' (insertAt es p (tupleKeyHash (intKind prog w) k, .ref x)):=by
 have old:∀(i:Nat) (k':List Int) (b:Addr) (g:Int),es[i]? =some (g,Value.ref b)→IsTupleKey (intKind prog w) h k' b→k'≠k:=by
  rintro i k' b g e q rfl
  exact hno ⟨i,b,by rw [e,in_ en (c2_ e) e q],q⟩
 refine⟨fun i hi=> ?_,fun i j k' b c g g' e1 e2 k1 k2=> ?_⟩
 ·rw [bq_ hp] at hi
  rw [dX_ hp]
  by_cases c1:i<p
  ·rw [if_pos c1]
   obtain⟨k',b,e,q⟩:=en.ent i (by omega)
   exact⟨k',b,e,(hk _ _).mp q⟩
  ·rw [if_neg c1]
   by_cases c2:i=p
   ·rw [if_pos c2]
    exact⟨k,x,rfl,(hk _ _).mp hx⟩
   ·rw [if_neg c2]
    obtain⟨k',b,e,q⟩:=en.ent (i-1) (by omega)
    exact⟨k',b,e,(hk _ _).mp q⟩
 ·rw [dX_ hp] at e1 e2
  have k1':=(hk _ _).mpr k1
  have k2':=(hk _ _).mpr k2
  have new:∀(b:Addr) (g:Int),some (tupleKeyHash (intKind prog w) k,Value.ref x)=some (g,Value.ref b)→IsTupleKey (intKind prog w) h k' b→k'=k:=by
   intro b g e q
   simp only [Option.some.injEq,Prod.mk.injEq,Value.ref.injEq] at e
   obtain⟨_,rfl⟩:=e
   exact q.inj hx
  by_cases a1:i<p
  ·rw [if_pos a1] at e1
   by_cases b1:j<p
   ·rw [if_pos b1] at e2
    exact en.dis _ _ _ _ _ _ _ e1 e2 k1' k2'
   ·rw [if_neg b1] at e2
    by_cases b2:j=p
    ·rw [if_pos b2] at e2
     exact absurd (new _ _ e2 k2') (old _ _ _ _ e1 k1')
    ·rw [if_neg b2] at e2
     have:=en.dis _ _ _ _ _ _ _ e1 e2 k1' k2'
     omega
  ·rw [if_neg a1] at e1
   by_cases a2:i=p
   ·rw [if_pos a2] at e1
    by_cases b1:j<p
    ·rw [if_pos b1] at e2
     exact absurd (new _ _ e1 k1') (old _ _ _ _ e2 k2')
    ·rw [if_neg b1] at e2
     by_cases b2:j=p
     ·omega
     ·rw [if_neg b2] at e2
      exact absurd (new _ _ e1 k1') (old _ _ _ _ e2 k2')
   ·rw [if_neg a2] at e1
    by_cases b1:j<p
    ·rw [if_pos b1] at e2
     have:=en.dis _ _ _ _ _ _ _ e1 e2 k1' k2'
     omega
    ·rw [if_neg b1] at e2
     by_cases b2:j=p
     ·rw [if_pos b2] at e2
      exact absurd (new _ _ e2 k2') (old _ _ _ _ e1 k1')
     ·rw [if_neg b2] at e2
      have:=en.dis _ _ _ _ _ _ _ e1 e2 k1' k2'
      omega
theorem j7_ {es:Array (Int×Value)}{p:Nat} (hp:p≤es.size) (x v:Int×Value):(∃i:Nat,(insertAt es p x)[i]? =some v)↔(∃i:Nat,es[i]? =some v)∨v=x:=by
 constructor
 ·rintro⟨i,e⟩
  rw [dX_ hp] at e
  split at e
  ·exact .inl ⟨_,e⟩
  ·split at e
   ·rw [Option.some.injEq] at e;exact .inr e.symm
   ·exact .inl ⟨_,e⟩
 ·rintro(⟨i,e⟩|rfl)
  ·by_cases c:i<p
   ·exact⟨i,by rw [dX_ hp,if_pos c];exact e⟩
   ·exact⟨i+1,by rw [dX_ hp,if_neg (by omega),if_neg (by omega)];exact e⟩
  ·exact⟨p,by rw [dX_ hp,if_neg (by omega),if_pos rfl]⟩
theorem kM_ (a:Addr) (wanted:Nat):setRelay a wanted=(do
  let (es,_,t)←setState a
  if SetTable.sizeAbove wanted>sizeLine then unsupported "set:memory"
  let (es,t)←(do
   let some (t,order):=t.relaid (es.map (·.1)) wanted|unsupported "internal:set-table-without-room"
   let es':=order.filterMap (es[·]?)
   if es'.size !=es.size then unsupported "internal:set-table-lost-an-element"
   pure (es',t):Sem (Array (Int×Value)×SetTable))
  storeSet a es t):=rfl
theorem mJ_ {S:Addr}{led:Bool}{es:Array (Int×Value)} (hS:ky_ s.heap S led es) (en:Ent prog w s.heap es) {k:List Int}{x:Addr} (hx:IsTupleKey (intKind prog w) s.heap k x)
  (hu:A.units<cLine) (h64:es.size<64) {Q:Bool→Shared→Prop}
  (h:∀b h' es',Heap.SameBut S s.heap h'→ky_ h' S led es'→Ent prog w h' es'→
   (mP_ prog w s.heap es k∧es'=es∨¬mP_ prog w s.heap es k∧es'.size=es.size+1∧∀v,(∃i:Nat,es'[i]? =some v)↔(∃i:Nat,es[i]? =some v)∨v=(tupleKeyHash (intKind prog w) k, .ref x))→Q b {s with heap:=h'}):
  wpAny (model prog w) A (setAddHashed S (.ref x) (tupleKeyHash (intKind prog w) k)) Q E s:=by
 have hS0:=hS
 obtain⟨ep,t,ho,b,hl,hp,hr⟩:=hS
 have hs:es.size≤t.mask:=by omega
 have hf:=c5_ b hs
 unfold setAddHashed setAddHashedIn
 refine wpAny_holding (wpAny_bind (wpAny_setState_of ho rfl hf ?_))
 dsimp only
 have hsc:byScan (.ref x) es=false:=by unfold byScan;simp [Value.scannable]
 rw [hsc]
 simp only [Bool.false_eq_true,if_false]
 unfold setSearch
 obtain⟨e,he,hn⟩:=b.free hs
 obtain⟨n1,h1,h2,h3⟩:=pf_ b.mask (tupleKeyHash (intKind prog w) k) 0 he
 have ht:10*turns t.mask<100000:=by
  unfold turns
  rcases b.mask with e|e|e<;>rw [e]<;>decide
 refine wpAny_bind (eZ_ ho rfl b hs hu en hx (fun hk=> ?_) (fun n ha hb hno=> ?_) 100000 0 none ⟨n1,h1,by omega,by rw [h3];exact hn⟩ (fun j hj=>absurd hj (by omega)) rfl)
 ·exact wpAny_pure (h false s.heap es (Heap.SameBut.refl _ _) hS0 en (.inl ⟨hk,rfl⟩))
 ·dsimp only
  refine wpAny_bind (wpAny_setState_of ho rfl hf ?_)
  dsimp only
  have T1:=b.add (tupleKeyHash (intKind prog w) k) (.ref x) n ha (ni_ _ _ _) hb
  have hpl:below t.place (sl t.mask (tupleKeyHash (intKind prog w) k) n)≤es.size:=by rw [←b.size];exact(dx_ b.ris _).1
  have put:=lm_ t b.dum (sl t.mask (tupleKeyHash (intKind prog w) k) n)
  rw [put] at T1⊢
  dsimp only at T1⊢
  rw [if_pos hp]
  refine wpAny_bind (hP_ hx ?_)
  simp only [if_true]
  generalize hpp:below t.place (sl t.mask (tupleKeyHash (intKind prog w) k) n)=p at T1 hpl⊢
  generalize htt:({t with place:=insertAt t.place p (sl t.mask (tupleKeyHash (intKind prog w) k) n)}:SetTable)=t1 at T1⊢
  have tm:t1.mask=t.mask:=by rw [←htt]
  have tl:t1.led=led:=by rw [←htt];exact hl
  have tp:t1.plain=true:=by rw [←htt];exact hp
  have z1:(insertAt es p (tupleKeyHash (intKind prog w) k,Value.ref x)).size=es.size+1:=bq_ hpl _
  have hsl:sizeLine≥4096:=by rw [sizeLine_eq];decide
  refine wpAny_bind (wpAny_storeSet_of ho rfl ?_ (by rw [z1];omega))
  have ho1:=(g4_ ho (insertAt es p (tupleKeyHash (intKind prog w) k,Value.ref x)) t1)
  have sb1:=Heap.SameBut.update s.heap S (Obj.putSet (insertAt es p (tupleKeyHash (intKind prog w) k,Value.ref x)) t1)
  generalize s.heap.update S (Obj.putSet (insertAt es p (tupleKeyHash (intKind prog w) k,Value.ref x)) t1)=h1 at ho1 sb1⊢
  have s1:t1.place.size=es.size+1:=by rw [T1.size,z1]
  have fl:t1.fill=es.size+1:=by unfold SetTable.fill;rw [T1.dum,s1];rfl
  have hk1:∀k x,IsTupleKey (intKind prog w) s.heap k x↔IsTupleKey (intKind prog w) h1 k x:=fun k x=>lu_ sb1 ho rfl ho1 rfl k x
  have en1:=en.insert hk1 hpl hx hno
  by_cases full:t1.tooFull=true
  ·rw [full]
   simp only [Bool.not_false,Bool.and_self,if_true]
   have fe:(es.size+1)*5≥t.mask*3:=by
    unfold SetTable.tooFull at full
    rw [fl,tm] at full
    simpa using full
   have hm:(t1.mask=7∧(insertAt es p (tupleKeyHash (intKind prog w) k,Value.ref x)).size=5)∨(t1.mask=31∧(insertAt es p (tupleKeyHash (intKind prog w) k,Value.ref x)).size=19):=by
    rw [z1,tm]
    rcases b.mask with e|e|e<;>omega
   obtain⟨pl,od,r1,r2,r3,r4,r5,r6,r7,r8⟩:=Tb.again hm
   rw [←z1,kM_]
   have hf1:t1.fits (insertAt es p (tupleKeyHash (intKind prog w) k,Value.ref x)).size=true:=c5_ T1 (by rcases hm with⟨e1,e2⟩|⟨e1,e2⟩<;>omega)
   refine wpAny_bind ?_
   refine wpAny_bind (wpAny_setState_of (s:={s with heap:=h1}) ho1 rfl hf1 ?_)
   dsimp only
   rw [if_neg (by omega)]
   rw [r1]
   dsimp only
   rw [show((od.filterMap ((insertAt es p (tupleKeyHash (intKind prog w) k,Value.ref x))[·]?)).size !=(insertAt es p (tupleKeyHash (intKind prog w) k,Value.ref x)).size)=false from by rw [r3];simp]
   simp only [Bool.false_eq_true,if_false]
   refine wpAny_bind (wpAny_pure ?_)
   refine wpAny_storeSet_of (s:={s with heap:=h1}) ho1 rfl ?_ (by rw [r3,z1];omega)
   have ho2:=(g4_ ho1 (od.filterMap ((insertAt es p (tupleKeyHash (intKind prog w) k,Value.ref x))[·]?)) {mask:=sizeAbove (grown (insertAt es p (tupleKeyHash (intKind prog w) k,Value.ref x)).size)-1,place:=pl,dummies:= #[],finger:=t1.finger,led:=t1.led,moves:=t1.movedTo (sizeAbove (grown (insertAt es p (tupleKeyHash (intKind prog w) k,Value.ref x)).size)-1),plain:=t1.plain})
   have sb2:=Heap.SameBut.update h1 S (Obj.putSet (od.filterMap ((insertAt es p (tupleKeyHash (intKind prog w) k,Value.ref x))[·]?)) {mask:=sizeAbove (grown (insertAt es p (tupleKeyHash (intKind prog w) k,Value.ref x)).size)-1,place:=pl,dummies:= #[],finger:=t1.finger,led:=t1.led,moves:=t1.movedTo (sizeAbove (grown (insertAt es p (tupleKeyHash (intKind prog w) k,Value.ref x)).size)-1),plain:=t1.plain})
   dsimp only at ho2 sb2⊢
   generalize h1.update S _=h2 at ho2 sb2⊢
   have hk2:∀k x,IsTupleKey (intKind prog w) h1 k x↔IsTupleKey (intKind prog w) h2 k x:=fun k x=>lu_ sb2 ho1 rfl ho2 rfl k x
   refine wpAny_pure (h true h2 _ (sb1.trans sb2) ⟨_,_,ho2,r2,tl,tp,by rw [r3];exact r7⟩ (en1.perm hk2 (fun i=>od.getD i 0) (fun i hi=> ?_) fun i j hi hj e=>r5 i j (by rw [←r3];exact hi) (by rw [←r3];exact hj) e) (.inr ⟨hno,by rw [r3,z1],fun v=> ?_⟩))
   ·rw [r3] at hi
    obtain⟨q,q1,q2,q3⟩:=r4 i hi
    rw [←q3]
    exact⟨q1,q2⟩
   ·rw [←j7_ hpl]
    constructor
    ·rintro⟨i,e⟩
     obtain⟨q,q1,q2,q3⟩:=r4 i (by rw [←r3];exact c2_ e)
     exact⟨q,by rw [←q2];exact e⟩
    ·rintro⟨i,e⟩
     obtain⟨i',hi',e'⟩:=r6 i (c2_ e)
     obtain⟨q,q1,q2,q3⟩:=r4 i' hi'
     exact⟨i',by rw [q2,q3,e'];exact e⟩
  ·rw [show t1.tooFull=false from by simpa using full]
   simp only [Bool.not_false,Bool.and_false,Bool.false_eq_true,if_false]
   have fe:(es.size+1)*5<t1.mask*3:=by
    unfold SetTable.tooFull at full
    rw [fl] at full
    simpa using full
   exact wpAny_pure (h true h1 _ sb1 ⟨_,_,ho1,T1,tl,tp,by rw [z1];exact fe⟩ en1 (.inr ⟨hno,z1,fun v=>j7_ hpl _ _⟩))
end
end L2
namespace L2
open PySem PySem.SetTable PySem.Spec PyProof.Rows
section
variable {prog:Program}{w:World}{A:Around}{E:Value→Shared→Prop}{s:Shared}
theorem Ent.mv {h h':Heap}{es:Array (Int×Value)} (en:Ent prog w h es) (hk:∀(i:Nat) (k:List Int) (g:Int) (x:Addr),es[i]? =some (g,Value.ref x)→IsTupleKey (intKind prog w) h k x→IsTupleKey (intKind prog w) h' k x):Ent prog w h' es:=by
 refine⟨fun i hi=> ?_,fun i j k b c g g' e1 e2 k1 k2=> ?_⟩
 ·obtain⟨k,b,e,q⟩:=en.ent i hi
  exact⟨k,b,e,hk i k _ b e q⟩
 ·obtain⟨k',b',e1',q1⟩:=en.ent i (c2_ e1)
  obtain⟨k'',b'',e2',q2⟩:=en.ent j (c2_ e2)
  rw [e1] at e1'
  rw [e2] at e2'
  simp only [Option.some.injEq,Prod.mk.injEq,Value.ref.injEq] at e1' e2'
  obtain⟨rfl,rfl⟩:=e1'
  obtain⟨rfl,rfl⟩:=e2'
  have:=k1.inj (hk i k' _ b e1 q1)
  subst this
  have:=k2.inj (hk j k'' _ c e2 q2)
  subst this
  exact en.dis i j _ _ _ _ _ e1 e2 q1 q2
structure Made (prog:Program) (w:World) (kk:Nat→List Int) (ad:Nat→Addr) (i:Nat) (es:Array (Int×Value)):Prop where
 size:es.size≤i
 from_:∀(p:Nat) (v:Int×Value),es[p]? =some v→∃j,j<i∧v=(tupleKeyHash (intKind prog w) (kk j),Value.ref (ad j))
 all:∀j,j<i→∃(p j':Nat),j'<i∧kk j'=kk j∧es[p]? =some (tupleKeyHash (intKind prog w) (kk j'),Value.ref (ad j'))
theorem Made.step {kk:Nat→List Int}{ad:Nat→Addr}{i:Nat}{es es':Array (Int×Value)}{h:Heap} (m:Made prog w kk ad i es) (en:Ent prog w h es) (hkk:∀j,j≤i→IsTupleKey (intKind prog w) h (kk j) (ad j))
  (c:mP_ prog w h es (kk i)∧es'=es∨¬mP_ prog w h es (kk i)∧es'.size=es.size+1∧∀v,(∃p:Nat,es'[p]? =some v)↔(∃p:Nat,es[p]? =some v)∨v=(tupleKeyHash (intKind prog w) (kk i), .ref (ad i))):
  Made prog w kk ad (i+1) es':=by
 rcases c with⟨⟨p,b,e,q⟩,rfl⟩|⟨_,z,mem⟩
 ·refine⟨Nat.le_succ_of_le m.size,fun p v e=> ?_,fun j hj=> ?_⟩
  ·obtain⟨j,hj,ev⟩:=m.from_ p v e
   exact⟨j,by omega,ev⟩
  ·by_cases c:j<i
   ·obtain⟨p,j',hj',ek,ev⟩:=m.all j c
    exact⟨p,j',by omega,ek,ev⟩
   ·have:j=i:=by omega
    subst this
    obtain⟨j',hj',ev⟩:=m.from_ p _ e
    simp only [Prod.mk.injEq,Value.ref.injEq] at ev
    obtain⟨_,rfl⟩:=ev
    have:=q.inj (hkk j' (by omega))
    exact⟨p,j',by omega,this.symm,by rw [e,this]⟩
 ·refine⟨by rw [z];have:=m.size;omega,fun p v e=> ?_,fun j hj=> ?_⟩
  ·rcases(mem v).mp ⟨p,e⟩ with⟨p',e'⟩|e'
   ·obtain⟨j,hj,ev⟩:=m.from_ p' v e'
    exact⟨j,by omega,ev⟩
   ·exact⟨i,by omega,e'⟩
  ·by_cases c:j<i
   ·obtain⟨p,j',hj',ek,ev⟩:=m.all j c
    obtain⟨p',e'⟩:=(mem _).mpr (.inl ⟨p,ev⟩)
    exact⟨p',j',by omega,ek,e'⟩
   ·have:j=i:=by omega
    subst this
    obtain⟨p',e'⟩:=(mem _).mpr (.inr rfl)
    exact⟨p',j,by omega,rfl,e'⟩
theorem ky_.mv {h h':Heap}{S:Addr}{led:Bool}{es:Array (Int×Value)} (a:ky_ h S led es) (e:∀o,h.get? S=some o→h'.get? S=some o):ky_ h' S led es:=by
 obtain⟨ep,t,ho,r⟩:=a
 exact⟨ep,t,e _ ho,r⟩
theorem gK_ {h h':Heap}{k:List Int}{x:Addr} (q:IsTupleKey (intKind prog w) h k x) (e:∀o,h.get? x=some o→h'.get? x=some o):IsTupleKey (intKind prog w) h' k x:=by
 obtain⟨o,items,n,ho,r⟩:=q
 exact⟨o,items,n,e _ ho,r⟩
theorem kB_ {R:Result→Shared→Prop}{I:Addr}{fp wr:List Addr}{G:Array GenState→Array GenState→Prop}{n:Nat}{P:Nat→Value→Prop}{St:Nat→Shared→Prop}
  (W:WalksS prog w A.in1 I fp wr G n P St) (S:Addr) (hSf:S∉fp) (hu:A.in1.units<cLine) (led:Bool)
  (kk:Nat→List Int) (ad:Nat→Addr) (hval:∀i v,P i v→v= .ref (ad i)) (hwr:∀i,i<n→ad i∉wr) (hb:n<64):
  ∀(k i:Nat) (s:Shared) (es:Array (Int×Value)),n-i=k→i≤n→St i s→ky_ s.heap S led es→Ent prog w s.heap es→Made prog w kk ad i es→(∀j,j<n→IsTupleKey (intKind prog w) s.heap (kk j) (ad j))→
   (∀s' es',Moved (S::wr) G s s'→ky_ s'.heap S led es'→Ent prog w s'.heap es'→Made prog w kk ad n es'→R (.ok (.ret .none)) s')→
   codeAny (model prog w) A (.builtin "set.update.loop" ⟨[.ref S, .ref I],[]⟩) R s:=by
 have hSw:S∉wr:=fun h=>hSf (W.sub _ h)
 have hsub:∀b∈wr,b∈S::wr:=fun b hb=>List.mem_cons_of_mem _ hb
 intro k
 induction k with
 |zero=>
  intro i s es hk hi hst hS en mk hkk hR
  have hin:i=n:=by omega
  subst hin
  refine codeAny_builtin F.entry_set_update_loop ?_
  rw [Around.under_plainId F.plain_set_update_loop _]
  show wpAny _ A.in1 (pyNext (.ref I)>>=_) _ _ s
  refine wpAny_bind (W.done s _ _ hst fun s' hm=> ?_)
  show wpAny _ A.in1 (ret Value.none) _ _ s'
  refine wpAny_pure (hR s' es (hm.mono hsub) (hS.mv fun o e=>hm.heap S o hSw e) (en.mv fun p k g x e q=>gK_ q fun o e'=> ?_) mk)
  obtain⟨j,hj,ev⟩:=mk.from_ p _ e
  simp only [Prod.mk.injEq,Value.ref.injEq] at ev
  obtain⟨_,rfl⟩:=ev
  exact hm.heap _ o (hwr j hj) e'
 |succ k ih=>
  intro i s es hk hi hst hS en mk hkk hR
  have hlt:i<n:=by omega
  refine codeAny_builtin F.entry_set_update_loop ?_
  rw [Around.under_plainId F.plain_set_update_loop _]
  show wpAny _ A.in1 (pyNext (.ref I)>>=_) _ _ s
  refine wpAny_bind (W.item i s _ _ hlt hst fun v s' hP hst' hm=> ?_)
  obtain rfl:=hval i v hP
  have hS':ky_ s'.heap S led es:=hS.mv fun o e=>hm.heap S o hSw e
  have hkk':∀j,j<n→IsTupleKey (intKind prog w) s'.heap (kk j) (ad j):=fun j hj=>gK_ (hkk j hj) fun o e=>hm.heap _ o (hwr j hj) e
  have en':Ent prog w s'.heap es:=en.mv fun p k g x e q=>gK_ q fun o e'=>by
   obtain⟨j,hj,ev⟩:=mk.from_ p _ e
   simp only [Prod.mk.injEq,Value.ref.injEq] at ev
   obtain⟨_,rfl⟩:=ev
   exact hm.heap _ o (hwr j (by omega)) e'
  show wpAny _ A.in1 (holding [Value.ref (ad i)] (setAdd S (.ref (ad i)))>>=_) _ _ s'
  refine wpAny_bind (wpAny_holding ?_)
  unfold setAdd
  refine wpAny_holding ?_
  refine wpAny_bind (wpAny_pyHash_tuple hu (hkk' i hlt) ?_)
  refine mJ_ (s:={s' with toks:=s'.toks+((kk i).length+1)}) hS' en' (hkk' i hlt) hu (by have:=mk.size;omega) fun b h' es' hsb hS2 en2 c=> ?_
  have hkS:∀j,j<n→ad j≠S:=by
   intro j hj e
   obtain⟨o,items,m,ho,_,hd,_⟩:=hkk' j hj
   obtain⟨ep,t,ho',_⟩:=hS'
   rw [e,ho',Option.some.injEq] at ho
   subst ho
   exact nomatch hd
  refine wpAny_pure ⟨plainId_quiet F.plain_set_update_loop _,ih (i+1) _ es' (by omega) hlt (W.frame _ s' _ _ hst' (Nat.le_add_right _ _) fun b hb o e=> ?_) hS2 en2 (mk.step en' (fun j hj=>hkk' j (by omega)) c) (fun j hj=>gK_ (hkk' j hj) fun o e=> ?_) fun s'' es'' hm'' hS'' en'' mk''=> ?_⟩
  ·rw [hsb.2 b (fun h:b=S=>hSf (by rw [←h];exact hb))];exact e
  ·show h'.get? _=_
   rw [hsb.2 _ (hkS j hj)];exact e
  ·refine hR s'' es'' (Moved.trans W.gtrans ((hm.mono hsub).then_heap (Nat.le_add_right _ _) fun b o hb e=> ?_) hm'') hS'' en'' mk''
   rw [hsb.2 b (fun h:b=S=>hb (by rw [h];exact List.mem_cons_self))];exact e
theorem ml_ (a:Value) {Q₁:Value→Shared→Prop}
  (h:Q₁ (.ref s.heap.objs.size) {s with heap:=s.heap.push {cls:= .type "set",dict:=none,data:= .set #[] 0 (.fresh 0 0 (!w.params.followText "set-order"))}}):
  codeAny (model prog w) A (.call (.builtin "set.__new__") ⟨[.type "set",a],[]⟩) (wants Q₁ E) s:=by
 refine codeAny_of_tree ?_
 show wpAny _ A.in1 (do checkBuiltinCall "set.__new__" ⟨[.type "set",a],[]⟩;again (.builtin "set.__new__" ⟨[.type "set",a],[]⟩)) _ _ s
 refine wpAny_bind (wpAny_of_eq (F.newCall_set_1 a) (wpAny_pure ⟨plainId_quiet F.plain_set_new _,codeAny_builtin F.entry_set_new ?_⟩))
 rw [Around.under_plainId F.plain_set_new _]
 unfold Builtin.«set.__new__» Builtin.Frozenset.newClass
 have hsub:=sub_set_self
 obtain⟨hp,g,d,tk,os⟩:=s
 dsimp only
 wp_walk
 refine wpAny_askSetting (wpAny_pure ?_)
 dsimp only
 simp only [newObj]
 refine wpAny_bind (wpAny_alloc (wpAny_pure ?_))
 exact wpAny_pure h
theorem le_ (led:Bool):Tb (.fresh 0 0 led) #[]:=
 ⟨.inl rfl,rfl,rfl,fun i j _ h=>absurd h (by show¬j<0;omega),fun i h=>absurd h (by show¬i<0;omega),fun i h=>absurd h (by show¬i<0;omega)⟩
set_option maxHeartbeats 3200000 in
theorem gT_ {l:Addr}{items:Array Value}{kk:Nat→List Int}{ad:Nat→Addr}{Q:Value→Shared→Prop}
  (hh:A.handled=none) (hu:A.units+8<cLine) (hl:s.heap.IsList l items) (hn:items.size<64)
  (hk:∀i,i<items.size→items[i]? =some (.ref (ad i))∧IsTupleKey (intKind prog w) s.heap (kk i) (ad i))
  (h:∀(h':Heap) (tk:Nat) (es:Array (Int×Value)),ky_ h' s.heap.objs.size (!w.params.followText "set-order") es→Ent prog w h' es→Made prog w kk ad items.size es→
   (∀b o,b<s.heap.objs.size→s.heap.get? b=some o→h'.get? b=some o)→Q (.ref s.heap.objs.size) {s with heap:=h',toks:=tk}):
  wpAny (model prog w) A (call (.type "set") [.ref l]) Q E s:=by
 obtain⟨c,tl,hmro⟩:=F.called_set.mro
 have hmade:=F.called_set.made
 have hsub:=F.called_set.sub
 refine wpAny_call (codeAny_of_tree ?_)
 show wpAny _ _ (callAny (.type "set") _) _ _ _
 refine wpAny_pure ⟨Code.quiet_builtin _ (by decide+kernel),codeAny_builtin F.entry_type_call ?_⟩
 rw [Around.under_plain (weight_type_call_type "set" [.ref l] []) rfl]
 have h1:=F.called_set.notType
 have h2:=F.called_set.canCreate
 have hct:=F.typeCall_set_1 (.ref l)
 repeat (any_goals (first|assumption|wp_step))
 refine codeAny_mono (ml_ (.ref l) (E:=E) (Q₁:=fun obj s₁=>obj= .ref s.heap.objs.size∧s₁={s with heap:=s.heap.push {cls:= .type "set",dict:=none,data:= .set #[] 0 (.fresh 0 0 (!w.params.followText "set-order"))}}) ⟨rfl,rfl⟩) fun r s₁ hr=> ?_
 generalize (!w.params.followText "set-order")=led at h hr
 cases r with
 |error e=>exact hr
 |ok fl=>
  cases fl with
  |ret obj=>
   obtain⟨rfl,rfl⟩:=hr
   have hS:(s.heap.push {cls:= .type "set",dict:=none,data:= .set #[] 0 (.fresh 0 0 led)}).get? s.heap.objs.size=some {cls:= .type "set",dict:=none,data:= .set #[] 0 (.fresh 0 0 led)}:=Heap.get?_push_size _ rfl
   have hT:Shared.TypeIs {s with heap:=s.heap.push {cls:= .type "set",dict:=none,data:= .set #[] 0 (.fresh 0 0 led)}} (.ref s.heap.objs.size) "set":=⟨_,hS,rfl⟩
   have hli:=F.called_set.init.lookup
   have hbi:=F.called_set.init.bind (.ref s.heap.objs.size)
   repeat (any_goals (first|assumption|wp_step))
   refine codeAny_mono (codeAny_call_builtin (R:=wants (fun r s₂=>r= .none∧∃h' tk es,s₂={s with heap:=h',toks:=tk}∧
     ky_ h' s.heap.objs.size led es∧Ent prog w h' es∧Made prog w kk ad items.size es∧
     (∀b o,b<s.heap.objs.size→s.heap.get? b=some o→h'.get? b=some o)) E) F.called_set.init.plain F.entry_set_init (check_set_init_1 hT ?_)) fun r₂ s₂ hr₂=> ?_
   ·obtain⟨ol,hol,hcl,nl,hdl⟩:=hl
    obtain⟨ocls,odict,odata,oslots⟩:=ol
    simp only at hcl hdl
    subst hcl;subst hdl
    have hol':(s.heap.push {cls:= .type "set",dict:=none,data:= .set #[] 0 (.fresh 0 0 led)}).get? l=some {cls:= .type "list",dict:=odict,data:= .seq items nl,slots:=oslots}:=Heap.get?_push_of_some _ hol
    have hsls:=F.sub_list_set
    have hslf:=F.sub_list_frozenset
    have hne:(Value.type "list"==Value.type "dict")=false:=by decide
    have hl1:(s.heap.push {cls:= .type "set",dict:=none,data:= .set #[] 0 (.fresh 0 0 led)}).IsList l items:=⟨_,hol',rfl,nl,rfl⟩
    unfold Builtin.«set.__init__» noKeywords Builtin.Frozenset.updateFrom
    generalize hPI:pyIter=PI
    wp_walk
    subst hPI
    refine wpAny_pyIter_list hl1 ?_
    refine wpAny_bind (wpAny_runValue ?_)
    have hlS:l<s.heap.objs.size:=Heap.lt_size hol
    have hh3:A.in1.in1.in1.handled=none:=by simp [hh]
    have hneI:l≠(s.heap.push {cls:= .type "set",dict:=none,data:= .set #[] 0 (.fresh 0 0 led)}).objs.size:=by
     rw [Heap.size_push];exact Nat.ne_of_lt (Nat.lt_succ_of_lt hlS)
    have hSf:s.heap.objs.size∉[(s.heap.push {cls:= .type "set",dict:=none,data:= .set #[] 0 (.fresh 0 0 led)}).objs.size,l]:=by
     rw [Heap.size_push];simp only [List.mem_cons,List.mem_singleton,List.not_mem_nil,or_false,not_or]
     exact⟨Nat.ne_of_lt (Nat.lt_succ_self _),Nat.ne_of_gt hlS⟩
    refine kB_ ((Walks.list hh3 _ l hneI items).toS) s.heap.objs.size
     hSf ?hu led kk ad ?hval ?hwr hn (items.size-0) 0 _ #[] (by omega) (Nat.zero_le _)
     ⟨⟨_,Heap.get?_push_size _ rfl,rfl,rfl⟩,(hl1.push _)⟩ ?hS0 ?hE0 ?hM0 ?hkk ?hR
    case hu=>show A.units+3<cLine;omega
    case hval=>
     intro i v hv
     have hi:i<items.size:=c2_ hv
     rw [(hk i hi).1,Option.some.injEq] at hv
     exact hv.symm
    case hwr=>
     intro i hi
     obtain⟨o,_,_,ho,_⟩:=(hk i hi).2
     have:=Heap.lt_size ho
     rw [Heap.size_push]
     simp only [List.mem_cons,List.not_mem_nil,or_false]
     exact Nat.ne_of_lt (Nat.lt_succ_of_lt this)
    case hS0=>exact⟨_,_,Heap.get?_push_of_some _ hS,le_ led,rfl,rfl,by show 0*5<7*3;decide⟩
    case hE0=>exact⟨fun i hi=>absurd hi (by show¬i<0;omega),fun i j k b c g g' e=>by simp at e⟩
    case hM0=>exact⟨Nat.le_refl 0,fun p v e=>by simp at e,fun j hj=>absurd hj (by omega)⟩
    case hkk=>exact fun j hj=>gK_ (hk j hj).2 fun o e=>Heap.get?_push_of_some _ (Heap.get?_push_of_some _ e)
    case hR=>
     intro s' es' hm hS' en' mk'
     obtain⟨h',g',d',tk',os'⟩:=s'
     have eg:g'=s.gens:=hm.gens
     have ed:d'=s.drawn:=hm.drawn
     have eo:os'=s.os:=hm.os
     subst eg;subst ed;subst eo
     show wpAny _ _ _ _ _ _
     refine wpAny_pure ?_
     show wpAny _ _ (ret Value.none) _ _ _
     refine wpAny_pure ⟨rfl,h',tk',es',rfl,hS',en',mk',fun b o hb e=> ?_⟩
     have hb1:b≠s.heap.objs.size:=Nat.ne_of_lt hb
     have hb2:b≠(s.heap.push {cls:= .type "set",dict:=none,data:= .set #[] 0 (.fresh 0 0 led)}).objs.size:=by
      rw [Heap.size_push];exact Nat.ne_of_lt (Nat.lt_succ_of_lt hb)
     exact hm.heap b o (by simp only [List.mem_cons,List.mem_singleton,List.not_mem_nil,or_false,not_or];exact⟨hb1,hb2⟩) (Heap.get?_push_of_some _ (Heap.get?_push_of_some _ e))
   ·cases r₂ with
    |error e=>exact hr₂
    |ok fl₂=>
     cases fl₂ with
     |ret r=>
      obtain⟨rfl,h',tk,es,rfl,hS',en',mk',hk'⟩:=hr₂
      repeat (any_goals (first|assumption|wp_step))
      exact h _ _ _ hS' en' mk' hk'
     |_=>exact hr₂.elim
  |_=>exact hr.elim
end
end L2
namespace L2
open PySem PySem.SetTable PySem.Spec PyProof.Rows
theorem eI_:entryFor table "set.__iter__"=some Builtin.«frozenset.__iter__»:=
 entryFor_alias (id':="frozenset.__iter__") (by kernel_rfl) rfl (by decide+kernel) (by kernel_rfl)
theorem cX_:Slot "set_iterator" "__iter__" "set_iterator.__iter__":=
 .of (owner:="set_iterator") (n:="__iter__") (by rw [typeLookup_type,builtinLookup_eq_fast];kernel_rfl) (by decide+kernel) (by decide+kernel) (by decide+kernel)
  (by first|exact .inl (by decide+kernel)|exact .inr (by decide+kernel)) (by rw [isSubtype_type];kernel_rfl)
theorem eH_:entryFor table "set_iterator.__iter__"=some Builtin.«dict_keyiterator.__iter__»:=
 entryFor_alias (id':="dict_keyiterator.__iter__") (by kernel_rfl) rfl (by decide+kernel) (by kernel_rfl)
theorem eV_ (a:Value):argsOk "set_iterator.__iter__" ⟨[a],[]⟩:=by unfold argsOk;kernel_rfl
theorem aW_:Slot "set_iterator" "__next__" "set_iterator.__next__":=
 .of (owner:="set_iterator") (n:="__next__") (by rw [typeLookup_type,builtinLookup_eq_fast];kernel_rfl) (by decide+kernel) (by decide+kernel) (by decide+kernel)
  (by first|exact .inl (by decide+kernel)|exact .inr (by decide+kernel)) (by rw [isSubtype_type];kernel_rfl)
theorem cN_:entryFor table "set_iterator.__next__"=some Builtin.«set_iterator.__next__»:=entryFor_of_tree (by kernel_rfl)
theorem c4_ (a:Value):argsOk "set_iterator.__next__" ⟨[a],[]⟩:=by unfold argsOk;kernel_rfl
theorem kf_ {α:Type}:∀(l:List α) (i:Nat) (h:i<l.length),([l[i]]++l.eraseIdx i).Perm l
 |[],i,h=>absurd h (by simp)
 |a::l,0,h=>by simp
 |a::l,i+1,h=>by
  have hi:i<l.length:=by simpa using h
  have:=kf_ l i hi
  simp only [List.getElem_cons_succ,List.eraseIdx_cons_succ,List.singleton_append] at this⊢
  exact(List.Perm.swap a l[i] _).trans (this.cons a)
theorem js_ {α:Type} (next:Nat→Nat):∀(f k:Nat) (left:List α) (out:Array α),left.length=f→(pickOrder.go next f k left out).toList.Perm (out.toList++left)
 |0,k,left,out,e=>by
  have:left=[]:=List.length_eq_zero_iff.mp e
  subst this
  unfold pickOrder.go
  simp
 |f+1,k,left,out,e=>by
  have hp:next k%left.length<left.length:=Nat.mod_lt _ (by omega)
  unfold pickOrder.go
  rw [List.getElem?_eq_getElem hp]
  dsimp only
  refine(js_ next f (k+1) _ _ (by rw [List.length_eraseIdx_of_lt hp];omega)).trans ?_
  rw [Array.toList_push,List.append_assoc]
  refine List.Perm.append_left _ ?_
  exact kf_ left _ hp
theorem jr_ {α:Type} (next:Nat→Nat) (xs:Array α):(pickOrder next xs).toList.Perm xs.toList:=by
 unfold pickOrder
 simpa using js_ next xs.size 0 xs.toList #[] (by simp)
def kz_ (w:World) (a:Addr) (ep:Nat) (es:Array (Int×Value)):Array (Int×Value):=if w.params.followText "set-order" then pickOrder (w.params.setOrder a ep) es else es
theorem i3_ (w:World) (a:Addr) (ep:Nat) (es:Array (Int×Value)):(kz_ w a ep es).toList.Perm es.toList:=by
 unfold kz_
 split
 ·exact jr_ _ _
 ·exact List.Perm.refl _
theorem ha_ (w:World) (a:Addr) (ep:Nat) (es:Array (Int×Value)):(kz_ w a ep es).size=es.size:=by
 have:=(i3_ w a ep es).length_eq
 simpa using this
def eN_ (w:World) (t:SetTable) (i:Nat):Nat:=if w.params.followText "set-order" then 0 else if i=0 then 0 else t.place.getD (i-1) 0+1
theorem g0_ {xs:Array Nat} (r:Ris xs) {j p:Nat} (hp:p≤xs.size) (h1:∀i,i<p→xs.getD i 0<j) (h2:∀i,p≤i→i<xs.size→j≤xs.getD i 0):below xs j=p:=by
 obtain⟨a1,a2,a3⟩:=dx_ r j
 rcases Nat.lt_trichotomy (below xs j) p with c|c|c
 ·have:=h1 _ c
  have:=a3 _ (Nat.le_refl _) (by omega)
  omega
 ·exact c
 ·have:=a2 _ c
  have:=h2 p (Nat.le_refl _) (by omega)
  omega
theorem lj_ {t:SetTable} (r:Ris t.place) {i:Nat} (hi:i≤t.place.size):below t.place (if i=0 then 0 else t.place.getD (i-1) 0+1)=i:=by
 by_cases z:i=0
 ·subst z
  exact g0_ r (Nat.zero_le _) (fun i h=>absurd h (by omega)) fun i _ _=>Nat.zero_le _
 ·rw [if_neg z]
  refine g0_ r hi (fun j hj=> ?_) fun j h1 h2=> ?_
  ·rcases Nat.lt_or_ge j (i-1) with c|c
   ·have:=r j (i-1) c (by omega);omega
   ·have:j=i-1:=by omega
    subst this;omega
  ·have:=r (i-1) j (by omega) h2;omega
section
variable {prog:Program}{w:World}{A:Around}{E:Value→Shared→Prop}{s:Shared}
theorem mk_ (a:Addr) (slot given epochThen:Nat):setNext a slot given epochThen=(do
  let (es,epoch,t)←setState a
  if←setsByText then
   if epoch !=epochThen then unsupported "set_iterator.__next__:elements-changed"
   return ((←setWalk a)[given]?).map fun e=>(e.2,slot)
  if !t.plain&&es.size>1 then unsupported "set_iterator.__next__:the-table-is-plain-no-more"
  (do if !t.led&& !es.isEmpty then unsupported "set:maker-not-led":Sem Unit)
  let i:=SetTable.below t.place slot
  return match es[i]?,t.place[i]? with
   |some (_,x),some j=>some (x,j+1)
   |_,_=>none):=rfl
theorem h1_ {S:Addr}{es:Array (Int×Value)}{ep:Nat}{t:SetTable}{i:Nat}{Q:Option (Value×Nat)→Shared→Prop}
  (ho:s.heap.get? S=some {cls:= .type "set",dict:=none,data:= .set es ep t}) (b:Tb t es) (hs:es.size≤t.mask) (hl:t.led= !w.params.followText "set-order") (hp:t.plain=true) (hi:i≤es.size)
  (h:Q (((kz_ w S ep es)[i]?).map fun e=>(e.2,eN_ w t (i+1))) s):wpAny (model prog w) A (setNext S (eN_ w t i) i ep) Q E s:=by
 have hf:=c5_ b hs
 rw [mk_]
 refine wpAny_bind (wpAny_setState_of ho rfl hf ?_)
 dsimp only
 unfold setsByText
 refine wpAny_bind (wpAny_bind (wpAny_askSetting (wpAny_pure ?_)))
 show wpAny _ _ (if(w.params.followText "set-order")=true then _ else _) _ _ s
 unfold kz_ eN_ at h
 unfold eN_
 cases ht:w.params.followText "set-order" with
 |true=>
  rw [ht] at h
  simp only [if_true] at h⊢
  simp only [bne_self_eq_false,Bool.false_eq_true,if_false]
  unfold setWalk
  refine wpAny_bind (wpAny_bind (wpAny_setState_of ho rfl hf ?_))
  dsimp only
  unfold setsByText
  refine wpAny_bind (wpAny_bind (wpAny_askSetting (wpAny_pure ?_)))
  show wpAny _ _ (if(w.params.followText "set-order")=true then _ else _) _ _ s
  rw [ht]
  simp only [if_true]
  refine wpAny_bind (wpAny_askSetting (wpAny_pure ?_))
  exact wpAny_pure h
 |false=>
  rw [ht] at h hl
  simp only [Bool.false_eq_true,if_false] at h⊢
  rw [hp,hl]
  simp only [Bool.not_true,Bool.not_false,Bool.false_and,Bool.false_eq_true,if_false]
  refine wpAny_bind (wpAny_pure ?_)
  rw [lj_ b.ris (by rw [b.size];exact hi)]
  refine wpAny_pure ?_
  rcases Nat.lt_or_ge i es.size with c|c
  ·have c':i<t.place.size:=by rw [b.size];exact c
   have e2:t.place.getD (i+1-1) 0=t.place[i]:=by simp [Array.getD,c']
   rw [Array.getElem?_eq_getElem c] at h⊢
   rw [Array.getElem?_eq_getElem c']
   rw [if_neg (by omega),e2] at h
   exact h
  ·rw [Array.getElem?_eq_none c] at h⊢
   exact h
def eW_ (h:Heap) (it S:Addr) (slot i n ep:Nat):Prop:=∃o,h.get? it=some o∧o.cls= .type "set_iterator"∧o.data= .fields #[.int slot 0, .int i 0, .ref S, .int n 0, .int ep 0]
theorem eW_.typeIs {it S:Addr}{slot i n ep:Nat} (x:eW_ s.heap it S slot i n ep):s.TypeIs (.ref it) "set_iterator":=let ⟨o,ho,hc,_⟩:=x;⟨o,ho,hc⟩
theorem eW_.mv {h h':Heap}{it S:Addr}{slot i n ep:Nat} (x:eW_ h it S slot i n ep) (e:∀o,h.get? it=some o→h'.get? it=some o):eW_ h' it S slot i n ep:=let ⟨o,ho,r⟩:=x;⟨o,e _ ho,r⟩
theorem k9_ {S:Addr}{es:Array (Int×Value)}{ep:Nat}{t:SetTable}{Q:Value→Shared→Prop}
  (ho:s.heap.get? S=some {cls:= .type "set",dict:=none,data:= .set es ep t}) (b:Tb t es) (hs:es.size≤t.mask) (hp:t.plain=true)
  (h:Q (.ref s.heap.objs.size) {s with heap:=s.heap.push {cls:= .type "set_iterator",data:= .fields #[.int (eN_ w t 0:Nat) 0, .int (0:Nat) 0, .ref S, .int es.size 0, .int ep 0]}}):
  wpAny (model prog w) A (pyIter (.ref S)) Q E s:=by
 have hT:s.TypeIs (.ref S) "set":=⟨_,ho,rfl⟩
 have hf:=c5_ b hs
 refine wpAny_pyIter_slot hT F.slot_set_iter (wpAny_call_entry F.slot_set_iter hT eI_ ?_ (F.args_set_iter_1 _))
 unfold Builtin.«frozenset.__iter__» Builtin.Frozenset.slot0 slotArgs
 simp only [List.isEmpty_nil,Bool.not_true,Bool.false_eq_true,↓reduceIte,bind_assoc,List.length_nil,bne_self_eq_false]
 unfold Builtin.Frozenset.addrOf Builtin.Frozenset.sizeOf setEntries
 refine wpAny_bind (wpAny_pure ?_)
 try dsimp only
 refine wpAny_bind (wpAny_pure ?_)
 refine wpAny_bind (wpAny_bind (wpAny_bind (wpAny_setState_of ho rfl hf (wpAny_pure (wpAny_pure ?_)))))
 have hdr:∀{Q':Bool→Shared→Prop},Q' false s→wpAny (model prog w) A.in1 (setDrawn S) Q' E s:=by
  intro Q' q
  unfold setDrawn
  refine wpAny_bind (wpAny_setState_of ho rfl hf ?_)
  dsimp only
  unfold setsByText
  refine wpAny_bind (wpAny_bind (wpAny_askSetting (wpAny_pure ?_)))
  refine wpAny_pure ?_
  have:(!t.plain&&decide (es.size>1))=false:=by rw [hp];rfl
  show Q' (!w.params.followText "set-order"&&(!t.plain&&decide (es.size>1))) s
  rw [this,Bool.and_false]
  exact q
 refine wpAny_bind (hdr ?_)
 simp only [Bool.false_eq_true,if_false]
 refine wpAny_bind (wpAny_pure ?_)
 refine wpAny_bind (wpAny_setEpoch_of ho rfl hf ?_)
 unfold newFields
 refine wpAny_bind (wpAny_newObj_type (wpAny_pure ⟨_,rfl,"set_iterator",_,⟨_,Heap.get?_push_size _ rfl,rfl⟩,aW_.lookup, ?_⟩))
 have e0:eN_ w t 0=0:=by unfold eN_;split<;>rfl
 rw [e0] at h
 simpa [rawInt] using h
theorem e8_ {h:Heap}{a:Addr}{o:Obj}{vs:Array Value} (ho:h.get? a=some o) (hd:o.data= .fields vs) (f:Array Value→Array Value):
  ∃o',(h.update a (Obj.mapFields f)).get? a=some o'∧o'.cls=o.cls∧o'.data= .fields (f vs):=
 ⟨_,Heap.get?_update_self _ ho (Obj.isFreed_of_fields (Obj.data_mapFields hd _)),Obj.cls_mapFields ..,Obj.data_mapFields hd _⟩
theorem jf_ {it S:Addr}{es:Array (Int×Value)}{ep:Nat}{t:SetTable}{i:Nat}{e:Int×Value}{Q:Option Value→Shared→Prop} (hit:eW_ s.heap it S (eN_ w t i) i es.size ep)
  (ho:s.heap.get? S=some {cls:= .type "set",dict:=none,data:= .set es ep t}) (b:Tb t es) (hs:es.size≤t.mask) (hl:t.led= !w.params.followText "set-order") (hp:t.plain=true) (hi:i<es.size)
  (he:(kz_ w S ep es)[i]? =some e) (hQ:∀h',eW_ h' it S (eN_ w t (i+1)) (i+1) es.size ep→Heap.SameBut it s.heap h'→Q (some e.2) {s with heap:=h'}):
  wpAny (model prog w) A (pyNext (.ref it)) Q E s:=by
 obtain⟨o,hoi,hc,hd⟩:=id hit
 have hf:=c5_ b hs
 unfold pyNext
 refine wpAny_bind (wpAny_attempt (wpAny_callSpecial?_slot (name:=Str.ofString "__next__") hit.typeIs aW_
  (wpAny_call_entry aW_ hit.typeIs cN_ ?_ (c4_ _))))
 show wpAny _ _ (fieldsOf (.ref it)>>=_) _ _ s
 refine wpAny_bind (wpAny_fieldsOf hoi hd ?_)
 dsimp only
 unfold setEntries
 refine wpAny_bind (wpAny_bind (wpAny_setState_of ho rfl hf (wpAny_pure ?_)))
 dsimp only
 rw [if_neg (by simp)]
 simp only [Int.toNat_natCast]
 refine wpAny_bind (h1_ ho b hs hl hp (Nat.le_of_lt hi) ?_)
 rw [he]
 dsimp only [Option.map_some]
 refine wpAny_bind (wpAny_setField hoi hd (by simp) ?_)
 obtain⟨o1,ho1,hc1,hd1⟩:=e8_ hoi hd (·.setIfInBounds 0 (rawInt (eN_ w t (i+1):Nat)))
 have sb1:=Heap.SameBut.update s.heap it (Obj.mapFields (·.setIfInBounds 0 (rawInt (eN_ w t (i+1):Nat))))
 generalize s.heap.update it (Obj.mapFields (·.setIfInBounds 0 (rawInt (eN_ w t (i+1):Nat))))=h1 at ho1 sb1⊢
 refine wpAny_bind (wpAny_setField (s:={s with heap:=h1}) ho1 hd1 (by simp) ?_)
 obtain⟨o2,ho2,hc2,hd2⟩:=e8_ ho1 hd1 (·.setIfInBounds 1 (rawInt ((i:Int)+1)))
 have sb2:=Heap.SameBut.update h1 it (Obj.mapFields (·.setIfInBounds 1 (rawInt ((i:Int)+1))))
 dsimp only
 generalize h1.update it (Obj.mapFields (·.setIfInBounds 1 (rawInt ((i:Int)+1))))=h2 at ho2 sb2⊢
 refine wpAny_pure ⟨_,rfl,wpAny_pure (hQ _ ⟨o2,ho2,by rw [hc2,hc1,hc], ?_⟩ (sb1.trans sb2))⟩
 rw [hd2]
 simp [rawInt]
theorem kG_ {it S:Addr}{es:Array (Int×Value)}{ep:Nat}{t:SetTable}{Q:Option Value→Shared→Prop} (hh:A.handled=none) (hit:eW_ s.heap it S (eN_ w t es.size) es.size es.size ep)
  (ho:s.heap.get? S=some {cls:= .type "set",dict:=none,data:= .set es ep t}) (b:Tb t es) (hs:es.size≤t.mask) (hl:t.led= !w.params.followText "set-order") (hp:t.plain=true)
  (hQ:∀h',Heap.ExtBut it s.heap h'→Q none {s with heap:=h'}):
  wpAny (model prog w) A (pyNext (.ref it)) Q E s:=by
 obtain⟨o,hoi,hc,hd⟩:=id hit
 have hf:=c5_ b hs
 unfold pyNext
 refine wpAny_bind (wpAny_attempt (wpAny_callSpecial?_slot (name:=Str.ofString "__next__") hit.typeIs aW_
  (wpAny_call_entry aW_ hit.typeIs cN_ ?_ (c4_ _))))
 show wpAny _ _ (fieldsOf (.ref it)>>=_) _ _ s
 refine wpAny_bind (wpAny_fieldsOf hoi hd ?_)
 dsimp only
 unfold setEntries
 refine wpAny_bind (wpAny_bind (wpAny_setState_of ho rfl hf (wpAny_pure ?_)))
 dsimp only
 rw [if_neg (by simp)]
 simp only [Int.toNat_natCast]
 refine wpAny_bind (h1_ ho b hs hl hp (Nat.le_refl _) ?_)
 rw [Array.getElem?_eq_none (by rw [ha_];exact Nat.le_refl _)]
 dsimp only [Option.map_none]
 refine wpAny_bind (wpAny_setField hoi hd (by simp) ?_)
 show wpAny _ _ (newExc (.type "StopIteration") []>>=_) _ _ _
 refine wpAny_bind ?_
 simp only [newExc,newTuple]
 refine wpAny_bind (wpAny_newObj_type ?_ (by size_fits))
 refine wpAny_bind (m:=firstArgMember _ _) (wpAny_of_eq (a:=Value.none) (by first|rfl|(simp only [firstArgMember];rfl)) ?_)
 refine wpAny_newObj_type ?_ (by size_fits)
 simp only [raiseNew]
 refine wpAny_bind (wpAny_handled ?_)
 rw [show A.in1.handled=none from hh]
 refine wpAny_bind (wpAny_pure (wpAny_throw ?_))
 refine wpAny_bind (wpAny_isInstance (T:="StopIteration") (b:=true) ⟨_,Heap.get?_push_size _ rfl,rfl⟩ isSubtype_stop ?_)
 exact wpAny_pure (hQ _ (((Heap.SameBut.update ..).extBut.push _).push _))
theorem kA_ (hh:A.handled=none) (I S:Addr) (hne:S≠I) {es:Array (Int×Value)}{ep:Nat}{t:SetTable} (b:Tb t es) (hs:es.size≤t.mask) (hl:t.led= !w.params.followText "set-order") (hp:t.plain=true):
  Walks prog w A I [I,S] [I] es.size (fun i v=>∃e,(kz_ w S ep es)[i]? =some e∧v=e.2) (fun i h=>eW_ h I S (eN_ w t i) i es.size ep∧h.get? S=some {cls:= .type "set",dict:=none,data:= .set es ep t}) where
 sub:=fun b hb=>by simp at hb;simp [hb]
 frame:=fun _ _ _ st hk=>⟨st.1.mv fun o e=>hk I (by simp) o e,hk S (by simp) _ st.2⟩
 item:=fun i s Q E hi st hQ=>by
  have hi':i<(kz_ w S ep es).size:=by rw [ha_];exact hi
  refine jf_ st.1 st.2 b hs hl hp hi (Array.getElem?_eq_getElem hi') fun h' hit' hs'=> ?_
  exact hQ _ h' s.toks ⟨_,Array.getElem?_eq_getElem hi',rfl⟩ ⟨hit',hs'.extBut S _ hne st.2⟩ fun b o hb e=>hs'.extBut b o (fun h=>hb (by simp [h])) e
 done:=fun s Q E st hQ=>kG_ hh st.1 st.2 b hs hl hp fun h' he'=>hQ h' s.toks fun b o hb e=>he' b o (fun h=>hb (by simp [h])) e
 self:=fun _ s _ _ st hQ=>by
  refine wpAny_pyIter_slot st.1.typeIs cX_ (wpAny_call_entry cX_ st.1.typeIs eH_ ?_ (eV_ _))
  show wpAny _ _ (ret (.ref I)) _ _ s
  exact wpAny_pure ⟨_,rfl,"set_iterator",_,st.1.typeIs,aW_.lookup,hQ⟩
end
end L2
namespace L2
open PySem PySem.SetTable PySem.Spec PyProof.Rows PySem.W
section
variable {prog:Program}{w:World}{A:Around}{E:Value→Shared→Prop}{s:Shared}
theorem hM_ {S:Addr}{es:Array (Int×Value)}{ep:Nat}{t:SetTable}{Q:List Value→Shared→Prop} (hh:A.handled=none)
  (ho:s.heap.get? S=some {cls:= .type "set",dict:=none,data:= .set es ep t}) (b:Tb t es) (hs:es.size≤t.mask) (hl:t.led= !w.params.followText "set-order") (hp:t.plain=true)
  (hQ:∀h' tk vs,(∀b o,s.heap.get? b=some o→h'.get? b=some o)→s.heap.objs.size≤h'.objs.size→vs.Perm (es.toList.map (·.2))→Q vs {s with heap:=h',toks:=tk}):
  wpAny (model prog w) A (collect (.ref S)) Q E s:=by
 unfold collect
 refine wpAny_bind (wpAny_runValue (codeAny_builtin F.entry_proto_collect ?_))
 rw [Around.under_plainId F.plain_proto_collect _]
 show wpAny _ A.in1 (newList []>>=fun l=>again (.builtin "list.__iadd__" ⟨[l, .ref S],[]⟩)) _ _ s
 refine wpAny_bind (wpAny_newObj_type ?_)
 refine wpAny_pure ⟨plainId_quiet F.plain_list_iadd _,codeAny_builtin F.entry_list_iadd ?_⟩
 rw [Around.under_plainId F.plain_list_iadd _]
 show wpAny _ A.in1 (Builtin.List.listExtendWith (.ref s.heap.objs.size) (.ref S) (.ref s.heap.objs.size)) _ _ _
 have hS:S<s.heap.objs.size:=Heap.lt_size ho
 have ho1:(s.heap.push {cls:= .type "list",data:= .seq ([]:List Value).toArray}).get? S=some {cls:= .type "set",dict:=none,data:= .set es ep t}:=Heap.get?_push_of_some _ ho
 have hT:Shared.TypeIs {s with heap:=s.heap.push {cls:= .type "list",data:= .seq ([]:List Value).toArray}} (.ref S) "set":=⟨_,ho1,rfl⟩
 unfold Builtin.List.listExtendWith
 refine wpAny_bind (wpAny_typeOf hT ?_)
 have h1:Builtin.List.listSameRef (.ref s.heap.objs.size) (.ref S)=false:=by
  show(s.heap.objs.size==S)=false
  exact beq_eq_false_iff_ne.mpr (Nat.ne_of_gt hS)
 have h2:(Value.type "set"==Value.type "list")=false:=by decide
 have h3:(Value.type "set"==Value.type "tuple")=false:=by decide
 simp only [h1,h2,h3,Bool.or_false,Bool.false_eq_true,if_false]
 refine wpAny_bind (k9_ ho1 b hs hp ?_)
 refine wpAny_bind (wpAny_holding ?_)
 unfold Builtin.List.listLengthHint
 generalize hH:s.heap.push {cls:= .type "list",data:= .seq ([]:List Value).toArray}=H at ho1 hT⊢
 have hHs:H.objs.size=s.heap.objs.size+1:=by rw [←hH,Heap.size_push]
 have hT2:Shared.TypeIs {s with heap:=H.push {cls:= .type "set_iterator",data:= .fields #[.int (eN_ w t 0:Nat) 0, .int (0:Nat) 0, .ref S, .int es.size 0, .int ep 0]}} (.ref S) "set":=⟨_,Heap.get?_push_of_some _ ho1,rfl⟩
 refine wpAny_bind (wpAny_specialOf hT2 F.slot_set_len.lookup ?_)
 wp_delta
 refine wpAny_bind (wpAny_isInstance (b:=true) hT2 (by rw [isSubtype_type];kernel_rfl) ?_)
 show wpAny _ A.in1 (typeOf (.ref S)>>=_) _ _ _
 refine wpAny_bind (wpAny_typeOf hT2 ?_)
 refine wpAny_pure ?_
 rw [if_pos (by decide)]
 refine wpAny_bind (wpAny_rule ?_)
 unfold Builtin.List.listTouch
 have hne:S≠H.objs.size:=by rw [hHs];exact Nat.ne_of_lt (Nat.lt_succ_of_lt hS)
 have hI0:eW_ (H.push {cls:= .type "set_iterator",data:= .fields #[.int (eN_ w t 0:Nat) 0, .int (0:Nat) 0, .ref S, .int es.size 0, .int ep 0]}) H.objs.size S (eN_ w t 0) 0 es.size ep:=⟨_,Heap.get?_push_size _ rfl,rfl,rfl⟩
 have hL:(H.push {cls:= .type "set_iterator",data:= .fields #[.int (eN_ w t 0:Nat) 0, .int (0:Nat) 0, .ref S, .int es.size 0, .int ep 0]}).get? s.heap.objs.size=some (seqObj "list" #[] 0):=Heap.get?_push_of_some _ (hH▸Heap.get?_push_size _ rfl)
 have hS2:(H.push {cls:= .type "set_iterator",data:= .fields #[.int (eN_ w t 0:Nat) 0, .int (0:Nat) 0, .ref S, .int es.size 0, .int ep 0]}).get? S=some {cls:= .type "set",dict:=none,data:= .set es ep t}:=Heap.get?_push_of_some _ ho1
 have hold:∀b o,s.heap.get? b=some o→(H.push {cls:= .type "set_iterator",data:= .fields #[.int (eN_ w t 0:Nat) 0, .int (0:Nat) 0, .ref S, .int es.size 0, .int ep 0]}).get? b=some o:=fun b o e=>Heap.get?_push_of_some _ (hH▸Heap.get?_push_of_some _ e)
 have hsz:(H.push {cls:= .type "set_iterator",data:= .fields #[.int (eN_ w t 0:Nat) 0, .int (0:Nat) 0, .ref S, .int es.size 0, .int ep 0]}).objs.size=s.heap.objs.size+2:=by rw [Heap.size_push,hHs]
 generalize H.push {cls:= .type "set_iterator",data:= .fields #[.int (eN_ w t 0:Nat) 0, .int (0:Nat) 0, .ref S, .int es.size 0, .int ep 0]}=H1 at hI0 hL hS2 hold hsz⊢
 refine wpAny_bind (wpAny_bind (listUpdate_at (s:={s with heap:=H1}) hL rfl ?_ (Nat.zero_le _) (by decide)))
 have hL1:=get?_update_seq hL (fun x=>x.push Value.none)
 have hu1:∀b,b≠s.heap.objs.size→(H1.update s.heap.objs.size (Obj.mapSeq fun x=>x.push Value.none)).get? b=H1.get? b:=(Heap.SameBut.update H1 s.heap.objs.size _).2
 dsimp only
 generalize H1.update s.heap.objs.size (Obj.mapSeq fun x=>x.push Value.none)=H2 at hL1 hu1⊢
 refine listUpdate_at (s:={s with heap:=H2}) hL1 rfl ?_ (by simp [sizeLine_eq]) (by simp)
 have hL2:=get?_update_seq hL1 (fun x=>x.pop)
 have hu2:∀b,b≠s.heap.objs.size→(H2.update s.heap.objs.size (Obj.mapSeq fun x=>x.pop)).get? b=H2.get? b:=(Heap.SameBut.update H2 s.heap.objs.size _).2
 dsimp only
 generalize H2.update s.heap.objs.size (Obj.mapSeq fun x=>x.pop)=H3 at hL2 hu2⊢
 have hk3:∀b o,b≠s.heap.objs.size→H1.get? b=some o→H3.get? b=some o:=fun b o hb e=>by rw [hu2 b hb,hu1 b hb];exact e
 have hSf:s.heap.objs.size∉[H.objs.size,S]:=by
  rw [hHs]
  simp only [List.mem_cons,List.not_mem_nil,or_false,not_or]
  exact⟨Nat.ne_of_lt (Nat.lt_succ_self _),Nat.ne_of_gt hS⟩
 have hSn:S≠s.heap.objs.size:=Nat.ne_of_lt hS
 have hHn:H.objs.size≠s.heap.objs.size:=by rw [hHs];exact Nat.ne_of_gt (Nat.lt_succ_self _)
 refine wpAny_pure ⟨plainId_quiet F.plain_extend_loop _,codeAny_extend_loopS (kA_ (A:=A.in1) (ep:=ep) hh H.objs.size S hne b hs hl hp).toS ?_ _ hSf _ es.size 0 _ _ _ rfl (Nat.zero_le _) ⟨hI0.mv fun o e=>hk3 _ o hHn e,hk3 S _ hSn hS2⟩ hL2 (ItemsOf.nil _) fun s' acc' c' hm hS' hacc=> ?_⟩
 ·have:es.size≤127:=by rcases b.mask with e|e|e<;>omega
  rw [sizeLine_eq];omega
 show wpAny _ A (load s.heap.objs.size>>=_) _ _ s'
 refine wpAny_bind (wpAny_load hS' ?_)
 obtain⟨h',g',d',tk',os'⟩:=s'
 have eg:g'=s.gens:=hm.gens
 have ed:d'=s.drawn:=hm.drawn
 have eo:os'=s.os:=hm.os
 subst eg;subst ed;subst eo
 refine wpAny_pure (hQ h' tk' acc'.toList (fun b o e=> ?_) (Nat.le_of_lt (Heap.lt_size hS')) ?_)
 ·have hlt:=Heap.lt_size e
  refine hm.heap b o (fun hb=> ?_) (hk3 b o (Nat.ne_of_lt hlt) (hold b o e))
  simp only [List.mem_cons,List.not_mem_nil,or_false] at hb
  rcases hb with hb|hb
  ·exact absurd hlt (by rw [hb];exact Nat.lt_irrefl _)
  ·rw [hb,hHs] at hlt;exact absurd hlt (Nat.not_lt.mpr (Nat.le_succ _))
 ·have:acc'.toList=(kz_ w S ep es).toList.map (·.2):=by
   apply List.ext_getElem?
   intro i
   rw [List.getElem?_map,Array.getElem?_toList,Array.getElem?_toList]
   rcases Nat.lt_or_ge i es.size with c|c
   ·have hi:i<acc'.size:=by rw [hacc.1];exact c
    obtain⟨e,he,hv⟩:=hacc.2 i _ (Array.getElem?_eq_getElem hi)
    rw [Array.getElem?_eq_getElem hi,hv,he];rfl
   ·rw [Array.getElem?_eq_none (by rw [hacc.1];exact c),Array.getElem?_eq_none (by rw [ha_];exact c)];rfl
  rw [this]
  exact(i3_ w S ep es).map _
abbrev lsH (h:Heap) (vs:List Value):Heap:=h.push (seqObj "list" vs.toArray 0)
theorem gx_ (h:Heap) (vs:List Value):(lsH h vs).get? h.objs.size=some (seqObj "list" vs.toArray 0):=Heap.get?_push_size _ rfl
theorem fK_ {h:Heap}{vs:List Value}{b:Addr}{o:Obj} (hb:h.get? b=some o):(aL_ (lsH h vs) h.objs.size vs).get? b=some o:=by
 have hlt:b<h.objs.size:=Heap.lt_size hb
 have n0:b≠h.objs.size:=Nat.ne_of_lt hlt
 have n1:b≠h.objs.size+1:=Nat.ne_of_lt (Nat.lt_succ_of_lt hlt)
 have n2:b≠h.objs.size+1+1:=Nat.ne_of_lt (Nat.lt_succ_of_lt (Nat.lt_succ_of_lt hlt))
 rw [Heap.get?_push_ne _ _ _ (by rw [size_push',Heap.size_update,size_push'];exact n2),Heap.get?_push_ne _ _ _ (by rw [Heap.size_update,size_push'];exact n1),Heap.get?_update_ne _ _ _ _ n0,Heap.get?_push_ne _ _ _ n0]
 exact hb
theorem gw_ {h:Heap}{vs:List Value}{out:Array Value}{b:Addr}{o:Obj} (hb:h.get? b=some o):(sortedHeap (lsH h vs) h.objs.size vs out).get? b=some o:=by
 unfold sortedHeap
 rw [Heap.get?_update_ne _ _ _ _ (Nat.ne_of_lt (Heap.lt_size hb))]
 exact fK_ hb
theorem ig_ (h:Heap) (vs:List Value) (out:Array Value):∃e,(sortedHeap (lsH h vs) h.objs.size vs out).get? h.objs.size=some (seqObj "list" out e):=by
 obtain⟨e1,ho1⟩:∃e1,((lsH h vs).update h.objs.size (Obj.mapSeq fun _=>(#[]:Array Value))).get? h.objs.size=some (seqObj "list" #[] e1):=⟨_,get?_update_seq (gx_ h vs) (fun _=> #[])⟩
 have ho6:(aL_ (lsH h vs) h.objs.size vs).get? h.objs.size=some (seqObj "list" #[] e1):=by
  rw [Heap.get?_push_ne _ _ _ (by rw [size_push',Heap.size_update,size_push'];exact Nat.ne_of_lt (Nat.lt_succ_of_lt (Nat.lt_succ_self _))),Heap.get?_push_ne _ _ _ (by rw [Heap.size_update,size_push'];exact Nat.ne_of_lt (Nat.lt_succ_self _))]
  exact ho1
 exact⟨_,get?_update_seq ho6 (fun _=>out)⟩
theorem iL_ {v:Value}{lG_:List Value→Shared→Prop}{Q:Value→Shared→Prop} (hcol:wpAny (model prog w) A.in1 (collect v) lG_ E s)
  (h:∀vs s1,lG_ vs s1→vs.length<64∧(vs.length<2→Q (.ref s1.heap.objs.size) {s1 with heap:=sortedHeap (lsH s1.heap vs) s1.heap.objs.size vs vs.toArray})∧
   (2≤vs.length→∃(c:Nat→Nat→Bool) (kd:SortKind),
    (∀(R:SortKind→Shared→Prop) (E:Value→Shared→Prop),R kd {s1 with heap:=aL_ (lsH s1.heap vs) s1.heap.objs.size vs}→wpAny (model prog w) A.in1.in1 (keyKind' vs.toArray) R E {s1 with heap:=aL_ (lsH s1.heap vs) s1.heap.objs.size vs})∧
    (∀i j,i<vs.length→j<vs.length→∀C:Bool→Shared→Prop,C (c i j) {s1 with heap:=aL_ (lsH s1.heap vs) s1.heap.objs.size vs}→wpAny (model prog w) A.in1.in1 (keyLt' kd (vs.getD i .none) (vs.getD j .none)) C (fun _ _=>False) {s1 with heap:=aL_ (lsH s1.heap vs) s1.heap.objs.size vs})∧
    ∀p,Ord vs.length p→p=cq_ c (kas_sort vs.length)→Q (.ref s1.heap.objs.size) {s1 with heap:=sortedHeap (lsH s1.heap vs) s1.heap.objs.size vs (p.map fun i=>vs.getD i .none)})):
  wpAny (model prog w) A (call (.builtin "sorted") [v]) Q E s:=by
 refine Calls.call_function_entry kind_sorted plain_sorted entry_sorted (args_sorted1 _) ?_
 unfold Builtin.«sorted»
 refine wpAny_bind (m:=checkCount "sorted" 1 1 _) (wpAny_pure ?_)
 refine wpAny_bind (thn hcol fun vs s1 g=> ?_)
 obtain⟨h64,few,many⟩:=h vs s1 g
 refine wpAny_bind (wpAny_newList ?_ (by rw [sizeLine_eq];omega))
 show wpAny _ _ _ _ _ {s1 with heap:=lsH s1.heap vs}
 by_cases h2:vs.length<2
 ·refine wpAny_bind (wpAny_holding (wpAny_call_entry slot_list_sort ⟨_,gx_ s1.heap vs,rfl⟩ entry_list_sort (h0_ (s:={s1 with heap:=lsH s1.heap vs}) (gx_ s1.heap vs) h2 ⟨_,rfl, ?_⟩) (args_list_sort _)))
  exact wpAny_pure ⟨_,rfl,few h2⟩
 ·obtain⟨c,kd,hkd,hc,hq⟩:=many (by omega)
  refine wpAny_bind (wpAny_holding (wpAny_call_entry slot_list_sort ⟨_,gx_ s1.heap vs,rfl⟩ entry_list_sort (gd_ (c:=c) (s:={s1 with heap:=lsH s1.heap vs}) (gx_ s1.heap vs) (by omega) h64 (fun R=>hkd R _) hc fun p hp hpc=>⟨_,rfl, ?_⟩) (args_list_sort _)))
  exact wpAny_pure ⟨_,rfl,hq p hp hpc⟩
end
section
variable {X:Cx}{pins:List (Addr×Obj)}{σ:St}{H:Hp}{s:Shared}
theorem hS_:∀{xs:List Int}{vs:List Value},aQ_ (xs.map V.int) vs→∀(prog:Program) (w:World),ItemsAre (intKind prog w) xs vs
 |[],_, .nil,_,_=> .nil
 |x::xs,_, .cons r1 r2,prog,w=>by
  obtain⟨t,rfl⟩:=r1
  exact .cons (intKind_is prog w x t) (hS_ r2 prog w)
theorem i7_ (I:Inv X pins σ H s) {a:Addr}{xs:List Int} (h:SqT X.K H a (xs.map V.int)):IsTupleKey (intKind X.prog X.w) s.heap xs a:=by
 obtain⟨its,r,p,z⟩:=I.tuple h
 obtain⟨o,ho,hc,n,hd⟩:=p
 exact⟨o,_,n,ho,hc,hd,hS_ r _ _⟩
theorem nP_ {A:Around}{k:Nat} (hr:Room k A):A.units+8<cLine:=Nat.lt_of_le_of_lt (Nat.add_le_add_left (by decide:8≤64) _) hr.units
def oQ_:List V→Hp→VK→Prop:=fun vs H Q=>∃(v:V) (xss:List (List Int)) (m:Nat),vs=[v]∧Is H (.l (xss.map tI)) v∧0<m∧(∀xs∈xss,xs.length=m)∧xss.length<64∧
 ∀(yss:List (List Int)) (q:Addr) (H':Hp),yss.Nodup→(∀z,z∈yss↔z∈xss)→(∀i j,i<j→j<yss.length→ltI (yss.getD j []) (yss.getD i [])=false)→H q=none→al_ H H'→Is H' (.l (yss.map tI)) (.ref q)→Q (.ref q) H'
theorem jc_ (I:Inv X pins σ H s) {rs:List V}{xss:List (List Int)}{m:Nat}{vs:List Value} (hi:Iss H (xss.map tI) rs) (r':aQ_ rs vs) (hm:0<m) (hne':∀xs∈xss,xs.length=m) (hlen:xss.length<64) {Q:VK}
  (q:∀(yss:List (List Int)) (q:Addr) (H':Hp),yss.Perm xss→(∀i j,i<j→j<yss.length→ltI (yss.getD j []) (yss.getD i [])=false)→H q=none→al_ H H'→Is H' (.l (yss.map tI)) (.ref q)→Q (.ref q) H') (A:Around):
  vs.length<64∧(vs.length<2→EP X pins σ Q (.ref s.heap.objs.size) {s with heap:=sortedHeap (lsH s.heap vs) s.heap.objs.size vs vs.toArray})∧
   (2≤vs.length→∃(c:Nat→Nat→Bool) (kd:SortKind),
    (∀(R:SortKind→Shared→Prop) (E:Value→Shared→Prop),R kd {s with heap:=aL_ (lsH s.heap vs) s.heap.objs.size vs}→wpAny (model X.prog X.w) A.in1.in1 (keyKind' vs.toArray) R E {s with heap:=aL_ (lsH s.heap vs) s.heap.objs.size vs})∧
    (∀i j,i<vs.length→j<vs.length→∀C:Bool→Shared→Prop,C (c i j) {s with heap:=aL_ (lsH s.heap vs) s.heap.objs.size vs}→wpAny (model X.prog X.w) A.in1.in1 (keyLt' kd (vs.getD i .none) (vs.getD j .none)) C (fun _ _=>False) {s with heap:=aL_ (lsH s.heap vs) s.heap.objs.size vs})∧
    ∀p,Ord vs.length p→p=cq_ c (kas_sort vs.length)→EP X pins σ Q (.ref s.heap.objs.size) {s with heap:=sortedHeap (lsH s.heap vs) s.heap.objs.size vs (p.map fun i=>vs.getD i .none)}):=by
 have hne:∀xs∈xss,xs≠[]:=fun xs hx z=>by have:=hne' xs hx;rw [z] at this;exact absurd this (by show¬0=m;omega)
 have hrs:rs.length=xss.length:=by rw [hi.length,List.length_map]
 have ln:=r'.length
 have lns:vs.length=xss.length:=by omega
 refine⟨by omega,fun h2=> ?_,fun h2=>⟨mb_ xss,tuples' true,fun R E hR=> ?_,fun i j hi' hj' C hC=> ?_,fun p ho hpc=> ?_⟩⟩
 ·obtain⟨e,he⟩:=ig_ s.heap vs vs.toArray
  have fr:=I.hok.fresh (a:=s.heap.objs.size) (Nat.le_refl _)
  exact⟨.ref s.heap.objs.size,_,I.laid (t':=s.toks) (fun _ _=>gw_) (Nat.le_refl _) (show ba_ X.prog X.w _ _ _ (.lst rs) from⟨by rw [sizeLine_eq];omega,vs,e,r',he⟩),rfl,q xss _ _ (List.Perm.refl _) (fun i j a b=>absurd b (by omega)) fr (al_.new fr) (bJ_ ae_ (hi.mono (al_.new fr)))⟩
 ·have I2:Inv X pins σ H {s with heap:=aL_ (lsH s.heap vs) s.heap.objs.size vs}:=I.kept (t':=s.toks) fun b o e=>fK_ e
  obtain⟨fs,k1,k2,k3⟩:=fT_ I2 hi r' hne
  exact kat_kind (T:= .type "int") k1 (by omega) (fun f hf=>by obtain⟨z,t,rfl⟩:=k3 f hf;exact .now) rfl hR
 ·have I2:Inv X pins σ H {s with heap:=aL_ (lsH s.heap vs) s.heap.objs.size vs}:=I.kept (t':=s.toks) fun b o e=>fK_ e
  have g:∀i,i<xss.length→∃a,vs.getD i .none= .ref a∧SqT X.K H a ((xss.getD i []).map V.int):=fun i h=>by
   have hr:i<rs.length:=by omega
   obtain⟨d,hd,h1⟩:=hi.of_get (List.getElem?_eq_getElem hr)
   rw [List.getElem?_map,List.getElem?_eq_getElem h] at hd
   cases hd
   obtain⟨a,ea,ha⟩:=hv_ h1
   obtain⟨u,hu1,ru⟩:=r'.get (List.getElem?_eq_getElem hr)
   rw [ea] at ru
   obtain rfl:u=Value.ref a:=ru
   refine⟨a, ?_, ?_⟩
   ·rw [List.getD_eq_getElem?_getD,hu1];rfl
   ·rw [List.getD_eq_getElem?_getD,List.getElem?_eq_getElem h]
    exact SqT.of ha
  obtain⟨a1,e1,s1⟩:=g i (by omega)
  obtain⟨a2,e2,s2⟩:=g j (by omega)
  rw [e1,e2]
  rw [ft_ (by omega) (by omega)] at hC
  exact im_ I2 s1 s2 hC
 ·rw [lns] at ho hpc
  have hpl:∀i∈p.toList,i<xss.length:=fun i hi=>ho.lt hi
  obtain⟨e,he⟩:=ig_ s.heap vs (p.map fun i=>vs.getD i .none)
  have en:(p.map fun i=>vs.getD i .none)=List.toArray (p.toList.map fun i=>vs.getD i .none):=by
   apply Array.toList_inj.mp
   simp
  rw [en] at he⊢
  have fr:=I.hok.fresh (a:=s.heap.objs.size) (Nat.le_refl _)
  refine⟨.ref s.heap.objs.size,_,I.laid (t':=s.toks) (fun _ _=>gw_) (Nat.le_refl _) (show ba_ X.prog X.w _ _ _ (.lst (p.toList.map fun i=>rs.getD i .non)) from⟨?_,_,e,dh_ r' p.toList (fun i hi=>by rw [hrs];exact hpl i hi),he⟩),rfl,q (p.toList.map fun i=>xss.getD i []) _ _ ?_ ?_ fr (al_.new fr) (bJ_ ae_ ((fV_ hi p.toList hpl).mono (al_.new fr)))⟩
  ·rw [List.length_map,Array.length_toList,sizeLine_eq,ho.size]
   omega
  ·have pp:=(Array.perm_iff_toList_perm.mp ho).map fun i=>xss.getD i []
   rw [show(List.range xss.length).toArray.toList=List.range xss.length from rfl,if_] at pp
   exact pp
  ·intro i j hij hj
   rw [List.length_map,Array.length_toList,ho.size] at hj
   have up:=gF_ (jA_ (xss:=xss) (m:=m) (by omega) hne') (n:=xss.length) (by omega) i j hij hj
   rw [←hpc] at up
   have g:∀i,i<xss.length→(p.toList.map fun i=>xss.getD i []).getD i []=xss.getD (at0 p i) []∧at0 p i<xss.length:=fun i h=>by
    have hs:i<p.size:=by rw [ho.size];exact h
    have e:at0 p i=p[i]:=by simp [at0,Array.getD,hs]
    rw [e]
    refine⟨?_,ho.lt (by simp)⟩
    rw [List.getD_eq_getElem?_getD,List.getElem?_map]
    simp [hs]
   obtain⟨g1,g2⟩:=g i (by omega)
   obtain⟨g3,g4⟩:=g j hj
   rw [g1,g3]
   rw [ft_ g4 g2] at up
   exact up
theorem de_ {α β:Type}{f:β→α}{P:β→Prop}:∀(vs:List α),(∀v∈vs,∃j,P j∧v=f j)→∃js:List β,vs=js.map f∧∀j∈js,P j
 |[],_=>⟨[],rfl,fun _ h=>nomatch h⟩
 |v::vs,h=>by
  obtain⟨j,pj,e⟩:=h v (by simp)
  obtain⟨js,es,ps⟩:=de_ vs fun u hu=>h u (by simp [hu])
  exact⟨j::js,by rw [e,es];rfl,fun i hi=>by rcases List.mem_cons.mp hi with rfl|hi;exact pj;exact ps i hi⟩
theorem gb_ (ad:Nat→Addr):∀js:List Nat,aQ_ (js.map fun j=>V.ref (ad j)) (js.map fun j=>Value.ref (ad j))
 |[]=> .nil
 |j::js=> .cons rfl (gb_ ad js)
theorem ip_ {H:Hp} (kk:Nat→List Int) (ad:Nat→Addr):∀js:List Nat,(∀j∈js,H (ad j)=some (.tup ((kk j).map V.int)))→Iss H ((js.map kk).map tI) (js.map fun j=>V.ref (ad j))
 |[],_=>aj_
 |j::js,h=>ag_ (mu_ (h j (by simp))) (ip_ kk ad js fun i hi=>h i (by simp [hi]))
theorem kH_ {prog:Program}{w:World}{h':Heap}{kk:Nat→List Int}{ad:Nat→Addr}{n:Nat}{es:Array (Int×Value)}{vs:List Value} (en:Ent prog w h' es) (mk:Made prog w kk ad n es)
  (hkey:∀j,j<n→IsTupleKey (intKind prog w) h' (kk j) (ad j)) (hp:vs.Perm (es.toList.map (·.2))):
  ∃js:List Nat,vs=js.map (fun j=>Value.ref (ad j))∧(∀j∈js,j<n)∧(js.map kk).Nodup∧∀j,j<n→kk j∈js.map kk:=by
 have vmem:∀v,v∈vs↔∃p g,es[p]? =some (g,v):=fun v=>by
  rw [hp.mem_iff,List.mem_map]
  constructor
  ·rintro⟨⟨g,v'⟩,he,rfl⟩
   obtain⟨p,hp,e⟩:=Array.mem_iff_getElem.mp (Array.mem_toList_iff.mp he)
   exact⟨p,g,by rw [Array.getElem?_eq_getElem hp,e]⟩
  ·rintro⟨p,g,e⟩
   have hp:=c2_ e
   rw [Array.getElem?_eq_getElem hp,Option.some.injEq] at e
   exact⟨(g,v),by rw [←e];simp,rfl⟩
 obtain⟨js,ev,pj⟩:=de_ (f:=fun j=>Value.ref (ad j)) (P:=fun j=>j<n∧∃p g,es[p]? =some (g,Value.ref (ad j))) vs fun v hv=>by
  obtain⟨p,g,e⟩:=(vmem v).mp hv
  obtain⟨j,hj,e'⟩:=mk.from_ p _ e
  simp only [Prod.mk.injEq] at e'
  obtain⟨_,rfl⟩:=e'
  exact⟨j,⟨hj,p,g,e⟩,rfl⟩
 have nd:vs.Nodup:=by
  rw [hp.nodup_iff]
  unfold List.Nodup
  rw [List.pairwise_map,List.pairwise_iff_getElem]
  intro i j hi hj hij e
  rw [Array.length_toList] at hi hj
  obtain⟨k,b,e1,q1⟩:=en.ent i hi
  obtain⟨k',b',e2,q2⟩:=en.ent j hj
  have z1:es.toList[i].2=Value.ref b:=by
   rw [Array.getElem?_eq_getElem hi,Option.some.injEq] at e1
   simp [e1]
  have z2:es.toList[j].2=Value.ref b':=by
   rw [Array.getElem?_eq_getElem hj,Option.some.injEq] at e2
   simp [e2]
  rw [z1,z2,Value.ref.injEq] at e
  subst e
  have:=en.dis i j k b b _ _ e1 e2 q1 q1
  omega
 refine⟨js,ev,fun j hj=>(pj j hj).1, ?_,fun j hj=> ?_⟩
 ·rw [ev] at nd
  unfold List.Nodup at nd⊢
  rw [List.pairwise_map] at nd⊢
  refine List.Pairwise.imp_of_mem (fun{a b} ha hb hne e=>hne ?_) nd
  obtain⟨la,p,g,ea⟩:=pj a ha
  obtain⟨lb,p',g',eb⟩:=pj b hb
  have:=en.dis p p' (kk a) _ _ _ _ ea eb (hkey a la) (by rw [e];exact hkey b lb)
  subst this
  rw [ea] at eb
  simp only [Option.some.injEq,Prod.mk.injEq] at eb
  exact eb.2
 ·obtain⟨p,j',hj',ek,e⟩:=mk.all j hj
  have:=(vmem _).mpr ⟨p,_,e⟩
  rw [ev] at this
  obtain⟨i,hi,ei⟩:=List.mem_map.mp this
  simp only [Value.ref.injEq] at ei
  have q1:=hkey i (pj i hi).1
  rw [ei] at q1
  have:=q1.inj (hkey j' hj')
  rw [←ek,←this]
  exact List.mem_map_of_mem hi
theorem l5_ {e:Expr}{ta:TA}{p p2 pos pos2:Pos} (hu:X.A.units+8<cLine) (hh:X.A.handled=none) (hg:Gl X "sorted") (hm:X.mg "sorted"=none) (hg2:Gl X "set") (hm2:X.mg "set"=none)
  (ha:PA X [e] ta) (he:starEach [e] X.env=(false,eval e X.env)::starEach [] X.env:=by rfl)
  (he2:starEach [Expr.Call (.Name "set" p2) [e] [] pos2] X.env=(false,eval (Expr.Call (.Name "set" p2) [e] [] pos2) X.env)::starEach [] X.env:=by rfl):
  PE X (.Call (.Name "sorted" p) [.Call (.Name "set" p2) [e] [] pos2] [] pos) (tCB oQ_ ta):=by
 intro pins s σ H Q I h
 refine wpAny_Call_Name_kw (ds_ I hg hm (by first|exact boot_sorted|rfl|decide+kernel) ?_ (by decide) (by decide))
 refine PyProof.Rows.callWith_builtin1 ?_ he2 (by rfl)
 rw [he2]
 show wpAny _ _ (spliced ((false,eval (Expr.Call (.Name "set" p2) [e] [] pos2) X.env)::backTo pos (starEach [] X.env))) _ _ s
 refine Calls.spliced_cons ?_
 refine wpAny_Call_Name_kw (ds_ I hg2 hm2 (by first|rfl|decide+kernel) ?_ (by decide) (by decide))
 refine PyProof.Rows.callWith_type1 (thn (ha pos2 pins s σ H _ I h) fun us s1 ⟨vs,H1,I1,r1,q1⟩=> ?_) he (by rfl)
 obtain⟨v,xss,m,rfl,hv,hm',hne',hlen,q⟩:=q1
 obtain⟨l,rs,rfl,hl,hi⟩:=bm_ hv
 have hrs:rs.length=xss.length:=by rw [hi.length,List.length_map]
 obtain⟨u,rfl,rx⟩:=di_ r1
 cases rx
 obtain⟨its,r',pl,hz⟩:=I1.list (SqL.of (K:=X.K) hl)
 have ln:=r'.length
 have g:∀i,∃a,i<xss.length→its[i]? =some (.ref a)∧rs[i]? =some (.ref a)∧H1 a=some (.tup ((xss.getD i []).map V.int)):=fun i=>by
  by_cases h:i<xss.length
  ·have hr:i<rs.length:=by omega
   obtain⟨d,hd,h1⟩:=hi.of_get (List.getElem?_eq_getElem hr)
   rw [List.getElem?_map,List.getElem?_eq_getElem h] at hd
   cases hd
   obtain⟨a,ea,ha⟩:=hv_ h1
   obtain⟨u,hu1,ru⟩:=r'.get (List.getElem?_eq_getElem hr)
   rw [ea] at ru
   obtain rfl:u=Value.ref a:=ru
   refine⟨a,fun _=>⟨hu1,by rw [List.getElem?_eq_getElem hr,ea], ?_⟩⟩
   rw [List.getD_eq_getElem?_getD,List.getElem?_eq_getElem h]
   exact ha
  ·exact⟨0,fun c=>absurd c h⟩
 let ad:Nat→Addr:=fun i=>Classical.choose (g i)
 have hg:∀i,i<xss.length→its[i]? =some (.ref (ad i))∧rs[i]? =some (.ref (ad i))∧H1 (ad i)=some (.tup ((xss.getD i []).map V.int)):=fun i hi=>Classical.choose_spec (g i) hi
 generalize ad=ad at hg
 refine gT_ (kk:=fun i=>xss.getD i []) (ad:=ad) (items:=its.toArray) hh (by omega) pl.isList (by rw [List.size_toArray];omega) (fun i hi=> ?_) fun h' tk es hS en mk hk=> ?_
 ·rw [List.size_toArray] at hi
  have hg':=hg i (by omega)
  exact⟨by rw [List.getElem?_toArray];exact hg'.1,i7_ I1 (SqT.of hg'.2.2)⟩
 ·have I2:Inv X pins σ H1 {s1 with heap:=h',toks:=tk}:=I1.kept fun b o e=>hk b o (Heap.lt_size e) e
  refine wpAny_pure ?_
  show wpAny _ _ (call (.builtin "sorted") [.ref s1.heap.objs.size]) _ _ {s1 with heap:=h',toks:=tk}
  obtain⟨ep,t,ho,tb,tl,tp,tr⟩:=hS
  refine iL_ (hM_ (s:={s1 with heap:=h',toks:=tk}) (A:=X.A.in1) hh ho tb (by omega) tl tp fun h'' tk' vs hk' hsz hp=> ?_) fun vs s' g=>g
  have hkey:∀j,j<its.toArray.size→IsTupleKey (intKind X.prog X.w) h' (xss.getD j []) (ad j):=fun j hj=>by
   rw [List.size_toArray] at hj
   exact i7_ I2 (SqT.of (hg j (by omega)).2.2)
  obtain⟨js,ev,lt,nd,all⟩:=kH_ en mk hkey hp
  have I3:Inv X pins σ H1 {s1 with heap:=h'',toks:=tk'}:=I2.kept hk'
  have lt':∀j∈js,j<xss.length:=fun j hj=>by have:=lt j hj;rw [List.size_toArray] at this;omega
  subst ev
  have mem:∀z,z∈js.map (fun i=>xss.getD i [])↔z∈xss:=fun z=>by
   constructor
   ·intro hz
    obtain⟨j,hj,rfl⟩:=List.mem_map.mp hz
    rw [List.getD_eq_getElem?_getD,List.getElem?_eq_getElem (lt' j hj)]
    exact List.getElem_mem _
   ·intro hz
    obtain⟨j,hj,e⟩:=List.getElem_of_mem hz
    have:=all j (by rw [List.size_toArray];omega)
    rw [List.getD_eq_getElem?_getD,List.getElem?_eq_getElem hj,e] at this
    exact this
  have bound:(js.map fun i=>xss.getD i []).length≤xss.length:=by
   have e1:js.length=es.size:=by have:=hp.length_eq;simpa using this
   have e2:es.size≤its.length:=by have:=mk.size;simpa using this
   rw [List.length_map]
   omega
  refine jc_ I3 (rs:=js.map fun j=>V.ref (ad j)) (xss:=js.map fun i=>xss.getD i []) (ip_ _ ad js fun j hj=>(hg j (lt' j hj)).2.2) (gb_ ad js) hm' (fun xs hx=>hne' xs ((mem xs).mp hx)) (by omega) (fun yss q' H' pm srt hq sm his=> ?_) X.A
  exact q yss q' H' (pm.nodup_iff.mpr nd) (fun z=>by rw [pm.mem_iff];exact mem z) srt hq sm his
end
end L2
namespace L2
open PySem PySem.Spec PyProof.Rows PySem.W
section
variable {prog:Program}{w:World}{A:Around}{E:Value→Shared→Prop}{s:Shared}
end
section
variable {prog:Program}{w:World}{A:Around}{E:Value→Shared→Prop}{s:Shared}
end
section
variable {X:Cx}{tg:Expr}
end
end L2
namespace L2
open PySem PySem.Spec PyProof.Rows
section
variable {X:Cx}
end
def LTS (H H':Hp):Prop:=(∀b xs,H b=some (.lst xs)→H' b=some (.lst xs))∧∀b xs,H b=some (.tup xs)→H' b=some (.tup xs)
mutual
theorem Is.lts {H H':Hp} (s:LTS H H'):∀{d:D}{v:V},Is H d v→Is H' d v
 | .i _,_,h=>by rw [dg_ h];exact mv_
 | .l xs,_,h=>by
  obtain⟨a,vs,e,q,r⟩:=bm_ h
  rw [e]
  exact bJ_ (s.1 _ _ q) (Iss.lts s r)
 | .t xs,_,h=>by
  obtain⟨a,vs,e,q,r⟩:=g7_ h
  rw [e]
  exact iY_ (s.2 _ _ q) (Iss.lts s r)
theorem Iss.lts {H H':Hp} (s:LTS H H'):∀{xs:List D}{vs:List V},Iss H xs vs→Iss H' xs vs
 |[],_,h=>by rw [a7_ h];exact aj_
 |x::xs,_,h=>by
  obtain⟨u,us,e,q,r⟩:=aC_ h
  rw [e]
  exact ag_ (Is.lts s q) (Iss.lts s r)
end
end L2
namespace L2
open PySem PySem.Spec PyProof.Rows PySem.MeetsSeq
theorem jl_ (l:Addr) (items:Array Value) (n:Nat) (x:Value) (e:Value→Bool) (j:Nat) (hj:j<items.size) (hit:e items[j]=true) (hs1:items.size≤sizeLine) (k:Nat):
  ∀i:Nat,j-i=k→i≤j→(∀m (hm:m<items.size),i≤m→m<j→e items[m]=false)→Meets (Builtin.«list.remove.loop» ⟨[.ref l,x,rawInt i],[]⟩)
   (fun A R s=>s.heap.get? l=some {cls:= .type "list",dict:=none,data:= .seq items n,slots:= #[]}∧(∀y,y∈items→SeqAt.EqAt A.in1 s y x (e y))∧R (.ok (.ret .none)) {s with heap:=s.heap.update l (Obj.mapSeq fun xs=>xs.eraseIdxIfInBounds j)}):=by
 induction k with
 |zero=>
  intro i hk hij hno prog w A R s h
  obtain⟨hp,g,d,tk,os⟩:=s;obtain⟨hl,he,h⟩:=h
  have hij':i=j:=by omega
  subst hij'
  wp_walk using wpAny_loadPart' hl
  rw [show items[((i:Nat):Int).toNat]? =some items[i] by simp [hj]];refine wpAny_bind (he _ (Array.getElem_mem hj) prog w _ _ ?_)
  rw [hit]
  have hz2:(items.eraseIdxIfInBounds i).size≤sizeLine+1:=by
   have:=size_erased items i
   omega
  wp_walk using (wpAny_updateSeq hl rfl (hz:=hs1) (_hz':=hz2)),wpAny_loadPart' hl
  simpa using h
 |succ k ih=>
  intro i hk hij hno prog w A R s h
  obtain⟨hp,g,d,tk,os⟩:=s;obtain⟨hl,he,h⟩:=h
  have hlt:i<items.size:=by omega
  wp_walk using wpAny_loadPart' hl
  rw [show items[((i:Nat):Int).toNat]? =some items[i] by simp [hlt]];refine wpAny_bind (he _ (Array.getElem_mem hlt) prog w _ _ ?_)
  rw [hno i hlt (Nat.le_refl _) (by omega)]
  wp_walk
  rw [show((i:Int)+1)=((i+1:Nat):Int) by push_cast;rfl]
  exact⟨plainId_quiet plain_remove_loop _,codeAny_builtin entry_remove_loop (by
   rw [Around.under_plainId plain_remove_loop _];exact ih (i+1) (by omega) (by omega) (fun m hm h1 h2=>hno m hm (by omega) h2) prog w A R _ ⟨hl,he,h⟩)⟩
theorem fM_ (l:Addr) (items:Array Value) (n:Nat) (x:Value) (e:Value→Bool) (j:Nat) (hj:j<items.size) (hit:e items[j]=true) (hno:∀m (hm:m<items.size),m<j→e items[m]=false) (hs1:items.size≤sizeLine):
  Meets (Builtin.«list.remove» ⟨[.ref l,x],[]⟩)
   (fun A R s=>s.heap.get? l=some {cls:= .type "list",dict:=none,data:= .seq items n,slots:= #[]}∧(∀y,y∈items→SeqAt.EqAt A.in1 s y x (e y))∧R (.ok (.ret .none)) {s with heap:=s.heap.update l (Obj.mapSeq fun xs=>xs.eraseIdxIfInBounds j)}):=by
 intro prog w A R s h
 obtain⟨hp,g,d,tk,os⟩:=s;obtain⟨hl,he,h⟩:=h
 wp_walk using wpAny_loadPart' hl
 exact⟨plainId_quiet plain_remove_loop _,codeAny_builtin entry_remove_loop (by
  rw [Around.under_plainId plain_remove_loop _];exact jl_ l items n x e j hj hit hs1 _ 0 rfl (Nat.zero_le _) (fun m hm _ h2=>hno m hm h2) prog w A R _ ⟨hl,he,h⟩)⟩
section
variable {X:Cx}
def kP_ (K:PySem.W.Frag):V→List V→Hp→VK→Prop:=fun o vs H Q=>∃(p:Addr) (xs:List V) (x:V) (n:Nat) (es:Nat→Bool) (j:Nat),o= .ref p∧vs=[x]∧H p=some (.lst xs)∧g2_ K H n xs x es∧j<xs.length∧es j=true∧(∀m,m<j→es m=false)∧Q .non (upd H p (.lst (xs.eraseIdx j)))
theorem iT_ {k:Nat} (hr:Room k X.A):MtM X "list.remove" (kP_ X.K):=by
 intro pins s σ H o vs v us Q I ro rv h
 obtain⟨p,xs,x,n,es,j,rfl,rfl,hH,t,hj,e1,e2,q⟩:=h
 cases ro
 obtain⟨u,rfl,ru⟩:=aQ_.one rv
 have hu:=hr.un
 have t8:=t.1
 obtain⟨z,its,m,r,hl,e⟩:=I.lstM hH
 have hj':j<its.length:=by omega
 refine call_meets F.slot_list_remove ⟨_,e,rfl⟩ F.entry_list_remove (F.args_list_remove_2 _ _) (fM_ p its.toArray m u (eT_ its es) j (by simpa using hj') ?_ ?_ (by rw [List.size_toArray];omega)) ⟨e,d9_ I t r ru (by rw [aB_];omega), ?_⟩
 ·rw [ck_ t r (show its[j]? =some its.toArray[j] by simp [hj'])]
  exact e1
 ·intro i hi hij
  have hi':i<its.length:=by simpa using hi
  rw [ck_ t r (show its[i]? =some its.toArray[i] by simp [hi'])]
  exact e2 i hij
 ·refine⟨.non,_,I.lset (its':=its.eraseIdx j) hH e ?_ (r.eraseIdx j) ?_,rfl,q⟩
  ·show its.toArray.eraseIdxIfInBounds j=(its.eraseIdx j).toArray
   rw [List.eraseIdxIfInBounds_toArray]
  ·have:=gD_ xs j
   omega
end
end L2
namespace L2
open PySem PySem.Spec PyProof.Rows PySem.W
section
variable {prog:Program}{w:World}{K:Type} [DecidableEq K] {knd:KeyKind prog w K}
inductive ItemsT (knd:KeyKind prog w K) (h:Heap):List (List K)→List Value→Prop
 |nil:ItemsT knd h [] []
 |cons {k:List K}{a:Addr}{ks:List (List K)}{vs:List Value}:IsTupleKey knd h k a→ItemsT knd h ks vs→ItemsT knd h (k::ks) (.ref a::vs)
def bB_ (knd:KeyKind prog w K) (h:Heap) (ks:List (List K)) (a:Addr):Prop:=∃o items n,h.get? a=some o∧o.cls= .type "tuple"∧o.data= .seq items n∧ItemsT knd h ks items.toList
theorem ItemsT.inj {h:Heap}{x y:List (List K)}{vs:List Value} (hx:ItemsT knd h x vs) (hy:ItemsT knd h y vs):x=y:=by
 induction hx generalizing y with
 |nil=>cases hy;rfl
 |cons h1 _ ih=>
  cases hy with
  |cons h2 t2=>rw [h1.inj h2,ih t2]
theorem ItemsT.keeps {h h':Heap}{x:List (List K)}{vs:List Value}{d:Addr}{o:Obj}{es ep} (hx:ItemsT knd h x vs) (ho:h.get? d=some o) (hd:o.data= .dict es ep) (hs:Heap.SameBut d h h'):ItemsT knd h' x vs:=by
 induction hx with
 |nil=>exact .nil
 |cons h1 _ ih=>exact .cons (h1.keeps ho hd hs) ih
theorem bB_.typeIs {s:Shared}{ks:List (List K)}{a:Addr} (x:bB_ knd s.heap ks a):s.TypeIs (.ref a) "tuple":=let ⟨o,_,_,ho,hc,_⟩:=x;⟨o,ho,hc⟩
theorem bB_.inj {h:Heap}{a:Addr}{x y:List (List K)} (hx:bB_ knd h x a) (hy:bB_ knd h y a):x=y:=by
 obtain⟨o,items,n,ho,_,hd,hi⟩:=hx
 obtain⟨o',items',n',ho',_,hd',hi'⟩:=hy
 obtain rfl:o=o':=Option.some.inj (ho.symm.trans ho')
 rw [hd] at hd'
 injection hd' with h1 _
 subst h1
 exact hi.inj hi'
theorem bB_.keeps {h h':Heap}{ks:List (List K)}{a d:Addr}{o:Obj}{es ep} (x:bB_ knd h ks a) (ho:h.get? d=some o) (hd:o.data= .dict es ep) (hs:Heap.SameBut d h h'):bB_ knd h' ks a:=by
 obtain⟨o',items,n,ho',hc,hd',hi⟩:=x
 have hne:a≠d:=by
  rintro rfl
  obtain rfl:o'=o:=Option.some.inj (ho'.symm.trans ho)
  rw [hd] at hd';exact nomatch hd'
 exact⟨o',items,n,(hs.2 a hne).trans ho',hc,hd',hi.keeps ho hd hs⟩
def bI_ (knd:KeyKind prog w K) (ks:List (List K)):Int:=reduceHash (Builtin.Tuple.tupleHashOf (ks.map (tupleKeyHash knd)))
def cL_ (ks:List (List K)):Nat:=(ks.map fun k=>k.length+1).sum+1
variable {A:Around}{E:Value→Shared→Prop}{s:Shared}
theorem en_ {ks:List (List K)}{a:Addr}{Q:Int→Shared→Prop} (hu:A.units+1<cLine) (hk:bB_ knd s.heap ks a) (h:Q (bI_ knd ks) {s with toks:=s.toks+cL_ ks}):
  wpAny (model prog w) A (pyHash (.ref a)) Q E s:=by
 have hT:=hk.typeIs
 obtain⟨o,items,n,ho,_,hd,hi⟩:=hk
 unfold pyHash
 first|unfold pyHashByItsType|skip
 first|refine wpAny_bind (wpAny_cRoomFor_or (.inr (by omega)) ?_)|skip
 refine wpAny_bind (wpAny_specialOf hT F.slot_tuple_hash.lookup ?_)
 show wpAny _ _ (if(some (Value.builtin "tuple.__hash__")==some Value.none)=true then _ else _) Q E s
 rw [if_neg (by rw [beq_builtin_none];exact Bool.false_ne_true)]
 refine wpAny_bind (wpAny_specialOf hT F.slot_tuple_hash.lookup ?_)
 show wpAny _ _ (callSpecialIfBoundUnlessNone? (.ref a) "__hash__" _>>=_) Q E s
 refine wpAny_bind (wpAny_callSpecialIfBoundUnlessNone?_slot hT F.slot_tuple_hash (wpAny_call_entry F.slot_tuple_hash hT F.entry_tuple_hash ?_ (F.args_tuple_hash_1 _)))
 show wpAny _ _ (Builtin.Tuple.tupleItemsOf (.ref a)>>=_) _ _ s
 refine wpAny_bind (wpAny_tupleItemsOf ho hd ?_)
 refine wpAny_bind ?_
 rw [←Array.forIn_toList]
 refine wpAny_forIn_list _
  (fun bC_ (b:Array Int) s'=>∃done left,ks=done++left∧ItemsT knd s.heap left bC_∧b.toList=done.map (tupleKeyHash knd)∧s'={s with toks:=s.toks+(done.map fun k=>k.length+1).sum})
  _ ?_ ?_ _ _ ⟨[],ks,rfl,hi,rfl,rfl⟩
 ·rintro x bC_ b s' ⟨done,left,rfl,hl,hb,rfl⟩
  cases hl with
  | @cons k a1 ks' _ h1 hl'=>
   refine wpAny_bind (wpAny_pyHash_tuple (knd:=knd) (ks:=k) (by first|exact hu|(rw [aB_];omega)|(simp;omega)) h1 ?_)
   first
    |exact wpAny_pure ⟨done++[k],ks',by simp,hl',by simp [hb],by simp [Nat.add_assoc]⟩
    |exact wpAny_bind (wpAny_pure (wpAny_pure ⟨done++[k],ks',by simp,hl',by simp [hb],by simp [Nat.add_assoc]⟩))
 ·rintro b s' ⟨done,left,rfl,hl,hb,rfl⟩
  cases hl
  rw [List.append_nil] at h
  show wpAny _ _ (retInt (Builtin.Tuple.tupleHashOf b.toList)) _ _ _
  rw [hb]
  refine wpAny_ret_mkInt ?_
  show wpAny _ _ (if(decide (-(2:Int)^63≤Builtin.Tuple.tupleHashOf (done.map (tupleKeyHash knd)))&&decide (Builtin.Tuple.tupleHashOf (done.map (tupleKeyHash knd))<2^63))=true then _ else _) Q E _
  unfold bI_ reduceHash cL_ at h
  by_cases hr:(decide (-(2:Int)^63≤Builtin.Tuple.tupleHashOf (done.map (tupleKeyHash knd)))&&decide (Builtin.Tuple.tupleHashOf (done.map (tupleKeyHash knd))<2^63))=true
  ·rw [if_pos hr]
   rw [if_pos hr] at h
   exact wpAny_pure (by simpa [Nat.add_assoc] using h)
  ·rw [if_neg hr]
   rw [if_neg hr] at h
   exact wpAny_bind (wpAny_rule (wpAny_pure (by simpa [Nat.add_assoc] using h)))
theorem gu_ {x y:List (List K)}{a b:Addr}{P:Fin→Shared→Prop} (hu:A.units<cLine) (hx:bB_ knd s.heap x a) (hy:bB_ knd s.heap y b) (h:P (.done (.ret (.bool (decide (x=y))))) s):
  wpAny (model prog w) A (Builtin.«tuple.__eq__» ⟨[.ref a, .ref b],[]⟩) P E s:=by
 have hTb:=hy.typeIs
 obtain⟨oa,xs,na,hoa,_,hda,hia⟩:=hx
 obtain⟨ob,ys,nb,hob,_,hdb,hib⟩:=hy
 show wpAny _ _ (isInstance (.ref b) (.type "tuple")>>=_) _ _ s
 refine wpAny_bind (wpAny_isInstance hTb isSubtype_tuple_tuple ?_)
 simp only [Bool.not_true,Bool.false_eq_true,if_false]
 refine wpAny_bind (wpAny_tupleItemsOf hoa hda ?_)
 refine wpAny_bind (wpAny_tupleItemsOf hob hdb ?_)
 refine wpAny_bind ?_
 refine wpAny_forIn_list _
  (fun bC_ r s'=>r.1=none∧s'=s∧∃x' y' xs' ys',bC_=List.zip xs' ys'∧ItemsT knd s.heap x' xs'∧ItemsT knd s.heap y' ys'∧decide (x'=y')=decide (x=y)∧(xs'.length==ys'.length)=(xs.size==ys.size))
  _ ?_ ?_ _ _ ⟨rfl,rfl,x,y,xs.toList,ys.toList,rfl,hia,hib,rfl,by simp⟩
 ·rintro⟨u,v⟩ bC_ r s' ⟨hr,rfl,x',y',xs',ys',hz,hx',hy',hdec,hlen⟩
  cases hx' with
  |nil=>simp at hz
  | @cons k1 a1 x'' xs'' h1 hx''=>
   cases hy' with
   |nil=>simp at hz
   | @cons k2 a2 y'' ys'' h2 hy''=>
    simp only [List.zip_cons_cons,List.cons.injEq,Prod.mk.injEq] at hz
    obtain⟨⟨rfl,rfl⟩,rfl⟩:=hz
    refine wpAny_bind (wpAny_eqBool_tuple (knd:=knd) (x:=k1) (y:=k2) (by first|exact hu|(rw [aB_];omega)|(simp;omega)) h1 h2 ?_)
    by_cases hk:k1=k2
    ·subst hk
     rw [decide_eq_true rfl]
     simp only [Bool.not_true,Bool.false_eq_true,if_false]
     refine wpAny_pure ⟨rfl,rfl,x'',y'',xs'',ys'',rfl,hx'',hy'', ?_,by simpa using hlen⟩
     rw [←hdec]
     by_cases hxy:x''=y''
     ·simp [hxy]
     ·simp [hxy]
    ·rw [decide_eq_false hk]
     simp only [Bool.not_false,if_true]
     have hf:decide (x=y)=false:=by rw [←hdec];simp [hk]
     rw [hf] at h
     exact wpAny_bind (wpAny_pure (wpAny_pure (wpAny_pure h)))
 ·rintro⟨r1,r2⟩ s' ⟨hr,rfl,x',y',xs',ys',hz,hx',hy',hdec,hlen⟩
  simp only at hr
  subst hr
  refine wpAny_pure ?_
  have hfin:(xs.size==ys.size)=decide (x=y):=by
   rw [←hdec,←hlen]
   cases hx' with
   |nil=>
    cases hy' with
    |nil=>simp
    |cons _ _=>simp
   |cons _ _=>
    cases hy' with
    |nil=>simp
    |cons _ _=>simp at hz
  show P (.done (.ret (.bool (xs.size==ys.size)))) s'
  rw [hfin];exact h
theorem eG_ {x y:List (List K)}{a b:Addr}{Q:Bool→Shared→Prop} (hu:A.units+1<cLine) (hx:bB_ knd s.heap x a) (hy:bB_ knd s.heap y b) (h:Q (decide (x=y)) s):
  wpAny (model prog w) A (eqBool (.ref a) (.ref b)) Q E s:=by
 unfold eqBool
 try with_reducible refine wpAny_holding ?_
 show wpAny _ _ (if(Value.ref a==Value.ref b)=true then _ else _) Q E s
 by_cases hab:(Value.ref a==Value.ref b)=true
 ·rw [if_pos hab]
  have e:a=b:=by have:=eq_of_beq hab;injection this
  subst e
  obtain rfl:=hx.inj hy
  exact wpAny_bind (wpAny_rule (wpAny_pure (by simpa using h)))
 ·rw [if_neg hab]
  exact wpAny_bind (wpAny_richCompare_same_room (op:= .Eq) hx.typeIs hy.typeIs F.slot_tuple_eq
   (wpAny_call_entry F.slot_tuple_eq hx.typeIs F.entry_tuple_eq (gu_ (by first|omega|(rw [aB_];omega)|(simp;omega)) hx hy ⟨_,rfl,(fun e=>nomatch e),wpAny_truthy_bool h⟩) (F.args_tuple_eq_2 _ _)) (by omega))
theorem em_ {ks:List K}{a:Addr}{n:Nat}{Q:Bool→Shared→Prop} (hk:IsTupleKey knd s.heap ks a) (h:Q true s):wpAny (model prog w) A (eqIsQuiet (n+1) (.ref a)) Q E s:=by
 have hT:=hk.typeIs
 obtain⟨o,items,n,ho,_,hd,hi⟩:=hk
 unfold eqIsQuiet
 refine wpAny_bind (wpAny_specialOf hT F.slot_tuple_eq.lookup ?_)
 show wpAny _ _ (isInstance (.ref a) (.type "tuple")>>=_) _ _ s
 refine wpAny_bind (wpAny_isInstance hT isSubtype_tuple_tuple ?_)
 simp only [Bool.not_true,Bool.false_eq_true,if_false]
 refine wpAny_bind (wpAny_seqItems ho hd ?_)
 refine wpAny_bind ?_
 show wpAny _ _ (forIn items _ _) _ _ s
 rw [←Array.forIn_toList]
 refine wpAny_forIn_list _ (fun bC_ r s'=>r.1=none∧s'=s∧∀v∈bC_,carriedByValue v=true) _ ?_ ?_ _ _ ⟨rfl,rfl,hi.byValue⟩
 ·rintro v bC_ r s' ⟨hr,rfl,hall⟩
  rw [eqIsQuiet_byValue _ (hall v List.mem_cons_self)]
  refine wpAny_bind (wpAny_pure ?_)
  simp only [Bool.not_true,Bool.false_eq_true,if_false]
  exact wpAny_pure ⟨rfl,rfl,fun u hu'=>hall u (List.mem_cons_of_mem _ hu')⟩
 ·rintro⟨r1,r2⟩ s' ⟨hr,rfl,_⟩
  simp only at hr
  subst hr
  exact wpAny_pure h
theorem iP_ {ks:List (List K)}{a:Addr}{Q:Bool→Shared→Prop} (hk:bB_ knd s.heap ks a) (h:Q true s):wpAny (model prog w) A (eqIsQuiet 8 (.ref a)) Q E s:=by
 have hT:=hk.typeIs
 obtain⟨o,items,n,ho,_,hd,hi⟩:=hk
 unfold eqIsQuiet
 refine wpAny_bind (wpAny_specialOf hT F.slot_tuple_eq.lookup ?_)
 show wpAny _ _ (isInstance (.ref a) (.type "tuple")>>=_) _ _ s
 refine wpAny_bind (wpAny_isInstance hT isSubtype_tuple_tuple ?_)
 simp only [Bool.not_true,Bool.false_eq_true,if_false]
 refine wpAny_bind (wpAny_seqItems ho hd ?_)
 refine wpAny_bind ?_
 show wpAny _ _ (forIn items _ _) _ _ s
 rw [←Array.forIn_toList]
 refine wpAny_forIn_list _ (fun bC_ r s'=>r.1=none∧s'=s∧∃x,ItemsT knd s.heap x bC_) _ ?_ ?_ _ _ ⟨rfl,rfl,ks,hi⟩
 ·rintro v bC_ r s' ⟨hr,rfl,x,hall⟩
  cases hall with
  |cons h1 ht=>
   refine wpAny_bind (em_ h1 ?_)
   simp only [Bool.not_true,Bool.false_eq_true,if_false]
   exact wpAny_pure ⟨rfl,rfl,_,ht⟩
 ·rintro⟨r1,r2⟩ s' ⟨hr,rfl,_⟩
  simp only at hr
  subst hr
  exact wpAny_pure h
end
def k3_ {prog:Program}{w:World}{K:Type} [DecidableEq K] (knd:KeyKind prog w K):HeapKind prog w (List (List K)) where
 is:=bB_ knd
 hash:=bI_ knd
 draws:=cL_
 room:=fun A=>A.units+1<cLine
 inj:=fun hx hy=>hx.inj hy
 keeps:=fun x ho hd hs=>x.keeps ho hd hs
 pyHash:=fun hu hk h=>en_ hu hk h
 eqBool:=fun hu hx hy h=>eG_ hu hx hy h
 quiet:=fun hk h=>iP_ hk h
end L2
namespace L2
open PySem PySem.Spec PyProof.Rows PySem.W
def nK (ks:List (List Int)):D:= .t (ks.map tI)
section
variable {P:Program}{w:World}{H:Hp}{h:Heap}{a:Addr}
theorem it_:∀{ks:List Int}{us:List Value},aQ_ (ks.map V.int) us→ItemsAre (intKind P w) ks us
 |[],_,r=>by rw [List.map_nil] at r;cases r;exact .nil
 |k::ks,_,r=>by
  rw [List.map_cons] at r
  cases r with
  |cons h t=>
   obtain⟨t',rfl⟩:=h
   exact .cons (show Value.isInt k (.int k t')=true by simp [Value.isInt]) (it_ t)
theorem nF_ {ks:List Int} (ok:HOk P w H h) (e:H a=some (.tup (ks.map V.int))):IsTupleKey (intKind P w) h ks a:=by
 obtain⟨_,its,r,o,h1,h2,n,h3⟩:=(show ba_ P w H h a (.tup (ks.map V.int)) from ok a _ e)
 exact⟨o,its.toArray,n,h1,h2,h3,by simpa using it_ r⟩
theorem e4_ (ok:HOk P w H h):∀{ks:List (List Int)}{vs:List V}{us:List Value},Iss H (ks.map tI) vs→aQ_ vs us→ItemsT (intKind P w) h ks us
 |[],_,_,i,r=>by rw [a7_ i] at r;cases r;exact .nil
 |k::ks,_,_,i,r=>by
  obtain⟨u,us,rfl,q,i2⟩:=aC_ i
  obtain⟨b,rfl,hb⟩:=hv_ q
  cases r with
  |cons h t=>
   cases h
   exact .cons (nF_ ok hb) (e4_ ok i2 t)
theorem mj_ {ks:List (List Int)} (ok:HOk P w H h) (e:Is H (nK ks) (.ref a)):(k3_ (intKind P w)).is h ks a:=by
 obtain⟨b,vs,eb,hb,hi⟩:=g7_ e
 cases eb
 obtain⟨_,its,r,o,h1,h2,n,h3⟩:=(show ba_ P w H h a (.tup vs) from ok a _ hb)
 exact⟨o,its.toArray,n,h1,h2,h3,by simpa using e4_ ok hi r⟩
theorem k4_ {H':Hp} (ht:∀b ys,H b=some (.tup ys)→H' b=some (.tup ys)) {ks:List (List Int)}{v:V} (h:Is H (nK ks) v):Is H' (nK ks) v:=by
 obtain⟨b,vs,rfl,hb,hi⟩:=g7_ h
 have go:∀{xs:List (List Int)}{vs:List V},Iss H (xs.map tI) vs→Iss H' (xs.map tI) vs:=by
  intro xs
  induction xs with
  |nil=>intro vs h;rw [a7_ h];exact aj_
  |cons x xs ih=>
   intro vs h
   obtain⟨u,us,rfl,q,r⟩:=aC_ h
   obtain⟨c,rfl,hc⟩:=hv_ q
   exact ag_ (mu_ (ht _ _ hc)) (ih r)
 exact iY_ (ht _ _ hb) (go hi)
end
section
variable {X:Cx}{pins:List (Addr×Obj)}{σ:St}{H:Hp}{s:Shared}{a b:Addr}{v:V}{r:Value}{A:Around}{E:Value→Shared→Prop}{kvs:List (List (List Int)×V)}{ks:List (List Int)}
end
section
variable {X:Cx}{o i e f value ek ev:Expr}{pos pos' apos cpos:Pos}{td ty tv tx tk:TE}
end
end L2
namespace L2
open PySem PySem.Spec PyProof.Rows
section
variable {prog:Program}{w:World}{A:Around}{E:Value→Shared→Prop}{s:Shared}
end
section
variable {X:Cx}{elts:List Expr}{k:Nat}{tpos p pos:Pos}{e:Expr}{te:TE}
end
section
variable {prog:Program}{w:World}{A:Around}{E:Value→Shared→Prop}{s:Shared}
end
section
variable {prog:Program}{w:World}{A:Around}{E:Value→Shared→Prop}{s:Shared}
end
section
variable {X:Cx}{elts:List Expr}{k:Nat}{tpos p pos:Pos}{e f:Expr}{te tf:TE}
end
def om_ (K:PySem.W.Frag) (ta:TE):TE:=fun σ H Q=>ta σ H fun x H1=>∃p xs,x= .ref p∧SqL K H1 p xs∧Q (.bl xs.isEmpty) H1
theorem l7_ {X:Cx}{a:Expr}{ta:TE}{pos:Pos} (ha:PE X a ta):PE X (.UnaryOp .Not a pos) (om_ X.K ta):=by
 intro pins s σ H Q I h
 refine UnaryOp_ (thn (ha pins s σ H _ I h) fun v s1 ⟨x,H1,I1,r1,q1⟩=> ?_)
 obtain⟨p,xs,rfl,hx,q⟩:=q1
 cases r1
 obtain⟨its,r,pl,hz⟩:=I1.list hx
 have hlen:=r.length
 have hn:=ey_
 exact not_of (wpAny_truthy_list pl.isList (by simp only [List.size_toArray];omega) ⟨.bl xs.isEmpty,H1,I1.tok _,by rw [dL_ r,Bool.not_not];rfl,q⟩)
end L2
namespace L2
open PySem PySem.Spec PyProof.Rows PySem.W
section
variable {prog:Program}{w:World}{K:Type} [DecidableEq K] {knd:KeyKind prog w K}
inductive ItemsU (knd:KeyKind prog w K) (h:Heap):List (List (List K))→List Value→Prop
 |nil:ItemsU knd h [] []
 |cons {k:List (List K)}{a:Addr}{ks:List (List (List K))}{vs:List Value}:bB_ knd h k a→ItemsU knd h ks vs→ItemsU knd h (k::ks) (.ref a::vs)
def bM_ (knd:KeyKind prog w K) (h:Heap) (ks:List (List (List K))) (a:Addr):Prop:=∃o items n,h.get? a=some o∧o.cls= .type "tuple"∧o.data= .seq items n∧ItemsU knd h ks items.toList
theorem ItemsU.inj {h:Heap}{x y:List (List (List K))}{vs:List Value} (hx:ItemsU knd h x vs) (hy:ItemsU knd h y vs):x=y:=by
 induction hx generalizing y with
 |nil=>cases hy;rfl
 |cons h1 _ ih=>
  cases hy with
  |cons h2 t2=>rw [h1.inj h2,ih t2]
theorem ItemsU.keeps {h h':Heap}{x:List (List (List K))}{vs:List Value}{d:Addr}{o:Obj}{es ep} (hx:ItemsU knd h x vs) (ho:h.get? d=some o) (hd:o.data= .dict es ep) (hs:Heap.SameBut d h h'):ItemsU knd h' x vs:=by
 induction hx with
 |nil=>exact .nil
 |cons h1 _ ih=>exact .cons (h1.keeps ho hd hs) ih
theorem bM_.typeIs {s:Shared}{ks:List (List (List K))}{a:Addr} (x:bM_ knd s.heap ks a):s.TypeIs (.ref a) "tuple":=let ⟨o,_,_,ho,hc,_⟩:=x;⟨o,ho,hc⟩
theorem bM_.inj {h:Heap}{a:Addr}{x y:List (List (List K))} (hx:bM_ knd h x a) (hy:bM_ knd h y a):x=y:=by
 obtain⟨o,items,n,ho,_,hd,hi⟩:=hx
 obtain⟨o',items',n',ho',_,hd',hi'⟩:=hy
 obtain rfl:o=o':=Option.some.inj (ho.symm.trans ho')
 rw [hd] at hd'
 injection hd' with h1 _
 subst h1
 exact hi.inj hi'
theorem bM_.keeps {h h':Heap}{ks:List (List (List K))}{a d:Addr}{o:Obj}{es ep} (x:bM_ knd h ks a) (ho:h.get? d=some o) (hd:o.data= .dict es ep) (hs:Heap.SameBut d h h'):bM_ knd h' ks a:=by
 obtain⟨o',items,n,ho',hc,hd',hi⟩:=x
 have hne:a≠d:=by
  rintro rfl
  obtain rfl:o'=o:=Option.some.inj (ho'.symm.trans ho)
  rw [hd] at hd';exact nomatch hd'
 exact⟨o',items,n,(hs.2 a hne).trans ho',hc,hd',hi.keeps ho hd hs⟩
def fE_ (knd:KeyKind prog w K) (ks:List (List (List K))):Int:=reduceHash (Builtin.Tuple.tupleHashOf (ks.map (bI_ knd)))
def ew_ (ks:List (List (List K))):Nat:=(ks.map cL_).sum+1
variable {A:Around}{E:Value→Shared→Prop}{s:Shared}
theorem hl_ {ks:List (List (List K))}{a:Addr}{Q:Int→Shared→Prop} (hu:A.units+2<cLine) (hk:bM_ knd s.heap ks a) (h:Q (fE_ knd ks) {s with toks:=s.toks+ew_ ks}):
  wpAny (model prog w) A (pyHash (.ref a)) Q E s:=by
 have hT:=hk.typeIs
 obtain⟨o,items,n,ho,_,hd,hi⟩:=hk
 unfold pyHash
 first|unfold pyHashByItsType|skip
 first|refine wpAny_bind (wpAny_cRoomFor_or (.inr (by omega)) ?_)|skip
 refine wpAny_bind (wpAny_specialOf hT F.slot_tuple_hash.lookup ?_)
 show wpAny _ _ (if(some (Value.builtin "tuple.__hash__")==some Value.none)=true then _ else _) Q E s
 rw [if_neg (by rw [beq_builtin_none];exact Bool.false_ne_true)]
 refine wpAny_bind (wpAny_specialOf hT F.slot_tuple_hash.lookup ?_)
 show wpAny _ _ (callSpecialIfBoundUnlessNone? (.ref a) "__hash__" _>>=_) Q E s
 refine wpAny_bind (wpAny_callSpecialIfBoundUnlessNone?_slot hT F.slot_tuple_hash (wpAny_call_entry F.slot_tuple_hash hT F.entry_tuple_hash ?_ (F.args_tuple_hash_1 _)))
 show wpAny _ _ (Builtin.Tuple.tupleItemsOf (.ref a)>>=_) _ _ s
 refine wpAny_bind (wpAny_tupleItemsOf ho hd ?_)
 refine wpAny_bind ?_
 rw [←Array.forIn_toList]
 refine wpAny_forIn_list _
  (fun bC_ (b:Array Int) s'=>∃done left,ks=done++left∧ItemsU knd s.heap left bC_∧b.toList=done.map (bI_ knd)∧s'={s with toks:=s.toks+(done.map cL_).sum})
  _ ?_ ?_ _ _ ⟨[],ks,rfl,hi,rfl,rfl⟩
 ·rintro x bC_ b s' ⟨done,left,rfl,hl,hb,rfl⟩
  cases hl with
  | @cons k a1 ks' _ h1 hl'=>
   refine wpAny_bind (en_ (knd:=knd) (ks:=k) (by first|exact hu|(rw [aB_];omega)|(simp;omega)) h1 ?_)
   first
    |exact wpAny_pure ⟨done++[k],ks',by simp,hl',by simp [hb],by simp [Nat.add_assoc]⟩
    |exact wpAny_bind (wpAny_pure (wpAny_pure ⟨done++[k],ks',by simp,hl',by simp [hb],by simp [Nat.add_assoc]⟩))
 ·rintro b s' ⟨done,left,rfl,hl,hb,rfl⟩
  cases hl
  rw [List.append_nil] at h
  show wpAny _ _ (retInt (Builtin.Tuple.tupleHashOf b.toList)) _ _ _
  rw [hb]
  refine wpAny_ret_mkInt ?_
  show wpAny _ _ (if(decide (-(2:Int)^63≤Builtin.Tuple.tupleHashOf (done.map (bI_ knd)))&&decide (Builtin.Tuple.tupleHashOf (done.map (bI_ knd))<2^63))=true then _ else _) Q E _
  unfold fE_ reduceHash ew_ at h
  by_cases hr:(decide (-(2:Int)^63≤Builtin.Tuple.tupleHashOf (done.map (bI_ knd)))&&decide (Builtin.Tuple.tupleHashOf (done.map (bI_ knd))<2^63))=true
  ·rw [if_pos hr]
   rw [if_pos hr] at h
   exact wpAny_pure (by simpa [Nat.add_assoc] using h)
  ·rw [if_neg hr]
   rw [if_neg hr] at h
   exact wpAny_bind (wpAny_rule (wpAny_pure (by simpa [Nat.add_assoc] using h)))
theorem gv_ {x y:List (List (List K))}{a b:Addr}{P:Fin→Shared→Prop} (hu:A.units+1<cLine) (hx:bM_ knd s.heap x a) (hy:bM_ knd s.heap y b) (h:P (.done (.ret (.bool (decide (x=y))))) s):
  wpAny (model prog w) A (Builtin.«tuple.__eq__» ⟨[.ref a, .ref b],[]⟩) P E s:=by
 have hTb:=hy.typeIs
 obtain⟨oa,xs,na,hoa,_,hda,hia⟩:=hx
 obtain⟨ob,ys,nb,hob,_,hdb,hib⟩:=hy
 show wpAny _ _ (isInstance (.ref b) (.type "tuple")>>=_) _ _ s
 refine wpAny_bind (wpAny_isInstance hTb isSubtype_tuple_tuple ?_)
 simp only [Bool.not_true,Bool.false_eq_true,if_false]
 refine wpAny_bind (wpAny_tupleItemsOf hoa hda ?_)
 refine wpAny_bind (wpAny_tupleItemsOf hob hdb ?_)
 refine wpAny_bind ?_
 refine wpAny_forIn_list _
  (fun bC_ r s'=>r.1=none∧s'=s∧∃x' y' xs' ys',bC_=List.zip xs' ys'∧ItemsU knd s.heap x' xs'∧ItemsU knd s.heap y' ys'∧decide (x'=y')=decide (x=y)∧(xs'.length==ys'.length)=(xs.size==ys.size))
  _ ?_ ?_ _ _ ⟨rfl,rfl,x,y,xs.toList,ys.toList,rfl,hia,hib,rfl,by simp⟩
 ·rintro⟨u,v⟩ bC_ r s' ⟨hr,rfl,x',y',xs',ys',hz,hx',hy',hdec,hlen⟩
  cases hx' with
  |nil=>simp at hz
  | @cons k1 a1 x'' xs'' h1 hx''=>
   cases hy' with
   |nil=>simp at hz
   | @cons k2 a2 y'' ys'' h2 hy''=>
    simp only [List.zip_cons_cons,List.cons.injEq,Prod.mk.injEq] at hz
    obtain⟨⟨rfl,rfl⟩,rfl⟩:=hz
    refine wpAny_bind (eG_ (knd:=knd) (x:=k1) (y:=k2) (by first|exact hu|(rw [aB_];omega)|(simp;omega)) h1 h2 ?_)
    by_cases hk:k1=k2
    ·subst hk
     rw [decide_eq_true rfl]
     simp only [Bool.not_true,Bool.false_eq_true,if_false]
     refine wpAny_pure ⟨rfl,rfl,x'',y'',xs'',ys'',rfl,hx'',hy'', ?_,by simpa using hlen⟩
     rw [←hdec]
     by_cases hxy:x''=y''
     ·simp [hxy]
     ·simp [hxy]
    ·rw [decide_eq_false hk]
     simp only [Bool.not_false,if_true]
     have hf:decide (x=y)=false:=by rw [←hdec];simp [hk]
     rw [hf] at h
     exact wpAny_bind (wpAny_pure (wpAny_pure (wpAny_pure h)))
 ·rintro⟨r1,r2⟩ s' ⟨hr,rfl,x',y',xs',ys',hz,hx',hy',hdec,hlen⟩
  simp only at hr
  subst hr
  refine wpAny_pure ?_
  have hfin:(xs.size==ys.size)=decide (x=y):=by
   rw [←hdec,←hlen]
   cases hx' with
   |nil=>
    cases hy' with
    |nil=>simp
    |cons _ _=>simp
   |cons _ _=>
    cases hy' with
    |nil=>simp
    |cons _ _=>simp at hz
  show P (.done (.ret (.bool (xs.size==ys.size)))) s'
  rw [hfin];exact h
theorem hJ_ {x y:List (List (List K))}{a b:Addr}{Q:Bool→Shared→Prop} (hu:A.units+2<cLine) (hx:bM_ knd s.heap x a) (hy:bM_ knd s.heap y b) (h:Q (decide (x=y)) s):
  wpAny (model prog w) A (eqBool (.ref a) (.ref b)) Q E s:=by
 unfold eqBool
 try with_reducible refine wpAny_holding ?_
 show wpAny _ _ (if(Value.ref a==Value.ref b)=true then _ else _) Q E s
 by_cases hab:(Value.ref a==Value.ref b)=true
 ·rw [if_pos hab]
  have e:a=b:=by have:=eq_of_beq hab;injection this
  subst e
  obtain rfl:=hx.inj hy
  exact wpAny_bind (wpAny_rule (wpAny_pure (by simpa using h)))
 ·rw [if_neg hab]
  exact wpAny_bind (wpAny_richCompare_same_room (op:= .Eq) hx.typeIs hy.typeIs F.slot_tuple_eq
   (wpAny_call_entry F.slot_tuple_eq hx.typeIs F.entry_tuple_eq (gv_ (by first|omega|(rw [aB_];omega)|(simp;omega)) hx hy ⟨_,rfl,(fun e=>nomatch e),wpAny_truthy_bool h⟩) (F.args_tuple_eq_2 _ _)) (by omega))
theorem hk_ {ks:List (List K)}{a:Addr}{m:Nat}{Q:Bool→Shared→Prop} (hk:bB_ knd s.heap ks a) (h:Q true s):wpAny (model prog w) A (eqIsQuiet (m+2) (.ref a)) Q E s:=by
 have hT:=hk.typeIs
 obtain⟨o,items,n,ho,_,hd,hi⟩:=hk
 unfold eqIsQuiet
 refine wpAny_bind (wpAny_specialOf hT F.slot_tuple_eq.lookup ?_)
 show wpAny _ _ (isInstance (.ref a) (.type "tuple")>>=_) _ _ s
 refine wpAny_bind (wpAny_isInstance hT isSubtype_tuple_tuple ?_)
 simp only [Bool.not_true,Bool.false_eq_true,if_false]
 refine wpAny_bind (wpAny_seqItems ho hd ?_)
 refine wpAny_bind ?_
 show wpAny _ _ (forIn items _ _) _ _ s
 rw [←Array.forIn_toList]
 refine wpAny_forIn_list _ (fun bC_ r s'=>r.1=none∧s'=s∧∃x,ItemsT knd s.heap x bC_) _ ?_ ?_ _ _ ⟨rfl,rfl,ks,hi⟩
 ·rintro v bC_ r s' ⟨hr,rfl,x,hall⟩
  cases hall with
  |cons h1 ht=>
   refine wpAny_bind (em_ h1 ?_)
   simp only [Bool.not_true,Bool.false_eq_true,if_false]
   exact wpAny_pure ⟨rfl,rfl,_,ht⟩
 ·rintro⟨r1,r2⟩ s' ⟨hr,rfl,_⟩
  simp only at hr
  subst hr
  exact wpAny_pure h
theorem iQ_ {ks:List (List (List K))}{a:Addr}{Q:Bool→Shared→Prop} (hk:bM_ knd s.heap ks a) (h:Q true s):wpAny (model prog w) A (eqIsQuiet 8 (.ref a)) Q E s:=by
 have hT:=hk.typeIs
 obtain⟨o,items,n,ho,_,hd,hi⟩:=hk
 unfold eqIsQuiet
 refine wpAny_bind (wpAny_specialOf hT F.slot_tuple_eq.lookup ?_)
 show wpAny _ _ (isInstance (.ref a) (.type "tuple")>>=_) _ _ s
 refine wpAny_bind (wpAny_isInstance hT isSubtype_tuple_tuple ?_)
 simp only [Bool.not_true,Bool.false_eq_true,if_false]
 refine wpAny_bind (wpAny_seqItems ho hd ?_)
 refine wpAny_bind ?_
 show wpAny _ _ (forIn items _ _) _ _ s
 rw [←Array.forIn_toList]
 refine wpAny_forIn_list _ (fun bC_ r s'=>r.1=none∧s'=s∧∃x,ItemsU knd s.heap x bC_) _ ?_ ?_ _ _ ⟨rfl,rfl,ks,hi⟩
 ·rintro v bC_ r s' ⟨hr,rfl,x,hall⟩
  cases hall with
  |cons h1 ht=>
   refine wpAny_bind (hk_ h1 ?_)
   simp only [Bool.not_true,Bool.false_eq_true,if_false]
   exact wpAny_pure ⟨rfl,rfl,_,ht⟩
 ·rintro⟨r1,r2⟩ s' ⟨hr,rfl,_⟩
  simp only at hr
  subst hr
  exact wpAny_pure h
end
def cP_ {prog:Program}{w:World}{K:Type} [DecidableEq K] (knd:KeyKind prog w K):HeapKind prog w (List (List (List K))) where
 is:=bM_ knd
 hash:=fE_ knd
 draws:=ew_
 room:=fun A=>A.units+2<cLine
 inj:=fun hx hy=>hx.inj hy
 keeps:=fun x ho hd hs=>x.keeps ho hd hs
 pyHash:=fun hu hk h=>hl_ hu hk h
 eqBool:=fun hu hx hy h=>hJ_ hu hx hy h
 quiet:=fun hk h=>iQ_ hk h
end L2
namespace L2
open PySem PySem.Spec PyProof.Rows PySem.W
def oK (ks:List (List (List Int))):D:= .t (ks.map nK)
theorem ly_ {A:Around}{k:Nat} (hr:Room k A):A.units+3<cLine:=by have:=hr.un;omega
section
variable {P:Program}{w:World}{H:Hp}{h:Heap}{a:Addr}
def oE (P:Program) (w:World) (xs:List (List (List (List Int))×Addr×Value)) (a:Addr) (h:Heap):Prop:=
 ∃o es ep,h.get? a=some o∧o.ExactDict∧o.data= .dict es ep∧es.toList=xs.map (entryOfKey (cP_ (intKind P w)))∧(xs.map (·.1)).Nodup
abbrev NU (H:Hp):List (List (List (List Int))×V)→List (List (List (List Int))×Addr×Value)→Prop:=Paired fun p q=>p.1=q.1∧Is H (oK p.1) (.ref q.2.1)∧bf_ p.2 q.2.2
def DO (P:Program) (w:World) (H:Hp) (a:Addr) (kvs:List (List (List (List Int))×V)):Prop:=kvs.length≤sizeLine∧(a==sysModules)=false∧∃xs,NU H kvs xs∧H a=some (.ext (oE P w xs a))
theorem e5_ (ok:HOk P w H h):∀{ks:List (List (List Int))}{vs:List V}{us:List Value},Iss H (ks.map nK) vs→aQ_ vs us→ItemsU (intKind P w) h ks us
 |[],_,_,i,r=>by rw [a7_ i] at r;cases r;exact .nil
 |k::ks,_,_,i,r=>by
  obtain⟨u,us,rfl,q,i2⟩:=aC_ i
  obtain⟨b,_,rfl,_⟩:=g7_ q
  cases r with
  |cons h t=>
   cases h
   exact .cons (mj_ ok q) (e5_ ok i2 t)
theorem hq_ {ks:List (List (List Int))} (ok:HOk P w H h) (e:Is H (oK ks) (.ref a)):(cP_ (intKind P w)).is h ks a:=by
 obtain⟨b,vs,eb,hb,hi⟩:=g7_ e
 cases eb
 obtain⟨_,its,r,o,h1,h2,n,h3⟩:=(show ba_ P w H h a (.tup vs) from ok a _ hb)
 exact⟨o,its.toArray,n,h1,h2,h3,by simpa using e5_ ok hi r⟩
theorem nU_ {kvs:List (List (List (List Int))×V)} (ok:HOk P w H h) (e:DO P w H a kvs):kvs.length≤sizeLine∧(a==sysModules)=false∧∃xs,NU H kvs xs∧H a=some (.ext (oE P w xs a))∧h.DictOfH (cP_ (intKind P w)) a xs:=by
 obtain⟨z,y,xs,r,e⟩:=e
 obtain⟨⟨o,es,ep,h1,h2,h3,h4,h5⟩,_,_⟩:=(show ba_ P w H h a (.ext (oE P w xs a)) from ok a _ e)
 refine⟨z,y,xs,r,e,o,es,ep,h1,h2,h3,h4,fun x hx=> ?_,h5⟩
 have all:∀{l:List (List (List (List Int))×V)}{m:List (List (List (List Int))×Addr×Value)},NU H l m→∀x∈m,(cP_ (intKind P w)).is h x.1 x.2.1:=by
  intro l m q
  induction q with
  |nil=>intro x hx;exact nomatch hx
  | @cons p q ps qs hq t ih=>
   intro x hx
   rcases List.mem_cons.mp hx with e|hx
   ·subst e
    exact hq_ ok (by rw [←hq.1];exact hq.2.1)
   ·exact ih x hx
 exact all r x hx
theorem nV_ {xs:List (List (List (List Int))×Addr×Value)}{H':Hp} (d:∃o es ep,h.get? a=some o∧o.ExactDict∧o.data= .dict es ep∧es.toList=xs.map (entryOfKey (cP_ (intKind P w)))∧(xs.map (·.1)).Nodup):ba_ P w H' h a (.ext (oE P w xs a)):=by
 refine⟨d,let ⟨o,_,_,h1,_⟩:=d;⟨o,h1⟩,fun h1 h2 f k=> ?_⟩
 obtain⟨o,es,ep,e1,r⟩:=f
 exact⟨o,es,ep,k o e1,r⟩
theorem NU.val {kvs:List (List (List (List Int))×V)}{xs:List (List (List (List Int))×Addr×Value)} (r:NU H kvs xs) (k:List (List (List Int))):mT_ (ku_ kvs k) ((atKey xs k).map (·.2)):=by
 induction r with
 |nil=>exact True.intro
 | @cons p q ps qs h t ih=>
  obtain⟨h1,_,h2⟩:=h
  by_cases e:p.1=k
  ·have e':q.1=k:=h1.symm.trans e
   have b:atKey (q::qs) k=some q.2:=by simp [atKey,List.find?_cons,e']
   rw [hT_ e,b];exact h2
  ·have e':¬q.1=k:=fun z=>e (h1.trans z)
   have b:atKey (q::qs) k=atKey qs k:=by simp [atKey,List.find?_cons,e']
   rw [hU_ e,b];exact ih
theorem NU.repl {kvs:List (List (List (List Int))×V)}{xs:List (List (List (List Int))×Addr×Value)} (r:NU H kvs xs) (k:List (List (List Int))) {y:V}{u:Value} (ry:bf_ y u):
  NU H (kvs.map fun kv=>if kv.1=k then(kv.1,y) else kv) (xs.map (putAt k u)):=by
 induction r with
 |nil=>exact .nil
 | @cons p q ps qs h t ih=>
  rw [List.map_cons,List.map_cons]
  refine .cons ?_ ih
  obtain⟨h1,h2,h3⟩:=h
  unfold putAt
  by_cases e:p.1=k
  ·rw [if_pos e,if_pos (h1.symm.trans e)];exact⟨h1,h2,ry⟩
  ·rw [if_neg e,if_neg (fun z=>e (h1.trans z))];exact⟨h1,h2,h3⟩
theorem NU.put {kvs:List (List (List (List Int))×V)}{xs:List (List (List (List Int))×Addr×Value)} (r:NU H kvs xs) (k:List (List (List Int))) {b:Addr}{y:V}{u:Value} (hb:Is H (oK k) (.ref b)) (ry:bf_ y u):
  NU H (kQ_ kvs k y) (storedH xs k b u):=by
 have e:(kvs.any fun kv=>decide (kv.1=k))=(atKey xs k).isSome:=by
  rw [d1_,(r.val k).isSome_eq,Option.isSome_map]
 unfold kQ_ storedH
 rw [e]
 by_cases q:(atKey xs k).isSome=true
 ·rw [if_pos q,if_pos q];exact r.repl k ry
 ·rw [if_neg q,if_neg q];exact Paired.snoc r ⟨rfl,hb,ry⟩
theorem k1_ {H':Hp} (ht:∀b ys,H b=some (.tup ys)→H' b=some (.tup ys)) {ks:List (List (List Int))}{v:V} (h:Is H (oK ks) v):Is H' (oK ks) v:=by
 obtain⟨b,vs,rfl,hb,hi⟩:=g7_ h
 have go:∀{xs:List (List (List Int))}{vs:List V},Iss H (xs.map nK) vs→Iss H' (xs.map nK) vs:=by
  intro xs
  induction xs with
  |nil=>intro vs h;rw [a7_ h];exact aj_
  |cons x xs ih=>
   intro vs h
   obtain⟨u,us,rfl,q,r⟩:=aC_ h
   exact ag_ (k4_ ht q) (ih r)
 exact iY_ (ht _ _ hb) (go hi)
theorem NU.keeps {H':Hp}{kvs:List (List (List (List Int))×V)}{xs:List (List (List (List Int))×Addr×Value)} (r:NU H kvs xs) (ht:∀b ys,H b=some (.tup ys)→H' b=some (.tup ys)):NU H' kvs xs:=
 Paired.mapP r fun _ _ z=>⟨z.1,k1_ ht z.2.1,z.2.2⟩
theorem DO.mono {H':Hp}{kvs:List (List (List (List Int))×V)} (s:al_ H H') (d:DO P w H a kvs):DO P w H' a kvs:=by
 obtain⟨z,y,xs,r,e⟩:=d
 exact⟨z,y,xs,r.keeps fun b ys=>s b _,s _ _ e⟩
theorem DO.mut {kvs:List (List (List (List Int))×V)} (d:DO P w H a kvs):Mut (H a):=by
 obtain⟨_,_,xs,_,e⟩:=d
 rw [e]
 exact True.intro
theorem DO.ntup {kvs:List (List (List (List Int))×V)} (d:DO P w H a kvs) {b:Addr}{ys:List V} (e:H b=some (.tup ys)):b≠a:=by
 obtain⟨_,_,xs,_,e2⟩:=d
 rintro rfl
 rw [e2] at e
 cases e
end
section
variable {X:Cx}{pins:List (Addr×Obj)}{σ:St}{H:Hp}{s:Shared}{a b:Addr}{v:V}{r:Value}{A:Around}{E:Value→Shared→Prop}{kvs:List (List (List (List Int))×V)}{ks:List (List (List Int))}
theorem gj_ {prog:Program}{w:World}{A:Around} (hu:A.units+3<cLine):(cP_ (intKind prog w)).room A.in1:=by
 show A.in1.units+2<cLine
 rw [aB_]
 omega
theorem pD_ {Q:Value→Shared→Prop} (hu:A.units+3<cLine) (I:Inv X pins σ H s) (d:DO X.prog X.w H a kvs) (k:Is H (oK ks) (.ref b)) (h:∀s',Inv X pins σ H s'→Q (.bool (ku_ kvs ks).isSome) s'):
  wpAny (model X.prog X.w) A (compareOp .In (.ref b) (.ref a)) Q E s:=by
 obtain⟨z,hd,xs,rel,_,dd⟩:=nU_ I.hok d
 refine wpAny_in_heap (gj_ hu) (hq_ I.hok k) hd dd ?_
 have q:=(rel.val ks).isSome_eq
 rw [Option.isSome_map] at q
 rw [←q]
 exact h _ (I.tok _)
theorem jE_ {Q:Unit→Shared→Prop} (hu:A.units+3<cLine) (I:Inv X pins σ H s) (d:DO X.prog X.w H a kvs) (k:Is H (oK ks) (.ref b)) (hl:kvs.length<sizeLine) (rv:bf_ v r)
  (h:∀H' s',DO X.prog X.w H' a (kQ_ kvs ks v)→(∀b,b≠a→H' b=H b)→Inv X pins σ H' s'→Q () s'):wpAny (model X.prog X.w) A (setItem (.ref a) (.ref b) r) Q E s:=by
 obtain⟨z,hd,xs,rel,e,dd⟩:=nU_ I.hok d
 have hz:xs.length≤sizeLine:=by rw [←Paired.length rel];exact z
 have hl':(kQ_ kvs ks v).length≤sizeLine:=by have:=hA_ kvs ks v;omega
 refine wpAny_setItem_heap (hsz:=hz) (gj_ hu) (hq_ I.hok k) dd fun h' dd' hs=> ?_
 obtain⟨q,es,ep,hq,h2,h3,h4,_,h5⟩:=dd'
 refine h (upd H a (.ext (oE X.prog X.w (storedH xs ks b r) a))) _ ⟨hl',hd,_,(rel.put ks k rv).keeps fun c ys ec=> ?_,ae_⟩ (fun c hc=>ar_ hc) (mF_ I d.mut hs ⟨q,hq⟩ (nV_ ⟨q,es,ep,hq,h2,h3,h4,h5⟩))
 rw [ar_ (d.ntup ec)]
 exact ec
end
def pn_ (P:Program) (w:World) (ty td:TE):TE:=fun σ H Q=>ty σ H fun y H1=>td σ H1 fun x H2=>∃a kvs ks,x= .ref a∧DO P w H2 a kvs∧Is H2 (oK ks) y∧Q (.bl (ku_ kvs ks).isSome) H2
def oO_ (P:Program) (w:World) (td ty tv:TE):TS:=fun D σ H=>tv σ H fun v H1=>td σ H1 fun x H2=>ty σ H2 fun y H3=>∃a kvs ks,x= .ref a∧DO P w H3 a kvs∧Is H3 (oK ks) y∧kvs.length<sizeLine∧∀H4,DO P w H4 a (kQ_ kvs ks v)→(∀b,b≠a→H4 b=H3 b)→D.nx σ H4
def ok_ (P:Program) (w:World):TE:=fun _ H Q=>∀p H',H p=none→DO P w H' p []→(∀b,b≠p→H' b=H b)→Q (.ref p) H'
section
variable {X:Cx}{o i e f value ek ev:Expr}{pos pos' apos cpos:Pos}{td ty tv tx tk:TE}
theorem pd_ {H:Hp}{ks:List (List (List Int))}{y:V}{u:Value} (h:Is H (oK ks) y) (r:bf_ y u):∃b,y= .ref b∧u= .ref b:=by
 obtain⟨b,_,rfl,_⟩:=g7_ h
 exact⟨b,rfl,r⟩
theorem nq_ (hu:X.A.units+3<cLine) (hi:PE X i ty) (ho:PE X o td):PC X .In i o (pn_ X.prog X.w ty td):=by
 intro pins s σ H Q I h
 refine thn (hi pins s σ H _ I h) fun iv s1 ⟨y,H1,I1,ry,q1⟩=>thn (ho pins s1 σ H1 _ I1 q1) fun u s2 ⟨x,H2,I2,rx,a,kvs,ks,ex,d,k,q2⟩=> ?_
 subst ex
 obtain rfl:u=Value.ref a:=rx
 obtain⟨b,rfl,rfl⟩:=pd_ k ry
 exact pD_ hu I2 d k fun s3 I3=>⟨.bl _,H2,I3,rfl,q2⟩
theorem l3_ (hu:X.A.units+3<cLine) (ho:PE X o td) (hi:PE X i ty) (hv:PE X value tv) (hs:swapsWith value (some (.Subscript o i pos')) pos.line X.env=pure false):
  PS X (.Assign [.Subscript o i pos'] value pos) (oO_ X.prog X.w td ty tv):=by
 intro pins s σ H D I h
 refine wpAny_Assign_Subscript (thn (hv pins s σ H _ I h) fun r s1 ⟨v,H1,I1,rv,q1⟩=>thn (ho pins s1 σ H1 _ I1 q1) fun u s2 ⟨x,H2,I2,rx,q2⟩=>thn (hi pins s2 σ H2 _ I2 q2) fun iv s3 ⟨y,H3,I3,ry,a,kvs,ks,ex,d,k,hl,q3⟩=> ?_) hs
 subst ex
 obtain rfl:u=Value.ref a:=rx
 obtain⟨b,rfl,rfl⟩:=pd_ k ry
 exact jE_ hu I3 d k hl rv fun H4 s4 d4 k4 I4=>⟨σ,H4,I4,q3 H4 d4 k4⟩
theorem lf_ {P:Program}{w:World}{H:Hp}{h:Heap}{p:Addr} (hp:p=h.objs.size) (hb:sysModules<h.objs.size):DO P w (upd H p (.ext (oE P w [] p))) p []:=by
 subst hp
 exact⟨Nat.zero_le _,beq_eq_false_iff_ne.mpr (Ne.symm (Nat.ne_of_lt hb)),[], .nil,ae_⟩
theorem hK_ {P:Program}{w:World}{H:Hp} (h:Heap):ba_ P w H (h.push {cls:= .type "dict",data:= .dict #[]}) h.objs.size (.ext (oE P w [] h.objs.size)):=
 nV_ ⟨_, #[],0,Heap.get?_push_size _ rfl,⟨rfl,rfl,rfl⟩,rfl,rfl,List.nodup_nil⟩
theorem l6_:PE X (.Dict [] [] pos) (ok_ X.prog X.w):=fun pins s σ H Q I h=>
 wpAny_Dict_empty ⟨.ref s.heap.objs.size,_,I.laid (a:=s.heap.objs.size) (o:= .ext (oE X.prog X.w [] s.heap.objs.size)) (t':=s.toks) (fun _ _ q=>Heap.get?_push_of_some _ q) (Nat.le_refl _) (hK_ s.heap),rfl,h _ _ (I.hok.fresh (Nat.le_refl _)) (lf_ rfl I.big) (fun b hb=>ar_ hb)⟩
end
end L2
namespace L2
open PySem PySem.Spec PyProof.Rows
section
variable {X:Cx}
def lZ_:V→List V→Hp→VK→Prop:=fun x vs H Q=>∃(l:Addr) (xs:List V) (y:V) (i:Int),x= .ref l∧vs=[.int i,y]∧H l=some (.lst xs)∧xs.length<sizeLine∧0≤i∧i≤xs.length∧Q .non (upd H l (.lst (xs.take i.toNat++y::xs.drop i.toNat)))
theorem jF_:MtM X "list.insert" lZ_:=by
 intro pins s σ H x vs v us Q I rx rv h
 obtain⟨l,xs,y,i,rfl,rfl,hH,hz,i0,hi,q⟩:=h
 cases rx
 obtain⟨u1,u2,rfl,ru1,ru2⟩:=rv.two
 obtain⟨t1,rfl⟩:=ru1
 obtain⟨z,its,n,r,hl,e⟩:=I.lstM hH
 have ln:=r.length
 have fits:Builtin.List.listFitsIndex i=true:=by
  unfold Builtin.List.listFitsIndex
  rw [sizeLine_eq] at hz
  simp
  omega
 refine call_meets F.slot_list_insert ⟨_,e,rfl⟩ F.entry_list_insert (F.args_list_insert_3 _ _ _) (PySem.AutoSeq1.list_insert_list_int_val_1 l its.toArray n i t1 u2 (by rw [fits];exact Bool.false_ne_true) (by rw [List.size_toArray];omega)) ⟨e, ?_⟩
 refine⟨.non,_,I.lset (its':=its.take i.toNat++u2::its.drop i.toNat) hH e ?_ ((r.take i.toNat).append (.cons ru2 (r.drop i.toNat))) ?_,rfl,q⟩
 ·have hk:(if i<0 then(i+((its.toArray.size:Nat):Int)).toNat else min i.toNat its.toArray.size)=i.toNat:=by
   rw [if_neg (by omega),List.size_toArray]
   omega
  show(its.toArray.extract 0 (if i<0 then(i+((its.toArray.size:Nat):Int)).toNat else min i.toNat its.toArray.size)).push u2++its.toArray.extract (if i<0 then(i+((its.toArray.size:Nat):Int)).toNat else min i.toNat its.toArray.size)=_
  rw [hk]
  simp [List.extract_toArray,List.extract_eq_drop_take]
  exact List.take_of_length_le (by rw [List.length_drop];omega)
 ·rw [List.length_append,List.length_cons,List.length_take,List.length_drop]
  omega
end
end L2
namespace L2
open PySem PySem.Spec PyProof.Rows
def Itu (lo st:Int) (n:Nat):It:=⟨fun i _=>i<n,fun i H x H'=>H'=H∧x= .int (lo+i*st),fun i _=>n≤i⟩
theorem lK_ {P:Program}{w:World}{K:PySem.W.Frag}{tg:Expr} (it:Addr) (lo st:Int) (n:Nat):Turn P w K tg (Itu lo st n) [it] it (fun i h=>IsRangeIter h it (lo+(i:Nat)*st) ((n:Int)-(i:Nat)) st) where
 mem:=by simp
 obj:=fun i h st b hb=>by
  obtain rfl:b=it:=by simpa using hb
  exact⟨_,st,fun v z=>by cases (show Data.fields _=Data.cell v from z)⟩
 keep:=fun i h h' st k=>k it (by simp) _ st
 item:=by
  intro X hP hw hK hc i pins s σ H E I hf sx hg
  subst hP hw hK
  obtain⟨f0,f1,f2,f3,f4,f5⟩:=hf it (by simp)
  refine(Walks.range (prog:=X.prog) (w:=X.w) (I.ok.hd hc) it lo st n).item i s _ _ hg sx fun v h' tk hv st' kk=> ?_
  obtain⟨t,rfl⟩:=hv
  have I1:Inv X pins σ H {s with heap:=h',toks:=tk}:=I.turned (fun b o hb e=>kk b o (by simpa using hb) e) f0 f1 f3 f4 f5
  exact⟨_,rfl,go_of (s:={s with heap:=h',toks:=tk}) (n:="range_iterator") st' rfl rfl (by decide) ⟨.int (lo+i*st),H,I1,⟨t,rfl⟩,⟨rfl,rfl⟩,st',fun b hb=>(hf b hb).1⟩⟩
 done:=by
  intro X hP hw hK hc i pins s σ H E I hf sx hg
  subst hP hw hK
  obtain⟨f0,f1,f2,f3,f4,f5⟩:=hf it (by simp)
  exact wpAny_pyNext_range_end (I.ok.hd hc) sx (by have:n≤i:=hg;omega) fun h' eb=>⟨rfl,I.turned (t':=s.toks) (fun b o hb e=>eb b o hb e) f0 f1 f3 f4 f5⟩
 self:=fun _ _ _ _ _ sx h=>wpAny_pyIter_rangeiter sx h
def kw_ (a b st:Int):Nat:=(Builtin.Range.rangeSize a b st).toNat
theorem je_ {a b st:Int} (hs:0<st):Builtin.Range.rangeSize a b st=if a<b then(b-a-1)/st+1 else 0:=by
 unfold Builtin.Range.rangeSize
 rw [if_pos hs]
theorem eK_ {a b st:Int} (hs:0<st):(kw_ a b st:Int)=Builtin.Range.rangeSize a b st∧Builtin.Range.rangeSize a b st≤if a<b then b-a else 0:=by
 unfold kw_
 rw [je_ hs]
 split
 ·have h1:0≤(b-a-1)/st:=Int.ediv_nonneg (by omega) (by omega)
  have h2:(b-a-1)/st≤b-a-1:=Int.ediv_le_self _ (by omega)
  omega
 ·omega
theorem kF_ {a b st:Int} (ha: -(2^62)≤a) (ha':a<2^62) (hb: -(2^62)≤b) (hb':b<2^62) (hs:0<st) (hs':st<2^30):Builtin.Range.small a b st=true:=by
 have h:=(eK_ (a:=a) (b:=b) hs).2
 have h0:=(eK_ (a:=a) (b:=b) hs).1
 unfold Builtin.Range.small
 simp only [Builtin.Range.rangeFitsLong,Bool.and_eq_true,Bool.or_eq_true,decide_eq_true_eq,beq_iff_eq,show(st>0)=True by simp [hs],if_true]
 split at h<;>omega
section
variable {X:Cx}{tg:Expr}
theorem og_ {pins:List (Addr×Obj)}{σ:St}{H:Hp}{s:Shared}{R:It→Hp→Prop}{E:Value→Shared→Prop}{lo hi st:Int}{t u v:Tok}{tk:Nat} (I:Inv X pins σ H s) (h1: -(2^62)≤lo) (h2:lo<2^62) (h3: -(2^62)≤hi) (h4:hi<2^62) (h5:0<st) (h6:st<2^30)
  (q:R (Itu lo st (kw_ lo hi st)) H):wpAny (model X.prog X.w) X.A (pyIter (.ref s.heap.objs.size)) (PIE X pins σ tg R) E {s with heap:=s.heap.push {cls:= .type "range",data:= .fields #[.int lo t, .int hi u, .int st v]},toks:=tk}:=by
 refine wpAny_pyIter_range (IsRange.new ..) (kF_ h1 h2 h3 h4 h5 h6) ?_
 generalize hg:s.heap.push {cls:= .type "range",data:= .fields #[.int lo t, .int hi u, .int st v]}=g
 have I1:Inv X pins σ H {s with heap:=g,toks:=tk}:=I.kept fun b o e=>by rw [←hg];exact Heap.get?_push_of_some _ e
 refine⟨g.objs.size,[g.objs.size],_,_,H,rfl,I1.kept (t':=tk) fun b o e=>Heap.get?_push_of_some _ e,lK_ _ lo st (kw_ lo hi st), ?_,fun b hb=> ?_,q⟩
 ·have e1:lo+((0:Nat):Int)*st=lo:=by simp
  have e2:(((kw_ lo hi st):Nat):Int)-((0:Nat):Int)=Builtin.Range.rangeSize lo hi st:=by rw [(eK_ h5).1];simp
  show IsRangeIter _ _ (lo+((0:Nat):Int)*st) ((((kw_ lo hi st):Nat):Int)-((0:Nat):Int)) st
  rw [e1,e2]
  exact Heap.get?_push_size _ rfl
 ·obtain rfl:b=g.objs.size:=by simpa using hb
  exact I1.fpOk (Nat.le_refl _) (I1.hok.fresh (Nat.le_refl _))
def iUp (ta:TA):TI:=fun σ H R=>ta σ H fun vs H1=>∃i j st:Int,vs=[.int i, .int j, .int st]∧(-(2^62)≤i∧i<2^62∧-(2^62)≤j∧j<2^62)∧(0<st∧st<2^30)∧R (Itu i st (kw_ i j st)) H1
theorem oT_ {a b c:Expr}{ta:TA}{p pos:Pos} (hg:Gl X "range") (hm:X.mg "range"=none) (ha:PA X [a,b,c] ta) (hs:starEach [a,b,c] X.env=(false,eval a X.env)::starEach [b,c] X.env:=by rfl) (hs2:(backTo pos (starEach [b,c] X.env)).any (·.1)=false:=by rfl):
  PI X tg (.Call (.Name "range" p) [a,b,c] [] pos) (iUp ta):=by
 intro pins s σ H R I h
 refine Call_ (ds_ I hg hm boot_range (PyProof.Rows.callWith_type1 (thn (ha pos pins s σ H _ I h) fun us s1 ⟨vs,H1,I1,r1,q1⟩=> ?_) hs hs2))
 obtain⟨i,j,st,e,⟨q1,q2,q3,q4⟩,⟨q5,q6⟩,q⟩:=q1
 subst e
 cases r1 with
 |cons r rr=>
  cases rr with
  |cons r' rr=>
   cases rr with
   |cons r2 rr=>
    cases rr
    obtain⟨t,rfl⟩:=r
    obtain⟨t',rfl⟩:=r'
    obtain⟨t2,rfl⟩:=r2
    exact call_range_3 (by omega) (og_ I1 q1 q2 q3 q4 q5 q6 q) (.inl (PyProof.noPylong_small (by omega)))
end
theorem nS_ {lo st:Int}{n:Nat}{g:TG}{tb:TS}{D:Ends}{σ:St}{H:Hp} (Pv:Nat→St→Hp→Prop) (h0:Pv 0 σ H)
  (hs:∀i σ H,i<n→Pv i σ H→g (.int (lo+i*st)) σ H fun σ2 H2=>tb {D with nx:=Pv (i+1),ct:=Pv (i+1),bk:=D.nx} σ2 H2) (hd:∀σ H,Pv n σ H→D.nx σ H):
  ∃W:Nat→Nat→St→Hp→Prop,(∃m,W 0 m σ H)∧∀i m σ H,W i m σ H→
   ((Itu lo st n).stop i H∧D.nx σ H)∨((Itu lo st n).go i H∧∃N:St→Hp→Prop,(∀σ' H',N σ' H'→∃m',m'<m∧W (i+1) m' σ' H')∧∀x H',(Itu lo st n).yld i H x H'→g x σ H' fun σ2 H2=>tb {D with nx:=N,ct:=N,bk:=D.nx} σ2 H2):=by
 refine⟨fun i m σ H=>m=n-i∧i≤n∧Pv i σ H,⟨n,by simp,Nat.zero_le _,h0⟩, ?_⟩
 rintro i m σ H ⟨rfl,hi',p⟩
 by_cases hlt:i<n
 ·refine .inr ⟨hlt,Pv (i+1),fun σ' H' p'=>⟨n-(i+1),by omega,rfl,hlt,p'⟩,fun x H' y=> ?_⟩
  obtain⟨e,y⟩:=y
  subst e y
  exact hs i σ _ hlt p
 ·obtain rfl:i=n:=by omega
  exact .inl ⟨Nat.le_refl _,hd σ H p⟩
theorem oh_ {lo hi st:Int} (hs:0<st) {i:Nat} (h:i<kw_ lo hi st):lo≤lo+i*st∧lo+i*st<hi:=by
 have e:=(eK_ (a:=lo) (b:=hi) hs).1
 rw [je_ hs] at e
 have i0:0≤(i:Int)*st:=Int.mul_nonneg (by omega) (by omega)
 split at e
 ·have h1:(i:Int)≤(hi-lo-1)/st:=by omega
  have h2:=Int.mul_le_mul_of_nonneg_right h1 (show 0≤st by omega)
  have h3:=Int.ediv_mul_le (hi-lo-1) (show st≠0 by omega)
  omega
 ·omega
end L2
namespace Mine
open PySem L2 PyProof.Rows
def top (i:Nat):Stmt:=PySem.Challenge.pw_floorcurves_k76_spoilt_papers.main.body.getD i (.Pass ⟨0,0,0,0⟩)
abbrev dB_:Stmt:=top 6
theorem hg_:FnScope ["thing"] ["thing"] (ah_ dB_):=⟨rfl,rfl,rfl,by decide+kernel,rfl,by decide+kernel,by decide+kernel⟩
abbrev bU_:Stmt:=top 7
theorem eg_:FnScope ["thing","least","greatest"] ["thing","least","greatest"] (ah_ bU_):=⟨rfl,rfl,rfl,by decide+kernel,rfl,by decide+kernel,by decide+kernel⟩
abbrev c8_:Stmt:=top 8
theorem gg_:FnScope ["d","k"] ["d","k"] (ah_ c8_):=⟨rfl,rfl,rfl,by decide+kernel,rfl,by decide+kernel,by decide+kernel⟩
abbrev b8_:Stmt:=top 9
theorem eP_:FnScope ["d"] ["d"] (ah_ b8_):=⟨rfl,rfl,rfl,by decide+kernel,rfl,by decide+kernel,by decide+kernel⟩
abbrev el_:Stmt:=top 11
theorem b2_:FnScope ["d","drawing","ends","i","j","w"] ["d","drawing"] (ah_ el_):=⟨rfl,rfl,rfl,by decide+kernel,rfl,by decide+kernel,by decide+kernel⟩
abbrev hi_:Stmt:=top 12
theorem kK_:FnScope ["d","drawing"] ["d","drawing"] (ah_ hi_):=⟨rfl,rfl,rfl,by decide+kernel,rfl,by decide+kernel,by decide+kernel⟩
abbrev ji_:Stmt:=top 13
theorem lX_:FnScope ["lift"] ["lift"] (ah_ ji_):=⟨rfl,rfl,rfl,by decide+kernel,rfl,by decide+kernel,by decide+kernel⟩
abbrev cw_:Stmt:=top 14
theorem bD_:FnScope ["d","floor","weight","spare","found","j","w"] ["d","floor","weight","spare"] (ah_ cw_):=⟨rfl,rfl,rfl,by decide+kernel,rfl,by decide+kernel,by decide+kernel⟩
abbrev ej_:Stmt:=top 15
theorem b1_:FnScope ["lifts","weight","spare","found","place","lift","rest"] ["lifts","weight","spare"] (ah_ ej_):=⟨rfl,rfl,rfl,by decide+kernel,rfl,by decide+kernel,by decide+kernel⟩
abbrev bw_:Stmt:=top 16
theorem a3_:FnScope ["d","floor","drawing","spare","there","found","lifts","ends","left"] ["d","floor","drawing","spare"] (ah_ bw_):=⟨rfl,rfl,rfl,by decide+kernel,rfl,by decide+kernel,by decide+kernel⟩
abbrev cO_:Stmt:=top 17
theorem bd_:FnScope ["d","k","begun","floor","longer","drawing","spare"] ["d","k"] (ah_ cO_):=⟨rfl,rfl,rfl,by decide+kernel,rfl,by decide+kernel,by decide+kernel⟩
abbrev hh_:Stmt:=top 18
theorem d4_:FnScope ["drawing","product","lift"] ["drawing"] (ah_ hh_):=⟨rfl,rfl,rfl,by decide+kernel,rfl,by decide+kernel,by decide+kernel⟩
abbrev cv_:Stmt:=top 20
theorem fj_:FnScope ["d","drawing"] ["d","drawing"] (ah_ cv_):=⟨rfl,rfl,rfl,by decide+kernel,rfl,by decide+kernel,by decide+kernel⟩
abbrev c9_:Stmt:=top 21
theorem bO_:FnScope ["d","drawing","found","place","number"] ["d","drawing"] (ah_ c9_):=⟨rfl,rfl,rfl,by decide+kernel,rfl,by decide+kernel,by decide+kernel⟩
abbrev b9_:Stmt:=top 22
theorem gh_:FnScope ["mark","floor","waiting"] ["mark","floor","waiting"] (ah_ b9_):=⟨rfl,rfl,rfl,by decide+kernel,rfl,by decide+kernel,by decide+kernel⟩
abbrev bK_:Stmt:=top 23
theorem cm_:FnScope ["waiting","mark","place"] ["waiting","mark"] (ah_ bK_):=⟨rfl,rfl,rfl,by decide+kernel,rfl,by decide+kernel,by decide+kernel⟩
abbrev fn_:Stmt:=top 24
theorem cu_:FnScope ["floor","waiting","found","mark","reached","rest"] ["floor","waiting"] (ah_ fn_):=⟨rfl,rfl,rfl,by decide+kernel,rfl,by decide+kernel,by decide+kernel⟩
abbrev ca_:Stmt:=top 25
theorem gi_:FnScope ["d","drawing"] ["d","drawing"] (ah_ ca_):=⟨rfl,rfl,rfl,by decide+kernel,rfl,by decide+kernel,by decide+kernel⟩
abbrev dA_:Stmt:=top 26
theorem hf_:FnScope ["d","drawing"] ["d","drawing"] (ah_ dA_):=⟨rfl,rfl,rfl,by decide+kernel,rfl,by decide+kernel,by decide+kernel⟩
abbrev fm_:Stmt:=top 28
theorem fi_:FnScope ["d","k","found","drawing"] ["d","k"] (ah_ fm_):=⟨rfl,rfl,rfl,by decide+kernel,rfl,by decide+kernel,by decide+kernel⟩
abbrev ek_:Stmt:=top 29
theorem iO_:FnScope ["d","lift"] ["d","lift"] (ah_ ek_):=⟨rfl,rfl,rfl,by decide+kernel,rfl,by decide+kernel,by decide+kernel⟩
abbrev bP_:Stmt:=top 30
theorem fk_:FnScope ["d","k","lifts"] ["d","k","lifts"] (ah_ bP_):=⟨rfl,rfl,rfl,by decide+kernel,rfl,by decide+kernel,by decide+kernel⟩
abbrev cx_:Stmt:=top 31
theorem a4_:FnScope ["d","drawing","marks","waiting","floor","mark"] ["d","drawing","marks"] (ah_ cx_):=⟨rfl,rfl,rfl,by decide+kernel,rfl,by decide+kernel,by decide+kernel⟩
abbrev ei_:Stmt:=top 32
theorem bs_:FnScope ["d","k","paper","seen","total","drawing","marking","entry"] ["d","k","paper"] (ah_ ei_):=⟨rfl,rfl,rfl,by decide+kernel,rfl,by decide+kernel,by decide+kernel⟩
abbrev bW_:Stmt:=top 34
theorem eh_:FnScope ["_law_script","_law_k"] ["_law_script","_law_k"] (ah_ bW_):=⟨rfl,rfl,rfl,by decide+kernel,rfl,by decide+kernel,by decide+kernel⟩
abbrev dD_:Stmt:=top 35
theorem c7_:FnScope ["_law_cell","_law_place","_law_far"] ["_law_cell","_law_place"] (ah_ dD_):=⟨rfl,rfl,rfl,by decide+kernel,rfl,by decide+kernel,by decide+kernel⟩
abbrev cy_:Stmt:=top 36
theorem fl_:FnScope ["_law_bag_here"] ["_law_bag_here"] (ah_ cy_):=⟨rfl,rfl,rfl,by decide+kernel,rfl,by decide+kernel,by decide+kernel⟩
abbrev cz_:Stmt:=top 37
theorem bj_:FnScope ["_law_bag_here","_law_many","_law_found","_law_k"] ["_law_bag_here","_law_many"] (ah_ cz_):=⟨rfl,rfl,rfl,by decide+kernel,rfl,by decide+kernel,by decide+kernel⟩
abbrev bx_:Stmt:=top 38
theorem a5_:FnScope ["_law_d","_law_drawing","_law_found","_law_floor","_law_many","_law_turn"] ["_law_d","_law_drawing"] (ah_ bx_):=⟨rfl,rfl,rfl,by decide+kernel,rfl,by decide+kernel,by decide+kernel⟩
abbrev bk_:Stmt:=top 39
theorem an_:FnScope ["_law_one","_law_d","_law_k","_law_drawing","_law_marking","_law_ends","_law_low","_law_high","_law_weight","_law_floors","_law_passed"] ["_law_one","_law_d","_law_k"] (ah_ bk_):=⟨rfl,rfl,rfl,by decide+kernel,rfl,by decide+kernel,by decide+kernel⟩
abbrev dC_:Stmt:=top 40
theorem aT_:FnScope ["_law_some","_law_d","_law_k","_law_total","_law_at","_law_squares","_law_low","_law_high","_law_weight"] ["_law_some","_law_d","_law_k"] (ah_ dC_):=⟨rfl,rfl,rfl,by decide+kernel,rfl,by decide+kernel,by decide+kernel⟩
abbrev da_:Stmt:=top 41
theorem bv_:FnScope ["_law_bag_here","_law_some","_law_step","_law_start","_law_found","_law_k"] ["_law_bag_here","_law_some"] (ah_ da_):=⟨rfl,rfl,rfl,by decide+kernel,rfl,by decide+kernel,by decide+kernel⟩
abbrev bV_:Stmt:=top 42
theorem bi_:FnScope ["_law_bag_here","_law_row","_law_d","_law_far","_law_odd","_law_at"] ["_law_bag_here","_law_row","_law_d"] (ah_ bV_):=⟨rfl,rfl,rfl,by decide+kernel,rfl,by decide+kernel,by decide+kernel⟩
abbrev bF_:Stmt:=top 43
theorem aF_:FnScope ["_law_bag_here","_law_some","_law_d","_law_found","_law_at","_law_drawing","_law_marking","_law_way","_law_spot","_law_other","_law_mark"] ["_law_bag_here","_law_some","_law_d"] (ah_ bF_):=⟨rfl,rfl,rfl,by decide+kernel,rfl,by decide+kernel,by decide+kernel⟩
abbrev bQ_:Stmt:=top 44
theorem bE_:FnScope ["_law_d","_law_k","_law_some","_law_handed","_law_found","_law_due_here"] ["_law_d","_law_k","_law_some"] (ah_ bQ_):=⟨rfl,rfl,rfl,by decide+kernel,rfl,by decide+kernel,by decide+kernel⟩
abbrev lY_:Stmt:=top 45
theorem dQ_:FnScope ["_law_script","_law_bag_here","_law_d","_law_k","_law_full","_law_some","_law_turn","_law_spoilt_here"] ["_law_script"] (ah_ lY_):=⟨rfl,rfl,rfl,by decide+kernel,rfl,by decide+kernel,by decide+kernel⟩
set_option genInjectivity false
set_option genSizeOfSpec false
structure Fb (K:PySem.W.Frag) (mg:Str→Option Value) (n:Str) (st:Stmt) (ps:List Str) (f:Addr) (d:FuncData):Prop where
 F:Fun K n n st f d
 B:i1_ K d ps []
 m:mg n=some (.ref f)
structure Fns (K:PySem.W.Frag) (mg:Str→Option Value) where
 f_is_whole:Addr
 d_is_whole:FuncData
 f_need_between:Addr
 d_need_between:FuncData
 f_need_wide:Addr
 d_need_wide:FuncData
 f_need_degree:Addr
 d_need_degree:FuncData
 f_ends_at:Addr
 d_ends_at:FuncData
 f_sound:Addr
 d_sound:FuncData
 f_lost:Addr
 d_lost:FuncData
 f_lifts_from:Addr
 d_lifts_from:FuncData
 f_leaving:Addr
 d_leaving:FuncData
 f_with_floor:Addr
 d_with_floor:FuncData
 f_drawings:Addr
 d_drawings:FuncData
 f_worth:Addr
 d_worth:FuncData
 f_need_sound:Addr
 d_need_sound:FuncData
 f_end_marks:Addr
 d_end_marks:FuncData
 f_may_stand:Addr
 d_may_stand:FuncData
 f_without_first:Addr
 d_without_first:FuncData
 f_orders:Addr
 d_orders:FuncData
 f_all_marks:Addr
 d_all_marks:FuncData
 f_markings:Addr
 d_markings:FuncData
 f_paper:Addr
 d_paper:FuncData
 f_is_lift:Addr
 d_is_lift:FuncData
 f_is_drawing:Addr
 d_is_drawing:FuncData
 f_is_marking:Addr
 d_is_marking:FuncData
 f_weighed:Addr
 d_weighed:FuncData
 f__law_cell_at:Addr
 d__law_cell_at:FuncData
 f__law_bag:Addr
 d__law_bag:FuncData
 f__law_mixed:Addr
 d__law_mixed:FuncData
 f__law_digit:Addr
 d__law_digit:FuncData
 f__law_marks:Addr
 d__law_marks:FuncData
 f__law_is_right:Addr
 d__law_is_right:FuncData
 f__law_due:Addr
 d__law_due:FuncData
 f__law_left:Addr
 d__law_left:FuncData
 f__law_odd_row:Addr
 d__law_odd_row:FuncData
 f__law_spoilt:Addr
 d__law_spoilt:FuncData
 f__law_asked:Addr
 d__law_asked:FuncData
 f_law:Addr
 d_law:FuncData
 X_is_whole:Fb K mg "is_whole" dB_ ["thing"] f_is_whole d_is_whole
 X_need_between:Fb K mg "need_between" bU_ ["thing","least","greatest"] f_need_between d_need_between
 X_need_wide:Fb K mg "need_wide" c8_ ["d","k"] f_need_wide d_need_wide
 X_need_degree:Fb K mg "need_degree" b8_ ["d"] f_need_degree d_need_degree
 X_ends_at:Fb K mg "ends_at" el_ ["d","drawing"] f_ends_at d_ends_at
 X_sound:Fb K mg "sound" hi_ ["d","drawing"] f_sound d_sound
 X_lost:Fb K mg "lost" ji_ ["lift"] f_lost d_lost
 X_lifts_from:Fb K mg "lifts_from" cw_ ["d","floor","weight","spare"] f_lifts_from d_lifts_from
 X_leaving:Fb K mg "leaving" ej_ ["lifts","weight","spare"] f_leaving d_leaving
 X_with_floor:Fb K mg "with_floor" bw_ ["d","floor","drawing","spare"] f_with_floor d_with_floor
 X_drawings:Fb K mg "drawings" cO_ ["d","k"] f_drawings d_drawings
 X_worth:Fb K mg "worth" hh_ ["drawing"] f_worth d_worth
 X_need_sound:Fb K mg "need_sound" cv_ ["d","drawing"] f_need_sound d_need_sound
 X_end_marks:Fb K mg "end_marks" c9_ ["d","drawing"] f_end_marks d_end_marks
 X_may_stand:Fb K mg "may_stand" b9_ ["mark","floor","waiting"] f_may_stand d_may_stand
 X_without_first:Fb K mg "without_first" bK_ ["waiting","mark"] f_without_first d_without_first
 X_orders:Fb K mg "orders" fn_ ["floor","waiting"] f_orders d_orders
 X_all_marks:Fb K mg "all_marks" ca_ ["d","drawing"] f_all_marks d_all_marks
 X_markings:Fb K mg "markings" dA_ ["d","drawing"] f_markings d_markings
 X_paper:Fb K mg "paper" fm_ ["d","k"] f_paper d_paper
 X_is_lift:Fb K mg "is_lift" ek_ ["d","lift"] f_is_lift d_is_lift
 X_is_drawing:Fb K mg "is_drawing" bP_ ["d","k","lifts"] f_is_drawing d_is_drawing
 X_is_marking:Fb K mg "is_marking" cx_ ["d","drawing","marks"] f_is_marking d_is_marking
 X_weighed:Fb K mg "weighed" ei_ ["d","k","paper"] f_weighed d_weighed
 X__law_cell_at:Fb K mg "_law_cell_at" bW_ ["_law_script","_law_k"] f__law_cell_at d__law_cell_at
 X__law_bag:Fb K mg "_law_bag" dD_ ["_law_cell","_law_place"] f__law_bag d__law_bag
 X__law_mixed:Fb K mg "_law_mixed" cy_ ["_law_bag_here"] f__law_mixed d__law_mixed
 X__law_digit:Fb K mg "_law_digit" cz_ ["_law_bag_here","_law_many"] f__law_digit d__law_digit
 X__law_marks:Fb K mg "_law_marks" bx_ ["_law_d","_law_drawing"] f__law_marks d__law_marks
 X__law_is_right:Fb K mg "_law_is_right" bk_ ["_law_one","_law_d","_law_k"] f__law_is_right d__law_is_right
 X__law_due:Fb K mg "_law_due" dC_ ["_law_some","_law_d","_law_k"] f__law_due d__law_due
 X__law_left:Fb K mg "_law_left" da_ ["_law_bag_here","_law_some"] f__law_left d__law_left
 X__law_odd_row:Fb K mg "_law_odd_row" bV_ ["_law_bag_here","_law_row","_law_d"] f__law_odd_row d__law_odd_row
 X__law_spoilt:Fb K mg "_law_spoilt" bF_ ["_law_bag_here","_law_some","_law_d"] f__law_spoilt d__law_spoilt
 X__law_asked:Fb K mg "_law_asked" bQ_ ["_law_d","_law_k","_law_some"] f__law_asked d__law_asked
 X_law:Fb K mg "law" lY_ ["_law_script"] f_law d_law
 n_isinstance:mg "isinstance"=none
 n_int:mg "int"=none
 n_bool:mg "bool"=none
 n_min:mg "min"=none
 n_range:mg "range"=none
 n_enumerate:mg "enumerate"=none
 n_sum:mg "sum"=none
 n_sorted:mg "sorted"=none
 n_any:mg "any"=none
 n_set:mg "set"=none
 n_list:mg "list"=none
 n_all:mg "all"=none
 n_len:mg "len"=none
 n_tuple:mg "tuple"=none
 n_abs:mg "abs"=none
 a_WIDE:Addr
 m_WIDE:mg "WIDE"=some (.ref a_WIDE)
 D_WIDE:iC_ K a_WIDE [(1,6),(2,6),(3,6),(4,6),(5,3)]=true
 c_NoBound:Addr
 m_NoBound:mg "NoBound"=some (.ref c_NoBound)
 c_NoDrawing:Addr
 m_NoDrawing:mg "NoDrawing"=some (.ref c_NoDrawing)
 x_NoBound:PySem.W.excIn K c_NoBound bmV "ValueError.__new__"=true
 X_NoBound:XC K c_NoBound
 x_NoDrawing:PySem.W.excIn K c_NoDrawing bmV "ValueError.__new__"=true
 X_NoDrawing:XC K c_NoDrawing
abbrev Lf:=Int×Int×Int
def cs_ (e:List Int) (p:Lf):List Int:=(e.set (p.1-1).toNat (e.getD (p.1-1).toNat 0-p.2.2)).set (p.2.1-1).toNat ((e.set (p.1-1).toNat (e.getD (p.1-1).toNat 0-p.2.2)).getD (p.2.1-1).toNat 0+p.2.2)
def aZ_ (n:Nat) (ps:List Lf):List Int:=ps.foldl cs_ (List.replicate n 1)
def f4_ (ps:List Lf) (f:Int):Int:=((ps.filter fun p=>decide (p.2.1=f)).map (·.2.2)).sum
def dr_ (ps:List Lf) (f:Int):Int:=((ps.filter fun p=>decide (p.1=f)).map (·.2.2)).sum
def Okl (n:Nat) (p:Lf):Prop:=1≤p.1∧p.1≤n∧1≤p.2.1∧p.2.1≤n
theorem fY_ {l:List Int}{i j:Nat}{v:Int} (h:i<l.length):(l.set i v).getD j 0=if i=j then v else l.getD j 0:=by
 rw [List.getD,List.getElem?_set]
 by_cases e:i=j
 ·subst e
  rw [if_pos rfl,if_pos rfl,if_pos h]
  rfl
 ·rw [if_neg e,if_neg e]
  rfl
theorem jP_ {e:List Int}{p:Lf}:(cs_ e p).length=e.length:=by unfold cs_;rw [List.length_set,List.length_set]
theorem k6_ {n:Nat}{e:List Int}{p:Lf} (he:e.length=n) (hp:Okl n p) (i:Nat):(cs_ e p).getD i 0=e.getD i 0+(if p.2.1=1+(i:Int) then p.2.2 else 0)-(if p.1=1+(i:Int) then p.2.2 else 0):=by
 obtain⟨h1,h2,h3,h4⟩:=hp
 unfold cs_
 have a1:(p.1-1).toNat<e.length:=by omega
 rw [fY_ (by rw [List.length_set];omega),fY_ a1]
 by_cases c1:(p.2.1-1).toNat=i
 ·have d1:p.2.1=1+(i:Int):=by omega
  rw [if_pos c1,if_pos d1,c1]
  by_cases c2:(p.1-1).toNat=i
  ·have d2:p.1=1+(i:Int):=by omega
   rw [if_pos c2,if_pos d2,c2]
   omega
  ·have d2:¬p.1=1+(i:Int):=by omega
   rw [if_neg c2,if_neg d2]
   omega
 ·have d1:¬p.2.1=1+(i:Int):=by omega
  rw [if_neg c1,if_neg d1,fY_ a1]
  by_cases c2:(p.1-1).toNat=i
  ·have d2:p.1=1+(i:Int):=by omega
   rw [if_pos c2,if_pos d2,c2]
   omega
  ·have d2:¬p.1=1+(i:Int):=by omega
   rw [if_neg c2,if_neg d2]
   omega
theorem dO_ (p:Lf) (ps:List Lf) (f:Int):f4_ (p::ps) f=(if p.2.1=f then p.2.2 else 0)+f4_ ps f:=by
 unfold f4_
 rw [List.filter_cons]
 by_cases h:p.2.1=f<;>simp [h]
theorem df_ (p:Lf) (ps:List Lf) (f:Int):dr_ (p::ps) f=(if p.1=f then p.2.2 else 0)+dr_ ps f:=by
 unfold dr_
 rw [List.filter_cons]
 by_cases h:p.1=f<;>simp [h]
theorem eF_ {n:Nat}:∀(ps:List Lf) (e:List Int),e.length=n→(∀p∈ps,Okl n p)→(ps.foldl cs_ e).length=n∧∀i:Nat,(ps.foldl cs_ e).getD i 0=e.getD i 0+f4_ ps (1+(i:Int))-dr_ ps (1+(i:Int))
 |[],e,he,_=>⟨he,fun i=>by simp [f4_,dr_]⟩
 |p::ps,e,he,h=>by
  rw [List.foldl_cons]
  obtain⟨h1,h2⟩:=eF_ ps (cs_ e p) (by rw [jP_];exact he) fun q hq=>h q (by simp [hq])
  refine⟨h1,fun i=> ?_⟩
  rw [h2 i,k6_ he (h p (by simp)) i,dO_,df_]
  omega
theorem cS_ (n:Nat) (ps:List Lf) (h:∀p∈ps,Okl n p):(aZ_ n ps).length=n:=(eF_ ps _ (by simp) h).1
def nX_ (xs:List Int):Lf:=(xs.getD 0 0,xs.getD 1 0,xs.getD 2 0)
def bG_ (p:Lf):List Int:=[p.1,p.2.1,p.2.2]
theorem f9_ (p:Lf):nX_ (bG_ p)=p:=rfl
theorem dk_ {ps:List Lf}{yss:List (List Int)} (h:yss.Perm (ps.map bG_)):∃qs:List Lf,qs.Perm ps∧yss=qs.map bG_:=by
 refine⟨yss.map nX_, ?_, ?_⟩
 ·have:=h.map nX_
  rw [List.map_map,show nX_∘bG_=id from funext fun p=>f9_ p,List.map_id] at this
  exact this
 ·rw [List.map_map]
  have:∀ys∈yss,bG_ (nX_ ys)=ys:=fun ys hy=>by
   obtain⟨p,_,rfl⟩:=List.mem_map.mp (h.mem_iff.mp hy)
   rfl
  exact(List.map_id _).symm.trans (List.map_congr_left fun ys hy=>(this ys hy).symm)
theorem hE_ {ks:List Int}{i:Nat} (h:i<ks.length):(ks.map V.int)[i]? =some (.int (ks.getD i 0)):=by rw [List.getElem?_map,List.getElem?_eq_getElem h];simp [List.getD,h]
theorem map_set {l:List Int}{i:Nat}{v:Int}:(l.set i v).map V.int=(l.map V.int).set i (.int v):=by rw [List.map_set]
def lf (p:Lf):D:=tI (bG_ p)
def lfs (ps:List Lf):D:= .l (ps.map lf)
theorem dq_ {H:Hp}{p:Lf}{v:V} (h:Is H (lf p) v):∃a,v= .ref a∧H a=some (.tup [.int p.1, .int p.2.1, .int p.2.2]):=hv_ h
theorem cj_ {H:Hp}{p:Lf}{a:Addr} (h:H a=some (.tup [.int p.1, .int p.2.1, .int p.2.2])):Is H (lf p) (.ref a):=mu_ (xs:=bG_ p) h
theorem bc_ (ps:List Lf):lfs ps= .l ((ps.map bG_).map tI):=by unfold lfs;rw [List.map_map];rfl
def n8_ (H H':Hp):Prop:=∀a xs,H a=some (.tup xs)→H' a=some (.tup xs)
theorem n8_.upd {H:Hp}{b:Addr}{zs ys:List V} (hb:H b=some (.lst zs)):n8_ H (L2.upd H b (.lst ys)):=fun a xs e=>by
 rw [ar_ (by rintro rfl;rw [hb] at e;cases e)];exact e
theorem ir_ {H H':Hp} (t:n8_ H H'):∀{ps:List Lf}{vs:List V},Iss H (ps.map lf) vs→Iss H' (ps.map lf) vs
 |[],_,h=>by rw [a7_ h];exact aj_
 |p::ps,_,h=>by
  obtain⟨u,us,rfl,h1,h2⟩:=aC_ h
  obtain⟨a,rfl,ha⟩:=dq_ h1
  exact ag_ (cj_ (t _ _ ha)) (ir_ t h2)
def d0_ (p q:Lf):Bool:=if p.1=q.1 then(if p.2.1=q.2.1 then decide (p.2.2<q.2.2) else decide (p.2.1<q.2.1)) else decide (p.1<q.1)
def iV_:List Lf→List Lf→Bool
 |_,[]=>false
 |[],_::_=>true
 |x::xs,y::ys=>if x=y then iV_ xs ys else d0_ x y
theorem kg_ {K:PySem.W.Frag}{H:Hp}{p q:Lf}{v w:V} (h:Is H (lf p) v) (k:Is H (lf q) w):EqR K H 1 v w (decide (p=q)):=by
 have e:=h.eqr (K:=K) (n:=1) (by simp [lf,tI,bG_,dep,fe_]) (by simp [lf,tI,bG_,Kin,eO_]) k
 have:eqD (lf p) (lf q)=decide (p=q):=by
  obtain⟨a,b,c⟩:=p
  obtain⟨d,e,f⟩:=q
  simp [lf,tI,bG_,eqD,e9_,Bool.and_assoc]
 rwa [this] at e
theorem nE_ {K:PySem.W.Frag}{H:Hp}{p q:Lf}{v w:V} (h:Is H (lf p) v) (k:Is H (lf q) w):LtR K H 1 v w (d0_ p q):=by
 obtain⟨a,rfl,ha⟩:=dq_ h
 obtain⟨b,rfl,hb⟩:=dq_ k
 have e:=LtR.tuples (K:=K) (H:=H) (d:=0) (a:=a) (b:=b) (fun j=>if j=0 then decide (p.1=q.1) else if j=1 then decide (p.2.1=q.2.1) else decide (p.2.2=q.2.2)) (fun j=>if j=0 then decide (p.1<q.1) else if j=1 then decide (p.2.1<q.2.1) else decide (p.2.2<q.2.2)) (SqT.of ha) (SqT.of hb) (fun j x y hx hy=> ?_) (fun j x y hx hy _=> ?_)
 ·have e2:SeqAt.lex (fun j=>if j=0 then decide (p.1=q.1) else if j=1 then decide (p.2.1=q.2.1) else decide (p.2.2=q.2.2)) (fun j=>if j=0 then decide (p.1<q.1) else if j=1 then decide (p.2.1<q.2.1) else decide (p.2.2<q.2.2)) 3 3 3 0=d0_ p q:=by
   unfold d0_
   by_cases e0:p.1=q.1
   ·by_cases e1:p.2.1=q.2.1
    ·by_cases e2:p.2.2=q.2.2
     ·simp [SeqAt.lex,e0,e1,e2]
     ·simp [SeqAt.lex,e0,e1,e2]
    ·simp [SeqAt.lex,e0,e1]
   ·simp [SeqAt.lex,e0]
  exact e2▸e
 ·match j,hx,hy with
  |0,hx,hy=>cases hx;cases hy;exact EqR.int 0 _ _
  |1,hx,hy=>cases hx;cases hy;exact EqR.int 0 _ _
  |2,hx,hy=>cases hx;cases hy;exact EqR.int 0 _ _
  |j+3,hx,_=>simp at hx
 ·match j,hx,hy with
  |0,hx,hy=>cases hx;cases hy;exact LtR.int 0 _ _
  |1,hx,hy=>cases hx;cases hy;exact LtR.int 0 _ _
  |2,hx,hy=>cases hx;cases hy;exact LtR.int 0 _ _
  |j+3,hx,_=>simp at hx
theorem jT_ (p q:List Lf):∀(k i:Nat),min p.length q.length-i=k→i≤min p.length q.length→SeqAt.lex (fun j=>decide (p.getD j (0,0,0)=q.getD j (0,0,0))) (fun j=>d0_ (p.getD j (0,0,0)) (q.getD j (0,0,0))) p.length q.length k i=iV_ (p.drop i) (q.drop i)
 |0,i,hk,hi=>by
  rw [SeqAt.lex]
  rcases(by omega:q.length=i∨(p.length=i∧i<q.length)) with e|⟨e,e2⟩
  ·rw [List.drop_of_length_le (l:=q) (by omega)]
   have:¬p.length<q.length:=by omega
   cases p.drop i<;>simp [iV_,this]
  ·rw [List.drop_of_length_le (l:=p) (by omega),List.drop_eq_getElem_cons e2]
   have:p.length<q.length:=by omega
   simp [iV_,this]
 |k+1,i,hk,hi=>by
  have h1:i<p.length:=by omega
  have h2:i<q.length:=by omega
  have g1:p.getD i (0,0,0)=p[i]:=by simp [List.getD,h1]
  have g2:q.getD i (0,0,0)=q[i]:=by simp [List.getD,h2]
  rw [SeqAt.lex,List.drop_eq_getElem_cons h1,List.drop_eq_getElem_cons h2,iV_,g1,g2]
  by_cases e:p[i]=q[i]
  ·rw [if_pos (decide_eq_true e),if_pos e]
   exact jT_ p q k (i+1) (by omega) (by omega)
  ·rw [if_neg (by simpa using e),if_neg e]
theorem jR_ {K:PySem.W.Frag}{H:Hp}{p q:List Lf}{vs ws:List V} (h:Iss H (p.map lf) vs) (k:Iss H (q.map lf) ws):
  (∀(j:Nat) x y,vs[j]? =some x→ws[j]? =some y→EqR K H 1 x y (decide (p.getD j (0,0,0)=q.getD j (0,0,0))))∧(∀(j:Nat) x y,vs[j]? =some x→ws[j]? =some y→decide (p.getD j (0,0,0)=q.getD j (0,0,0))=false→LtR K H 1 x y (d0_ (p.getD j (0,0,0)) (q.getD j (0,0,0)))):=by
 have go:∀(j:Nat) x y,vs[j]? =some x→ws[j]? =some y→Is H (lf (p.getD j (0,0,0))) x∧Is H (lf (q.getD j (0,0,0))) y:=fun j x y hx hy=>by
  obtain⟨d,hd,h1⟩:=h.of_get hx
  obtain⟨e,he,h2⟩:=k.of_get hy
  rw [List.getElem?_map] at hd he
  obtain⟨d',hd',rfl⟩:=Option.map_eq_some_iff.mp hd
  obtain⟨e',he',rfl⟩:=Option.map_eq_some_iff.mp he
  rw [List.getD,hd',List.getD,he']
  exact⟨h1,h2⟩
 exact⟨fun j x y hx hy=>kg_ (go j x y hx hy).1 (go j x y hx hy).2,fun j x y hx hy _=>nE_ (go j x y hx hy).1 (go j x y hx hy).2⟩
theorem mG_ {K:PySem.W.Frag}{H:Hp}{p q:List Lf}{v w:V} (h:Is H (lfs p) v) (k:Is H (lfs q) w):Ask K H v w (iV_ p q):=by
 obtain⟨a,vs,rfl,ha,h⟩:=bm_ h
 obtain⟨b,ws,rfl,hb,k⟩:=bm_ k
 obtain⟨e1,e2⟩:=jR_ (K:=K) h k
 refine⟨a,b,vs,ws,1,_,_,rfl,rfl,SqL.of ha,SqL.of hb,by decide,e1,e2, ?_⟩
 rw [h.length,k.length,List.length_map,List.length_map,jT_ p q _ 0 (Nat.sub_zero _) (Nat.zero_le _),List.drop_zero,List.drop_zero]
def nw (H0 H:Hp):Hp:=fun b=>match H0 b with|some (.lst _)=>none|_=>H b
theorem aJ_ {H0 H:Hp}:al_ (nw H0 H) H:=fun b o e=>by
 unfold nw at e
 split at e
 ·cases e
 ·exact e
theorem dc_ {H0 H H':Hp} (s:al_ H H'):al_ (nw H0 H) (nw H0 H'):=fun b o e=>by
 unfold nw at e⊢
 split at e
 ·cases e
 ·exact s _ _ e
theorem fD_ {H0 H1 H:Hp} (s:al_ H0 H1):al_ (nw H1 H) (nw H0 H):=fun b o e=>by
 unfold nw at e⊢
 split at e
 ·cases e
 ·rename_i h
  split
  ·rename_i xs h0
   exact absurd (s _ _ h0) (h xs)
  ·exact e
theorem c1_ {H0 H1 H:Hp}{a:Addr}{xs:List V} (s:al_ H0 H1) (ha:H1 a=some (.lst xs)):al_ (nw H1 H) (hid (nw H0 H) a):=fun b o e=>by
 have hb:b≠a:=by
  rintro rfl
  unfold nw at e
  rw [ha] at e
  cases e
 rw [br_ hb]
 exact fD_ s b o e
theorem cp_ {H0 H:Hp}{a:Addr} (h:H0 a=none):nw H0 H a=H a:=by unfold nw;rw [h]
theorem gt_ {H0 H:Hp}{a:Addr}{xs:List V} (s:al_ H0 H) (h:H a=some (.tup xs)):nw H0 H a=some (.tup xs):=by
 unfold nw
 split
 ·rename_i ys e
  rw [s _ _ e] at h
  cases h
 ·exact h
theorem nC_ {H0 H:Hp}{ps:List Lf}{vs:List V} (s:al_ H0 H) (h:Iss H (ps.map lf) vs):Iss (nw H0 H) (ps.map lf) vs:=ir_ (fun a xs e=>gt_ s e) h
theorem cK_ {H0 H:Hp}{ps:List Lf}{a:Addr} (s:al_ H0 H) (n:H0 a=none) (h:Is H (lfs ps) (.ref a)):Is (nw H0 H) (lfs ps) (.ref a):=by
 obtain⟨_,vs,e,ha,hi⟩:=bm_ h
 cases e
 exact bJ_ (by rw [cp_ n];exact ha) (nC_ s hi)
def Acc (H0 H:Hp) (a:Addr) (xs:List D):Prop:=∃vs,H a=some (.lst vs)∧Iss (hid (nw H0 H) a) xs vs
theorem Acc.start {H0 H:Hp}{a:Addr} (h:H a=some (.lst [])):Acc H0 H a []:=⟨[],h,aj_⟩
theorem Acc.mono {H0 H H':Hp}{a:Addr}{xs:List D} (s:al_ H H') (g:Acc H0 H a xs):Acc H0 H' a xs:=let ⟨vs,e,h⟩:=g;⟨vs,s _ _ e,h.mono (aA_ (dc_ s))⟩
theorem b5_ {H0 H:Hp}{a:Addr}{o:HO}:hid (nw H0 (upd H a o)) a=hid (nw H0 H) a:=by
 funext b
 unfold hid
 split
 ·rfl
 ·rename_i h
  unfold nw
  rw [ar_ h]
theorem Acc.add {H0 H1 H2:Hp}{a:Addr}{xs:List D}{x:D}{vs:List V}{v:V} (s01:al_ H0 H1) (s12:al_ H1 H2) (ha:H1 a=some (.lst vs)) (h:Iss (hid (nw H0 H1) a) xs vs) (k:Is (nw H1 H2) x v):Acc H0 (upd H2 a (.lst (vs++[v]))) a (xs++[x]):=
 ⟨vs++[v],ae_,by rw [b5_];exact(h.mono (aA_ (dc_ s12))).append (ag_ (k.mono (c1_ s01 ha)) aj_)⟩
theorem Acc.adds {H0 H1 H2:Hp}{a:Addr}{xs ys:List D}{vs us:List V} (s01:al_ H0 H1) (s12:al_ H1 H2) (ha:H1 a=some (.lst vs)) (h:Iss (hid (nw H0 H1) a) xs vs) (k:Iss (nw H1 H2) ys us):Acc H0 (upd H2 a (.lst (vs++us))) a (xs++ys):=
 ⟨vs++us,ae_,by rw [b5_];exact(h.mono (aA_ (dc_ s12))).append (k.mono (c1_ s01 ha))⟩
theorem Acc.is {H0 H:Hp}{a:Addr}{xs:List D} (n:H0 a=none) (g:Acc H0 H a xs):Is (nw H0 H) (.l xs) (.ref a):=let ⟨_,e,h⟩:=g;bJ_ (by rw [cp_ n];exact e) (h.mono as_)
def bn_ (p:Lf):Int:=(p.2.1-p.1)*p.2.2-1
def kv_ (f j:Int) (n:Nat) (sp:Int):List Lf:=((List.range n).map fun w:Nat=>((f,j,1+(w:Int)):Lf)).filter fun p=>decide (bn_ p≤sp)
def iW_ (f:Int) (m n:Nat) (sp:Int):List Lf:=(List.range m).flatMap fun i:Nat=>kv_ f (f+1+(i:Int)) n sp
def cU_:Nat→List Lf→Int→Int→List (List Lf)
 |0,_,_,_=>[[]]
 |n+1,ls,wt,sp=>[[]]++(List.range ls.length).flatMap fun i=>match ls[i]? with
  |none=>[]
  |some p=>if p.2.2≤wt∧bn_ p≤sp then(cU_ n (ls.drop i) (wt-p.2.2) (sp-bn_ p)).map (p:: ·) else []
def dG_ (n:Nat) (ls:List Lf) (wt sp:Int) (i:Nat):List (List Lf):=match ls[i]? with
  |none=>[]
  |some p=>if p.2.2≤wt∧bn_ p≤sp then(cU_ n (ls.drop i) (wt-p.2.2) (sp-bn_ p)).map (p:: ·) else []
theorem ez_ (n:Nat) (ls:List Lf) (wt sp:Int):cU_ (n+1) ls wt sp=[[]]++(List.range ls.length).flatMap (dG_ n ls wt sp):=rfl
def thF (d f:Nat) (ps:List Lf):Int:=(aZ_ d ps).getD (f-1) 0
def fO_ (d f:Nat) (th sp:Int) (ls:List Lf):Int:=sp-(ls.map bn_).sum-(th-(ls.map (·.2.2)).sum)*((d:Int)-(f:Int))
def mp_ (d f:Nat) (th sp:Int):List (List Lf):=cU_ 8 (iW_ f (d-f) th.toNat sp) th sp
def ee_ (d f:Nat) (ps:List Lf) (sp:Int):List (List Lf×Int):=((mp_ d f (thF d f ps) sp).filter fun ls=>decide (0≤fO_ d f (thF d f ps) sp ls)).map fun ls=>(ps++ls,fO_ d f (thF d f ps) sp ls)
def eU_ (d:Nat) (k:Int):Nat→List (List Lf×Int)
 |0=>[([],k)]
 |f+1=>(eU_ d k f).flatMap fun x=>ee_ d (f+1) x.1 x.2
def g6_ (d k:Nat):List (List Lf):=((eU_ d k d).filter fun x=>decide (x.2=0)).map (·.1)
def nx_ (d:Nat) (p:Lf):Bool:=decide (1≤p.1)&&decide (p.1<p.2.1)&&decide (p.2.1≤d)&&decide (1≤p.2.2)&&decide (p.2.2≤8)
def stB (d f:Nat) (x:List Lf×Int):Bool:=x.1.all (nx_ d)&&decide (x.1.length≤20)&&decide (0≤thF d (f+1) x.1)&&decide (thF d (f+1) x.1<8)&&decide (0≤x.2)&&decide (x.2≤6)&&decide ((mp_ d (f+1) (thF d (f+1) x.1) x.2).length≤200)
def okB (d k:Nat):Bool:=(List.range d).all (fun f=>(eU_ d k f).all (stB d f)&&decide ((eU_ d k (f+1)).length≤900))&&(eU_ d k d).all fun x=>decide (x.1.length≤20)
def Wide (d k:Nat):Prop:=1≤d∧((d≤4∧k≤6)∨(d=5∧k≤3))
theorem gz_ (f j:Int) (n:Nat) (sp:Int):kv_ f j (n+1) sp=kv_ f j n sp++(if bn_ (f,j,1+(n:Int))≤sp then [(f,j,1+(n:Int))] else []):=by
 unfold kv_
 rw [List.range_succ,List.map_append,List.filter_append]
 by_cases h:bn_ (f,j,1+(n:Int))≤sp<;>simp [h]
theorem gA_ (f:Int) (m n:Nat) (sp:Int):iW_ f (m+1) n sp=iW_ f m n sp++kv_ f (f+1+(m:Int)) n sp:=by
 unfold iW_
 rw [List.range_succ,List.flatMap_append]
 simp
theorem ih_ (f j:Int) (n:Nat) (sp:Int):(kv_ f j n sp).length≤n:=by
 unfold kv_
 exact Nat.le_trans (List.length_filter_le _ _) (by simp)
theorem fN_ (f:Int) (n:Nat) (sp:Int):∀m,(iW_ f m n sp).length≤m*n
 |0=>by simp [iW_]
 |m+1=>by
  rw [gA_,List.length_append,Nat.succ_mul]
  have:=fN_ f n sp m
  have:=ih_ f (f+1+(m:Int)) n sp
  omega
theorem hz_ {f:Int}{m n:Nat}{sp:Int}{p:Lf} (h:p∈iW_ f m n sp):p.1=f∧f<p.2.1∧p.2.1≤f+m∧1≤p.2.2∧p.2.2≤n:=by
 unfold iW_ kv_ at h
 simp only [List.mem_flatMap,List.mem_range,List.mem_filter,List.mem_map] at h
 obtain⟨i,hi,⟨w,hw,rfl⟩,_⟩:=h
 refine⟨rfl, ?_, ?_, ?_, ?_⟩
 ·show f<f+1+(i:Int);omega
 ·show f+1+(i:Int)≤f+m;omega
 ·show 1≤1+(w:Int);omega
 ·show 1+(w:Int)≤n;omega
theorem cM_ {α:Type} (g:Nat→List α) (i:Nat):(List.range (i+1)).flatMap g=(List.range i).flatMap g++g i:=by
 rw [List.range_succ,List.flatMap_append]
 simp
theorem fr_ {α:Type} (g:Nat→List α):∀{m i:Nat},i<m→((List.range i).flatMap g).length+(g i).length≤((List.range m).flatMap g).length
 |0,i,h=>absurd h (by omega)
 |m+1,i,h=>by
  rw [cM_,List.length_append]
  by_cases e:i=m
  ·rw [e];exact Nat.le_refl _
  ·have:=fr_ g (m:=m) (i:=i) (by omega)
   omega
theorem ms_ {n:Nat}{ls:List Lf}{wt sp:Int}{x:List Lf} (h:x∈cU_ (n+1) ls wt sp):x=[]∨∃(i:Nat) (p:Lf) (r:List Lf),ls[i]? =some p∧p.2.2≤wt∧bn_ p≤sp∧r∈cU_ n (ls.drop i) (wt-p.2.2) (sp-bn_ p)∧x=p::r:=by
 rw [ez_] at h
 rcases List.mem_append.mp h with h|h
 ·exact .inl (List.mem_singleton.mp h)
 ·obtain⟨i,hi,h⟩:=List.mem_flatMap.mp h
  unfold dG_ at h
  split at h
  ·cases h
  ·rename_i p hp
   split at h
   ·rename_i c
    obtain⟨r,hr,rfl⟩:=List.mem_map.mp h
    exact .inr ⟨i,p,r,hp,c.1,c.2,hr,rfl⟩
   ·cases h
theorem eA_:∀{n:Nat}{ls:List Lf}{wt sp:Int}{x:List Lf},(∀p∈ls,1≤p.2.2)→0≤wt→x∈cU_ n ls wt sp→x.length≤n∧0≤(x.map (·.2.2)).sum∧(x.map (·.2.2)).sum≤wt∧∀p∈x,p∈ls
 |0,ls,wt,sp,x,_,h0,h=>by
  rw [cU_] at h
  rw [List.mem_singleton.mp h]
  exact⟨by simp,by simp,by simpa using h0,fun p hp=>nomatch hp⟩
 |n+1,ls,wt,sp,x,hw,h0,h=>by
  rcases ms_ h with rfl|⟨i,p,r,hp,c1,c2,hr,rfl⟩
  ·exact⟨by simp,by simp,by simpa using h0,fun p hp=>nomatch hp⟩
  ·have pm:=List.mem_of_getElem? hp
   have p1:=hw p pm
   obtain⟨a,b,c,d⟩:=eA_ (fun q hq=>hw q (List.mem_of_mem_drop hq)) (by omega) hr
   refine⟨by rw [List.length_cons];omega, ?_, ?_,fun q hq=> ?_⟩
   ·rw [List.map_cons,List.sum_cons];omega
   ·rw [List.map_cons,List.sum_cons];omega
   ·rcases List.mem_cons.mp hq with rfl|hq
    ·exact pm
    ·exact List.mem_of_mem_drop (d q hq)
theorem h9_ {d:Nat}{p:Lf}:nx_ d p=true↔1≤p.1∧p.1<p.2.1∧p.2.1≤d∧1≤p.2.2∧p.2.2≤8:=by
 unfold nx_
 simp only [Bool.and_eq_true,decide_eq_true_eq]
 constructor
 ·rintro⟨⟨⟨⟨a,b⟩,c⟩,d⟩,e⟩;exact⟨a,b,c,d,e⟩
 ·rintro⟨a,b,c,d,e⟩;exact⟨⟨⟨⟨a,b⟩,c⟩,d⟩,e⟩
theorem lP_ {d f:Nat}{x:List Lf×Int} (h:stB d f x=true):(∀p∈x.1,nx_ d p=true)∧x.1.length≤20∧0≤thF d (f+1) x.1∧thF d (f+1) x.1<8∧0≤x.2∧x.2≤6∧(mp_ d (f+1) (thF d (f+1) x.1) x.2).length≤200:=by
 unfold stB at h
 simp only [Bool.and_eq_true,decide_eq_true_eq,List.all_eq_true] at h
 obtain⟨⟨⟨⟨⟨⟨a,b⟩,c⟩,d⟩,e⟩,f⟩,g⟩:=h
 exact⟨a,b,c,d,e,f,g⟩
theorem mf_ {d k:Nat} (h:okB d k=true):(∀f<d,(∀x∈eU_ d k f,stB d f x=true)∧(eU_ d k (f+1)).length≤900)∧∀x∈eU_ d k d,x.1.length≤20:=by
 unfold okB at h
 simp only [Bool.and_eq_true,decide_eq_true_eq,List.all_eq_true,List.mem_range] at h
 exact h
theorem jO_ (p q:Lf):ltI (bG_ p) (bG_ q)=d0_ p q:=by
 unfold d0_ ltI bG_
 simp only [g8_,List.length_cons,List.length_nil]
 split
 ·split
  ·split
   ·rename_i h;simp [h]
   ·rfl
  ·rfl
 ·rfl
def Srt (ps:List Lf):Prop:=ps.Pairwise fun a b=>d0_ b a=false
theorem hV_ {α:Type} (g:α→Int):∀{xs:List α},(∀x∈xs,0≤g x)→0≤(xs.map g).sum
 |[],_=>by simp
 |x::xs,h=>by
  rw [List.map_cons,List.sum_cons]
  have:=hV_ g (xs:=xs) fun y hy=>h y (by simp [hy])
  have:=h x (by simp)
  omega
structure Snd (d:Nat) (ps:List Lf):Prop where
 ok:∀p∈ps,1≤p.1∧p.1<p.2.1∧p.2.1≤d∧1≤p.2.2
 nn:∀i:Nat,i<d→0≤1+f4_ ps (1+(i:Int))-dr_ ps (1+(i:Int))
 so:Srt ps
def eF (ps:List Lf) (i:Nat):Int:=1+f4_ ps (1+(i:Int))-dr_ ps (1+(i:Int))
theorem hy_ {p:Lf} (h1:p.1<p.2.1) (h2:1≤p.2.2):0≤bn_ p:=by
 unfold bn_
 have:1*1≤(p.2.1-p.1)*p.2.2:=Int.mul_le_mul (by omega) h2 (by decide) (by omega)
 omega
def g5_ (d:Nat) (g:Nat→Int) (n:Nat):Int:=((List.range n).map fun i=>g i*((d:Int)-((i+1:Nat):Int))).sum
theorem bu_ (d:Nat) (g:Nat→Int) (n:Nat):g5_ d g (n+1)=g5_ d g n+g n*((d:Int)-((n+1:Nat):Int)):=by
 unfold g5_
 rw [List.range_succ,List.map_append,List.sum_append]
 simp
theorem hp_ (d:Nat) (j w:Int) (h1:1≤j):∀n:Nat,g5_ d (fun i=>if j=1+(i:Int) then w else 0) n=if j≤n then w*((d:Int)-j) else 0
 |0=>by
  rw [if_neg (by omega)]
  rfl
 |n+1=>by
  rw [bu_,hp_ d j w h1 n]
  by_cases c:j=1+(n:Int)
  ·have c':¬j≤(n:Int):=by omega
   have c2:j≤((n+1:Nat):Int):=by omega
   rw [if_pos c,if_neg c',if_pos c2,c,show(((n+1:Nat):Int))=1+(n:Int) by omega,Int.zero_add]
  ·rw [if_neg c,Int.zero_mul,Int.add_zero]
   by_cases c2:j≤(n:Int)
   ·rw [if_pos c2,if_pos (by omega)]
   ·rw [if_neg c2,if_neg (by omega)]
theorem hR_ (d:Nat) (g h:Nat→Int):∀n,g5_ d (fun i=>g i+h i) n=g5_ d g n+g5_ d h n
 |0=>rfl
 |n+1=>by
  rw [bu_,bu_,bu_,hR_ d g h n,Int.add_mul]
  omega
theorem hQ_ (d:Nat) (g h:Nat→Int):∀n,g5_ d (fun i=>g i-h i) n=g5_ d g n-g5_ d h n
 |0=>rfl
 |n+1=>by
  rw [bu_,bu_,bu_,hQ_ d g h n,Int.sub_mul]
  omega
theorem mE_ {d:Nat}:∀{ps:List Lf},(∀p∈ps,1≤p.1∧p.1<p.2.1∧p.2.1≤d∧1≤p.2.2)→g5_ d (eF ps) d+(ps.map bn_).sum+ps.length=g5_ d (fun _=>1) d
 |[],_=>by
  have:eF []=fun _=>1:=by funext i;simp [eF,f4_,dr_]
  rw [this]
  simp
 |p::ps,h=>by
  have ih:=mE_ (ps:=ps) fun q hq=>h q (by simp [hq])
  obtain⟨p1,p2,p3,p4⟩:=h p (by simp)
  have e:eF (p::ps)=fun i:Nat=>(eF ps i+(if p.2.1=1+(i:Int) then p.2.2 else 0))-(if p.1=1+(i:Int) then p.2.2 else 0):=by
   funext i
   unfold eF
   rw [dO_,df_]
   omega
  rw [e,hQ_ d (fun i:Nat=>eF ps i+(if p.2.1=1+(i:Int) then p.2.2 else 0)),hR_ d (eF ps),hp_ d p.2.1 p.2.2 (by omega),hp_ d p.1 p.2.2 p1,if_pos p3,if_pos (by omega),List.map_cons,List.sum_cons,List.length_cons]
  have l:bn_ p=p.2.2*((d:Int)-p.1)-p.2.2*((d:Int)-p.2.1)-1:=by
   unfold bn_
   rw [←Int.mul_sub,Int.mul_comm]
   congr 2
   omega
  rw [l]
  push_cast
  omega
theorem dM_ {d:Nat}{ps:List Lf} (h:∀p∈ps,Okl d p) {i:Nat} (hi:i<d):(aZ_ d ps).getD i 0=eF ps i:=by
 have:=(eF_ ps (List.replicate d 1) (by simp) h).2 i
 unfold aZ_
 rw [this]
 unfold eF
 have:(List.replicate d (1:Int)).getD i 0=1:=by simp [List.getD,hi]
 rw [this]
theorem iv_ {d:Nat} (h1:1≤d) (h5:d≤5):g5_ d (fun _=>1) d=((d*(d-1)/2:Nat):Int):=by
 have:d=1∨d=2∨d=3∨d=4∨d=5:=by omega
 rcases this with rfl|rfl|rfl|rfl|rfl<;>decide
def lG_ (d:Nat) (ps:List Lf):Prop:=(∀p∈ps,1≤p.1∧p.1<p.2.1∧p.2.1≤d∧1≤p.2.2)∧∀i:Nat,i<d→0≤eF ps i
theorem lG_.okl {d:Nat}{ps:List Lf} (h:lG_ d ps):∀p∈ps,Okl d p:=fun p hp=>by
 obtain⟨a,b,c,_⟩:=h.1 p hp
 exact⟨a,by omega,by omega,c⟩
theorem ed_ {d:Nat}{g:Nat→Int}:∀{n i:Nat},n≤d→(∀j<n,0≤g j)→i<n→g i*((d:Int)-((i+1:Nat):Int))≤g5_ d g n∧0≤g5_ d g n
 |0,i,_,_,h=>absurd h (by omega)
 |n+1,i,hd,hg,h=>by
  rw [bu_]
  have a:0≤g n*((d:Int)-((n+1:Nat):Int)):=Int.mul_nonneg (hg n (by omega)) (by omega)
  have b:0≤g5_ d g n:=by
   cases n with
   |zero=>exact Int.le_refl _
   |succ n=>exact(ed_ (d:=d) (g:=g) (n:=n+1) (i:=0) (by omega) (fun j hj=>hg j (by omega)) (by omega)).2
  by_cases e:i=n
  ·subst e;exact⟨by omega,by omega⟩
  ·have:=(ed_ (d:=d) (g:=g) (n:=n) (i:=i) (by omega) (fun j hj=>hg j (by omega)) (by omega)).1
   exact⟨by omega,by omega⟩
theorem lG_.len {d:Nat}{ps:List Lf} (h:lG_ d ps) (d1:1≤d) (d5:d≤5):ps.length≤d*(d-1)/2∧d*(d-1)/2≤10∧∀i:Nat,i+1<d→eF ps i≤10:=by
 have a:=mE_ h.1
 rw [iv_ d1 d5] at a
 have n1:=hV_ bn_ (xs:=ps) fun p hp=>by
  have:=h.1 p hp
  exact hy_ this.2.1 this.2.2.2
 have n2:=(ed_ (d:=d) (g:=eF ps) (n:=d) (i:=0) (Nat.le_refl _) h.2 (by omega)).2
 have d10:d*(d-1)/2≤10:=by
  have:d=1∨d=2∨d=3∨d=4∨d=5:=by omega
  rcases this with rfl|rfl|rfl|rfl|rfl<;>decide
 refine⟨by omega,d10,fun i hi=> ?_⟩
 have b:=(ed_ (d:=d) (g:=eF ps) (n:=d) (i:=i) (Nat.le_refl _) h.2 (by omega)).1
 have c:eF ps i*1≤eF ps i*((d:Int)-((i+1:Nat):Int)):=Int.mul_le_mul_of_nonneg_left (by omega) (h.2 i (by omega))
 omega
def dU_ (m:Lf) (f:Int) (wt:List Lf):Bool:=if m.1=m.2.1 then decide (m.1=f+1)&& !(wt.any fun o=>decide (o≠m)&&decide (o.2.1=m.1)) else decide (m.1≤f)
def lw_ (x:Lf):List Lf→List Lf
 |[]=>[x]
 |y::ys=>if d0_ x y then x::y::ys else if x=y then y::ys else y::lw_ x ys
def i2_ (xs:List Lf):List Lf:=xs.foldr lw_ []
def nxt (m:Lf) (f:Int):Int:=if m.1=m.2.1 then f+1 else f
def d6_:Nat→Int→List Lf→List (List Lf)
 |0,_,_=>[[]]
 |n+1,f,wt=>(i2_ wt).flatMap fun m=>if dU_ m f wt then(d6_ n (nxt m f) (wt.erase m)).map (m:: ·) else []
def fd_ (d:Nat) (es:List Int) (i:Nat):List Lf:=List.replicate (es.getD i 0).toNat (1+(i:Int),(d:Int)+1,1)
def dN_ (d:Nat) (es:List Int):List Lf:=(List.range d).flatMap (fd_ d es)
def f0_ (d:Nat):List Lf:=(List.range d).map fun i:Nat=>(1+(i:Int),1+(i:Int),0)
def dy_ (d:Nat) (ps:List Lf):List Lf:=f0_ d++ps++dN_ d (aZ_ d ps)
def ie_ (d:Nat) (ps:List Lf):List (List Lf):=d6_ (dy_ d ps).length 0 (dy_ d ps)
def cr_:Int→List Lf→Bool
 |_,[]=>true
 |f,p::ps=> !(decide (p.2.2=0)&&decide (p.1≠f+1))&& !(decide (p.2.2>0)&& !(decide (p.1≤f)&&decide (f<p.2.1)))&&cr_ (f+if p.2.2=0 then 1 else 0) ps
theorem fI_ {p q:Lf}:d0_ p q=true↔p.1<q.1∨(p.1=q.1∧(p.2.1<q.2.1∨(p.2.1=q.2.1∧p.2.2<q.2.2))):=by
 unfold d0_
 by_cases e0:p.1=q.1
 ·by_cases e1:p.2.1=q.2.1
  ·simp [e0,e1]
  ·simp [e0,e1]
 ·simp [e0]
theorem hx_ {p:Lf}:¬d0_ p p=true:=by rw [fI_];omega
theorem jN_ {p q r:Lf} (h:d0_ p q=true) (k:d0_ q r=true):d0_ p r=true:=by rw [fI_] at*;omega
theorem fH_ {p q:Lf} (h:¬d0_ p q=true) (k:p≠q):d0_ q p=true:=by
 rw [fI_] at*
 obtain⟨a,b,c⟩:=p
 obtain⟨d,e,f⟩:=q
 simp only [ne_eq,Prod.mk.injEq,not_and] at*
 omega
theorem fW_ {x z:Lf}:∀{ys:List Lf},z∈lw_ x ys↔z=x∨z∈ys
 |[]=>by simp [lw_]
 |y::ys=>by
  unfold lw_
  split
  ·simp
  ·split
   ·rename_i e
    subst e
    simp
   ·simp [fW_ (ys:=ys)]
    constructor
    ·rintro(h|h|h)
     ·exact .inr (.inl h)
     ·exact .inl h
     ·exact .inr (.inr h)
    ·rintro(h|h|h)
     ·exact .inr (.inl h)
     ·exact .inl h
     ·exact .inr (.inr h)
theorem j8_ {x:Lf}:∀{ys:List Lf},(ys.Pairwise fun a b=>d0_ a b=true)→(lw_ x ys).Pairwise fun a b=>d0_ a b=true
 |[],_=>by simp [lw_]
 |y::ys,h=>by
  unfold lw_
  split
  ·rename_i e
   refine List.Pairwise.cons (fun z hz=> ?_) h
   rcases List.mem_cons.mp hz with rfl|hz
   ·exact e
   ·exact jN_ e ((List.pairwise_cons.mp h).1 z hz)
  ·split
   ·exact h
   ·rename_i e1 e2
    refine List.Pairwise.cons (fun z hz=> ?_) (j8_ (List.pairwise_cons.mp h).2)
    rcases fW_.mp hz with rfl|hz
    ·exact fH_ e1 e2
    ·exact(List.pairwise_cons.mp h).1 z hz
theorem dj_ {z:Lf}:∀{xs:List Lf},z∈i2_ xs↔z∈xs
 |[]=>by simp [i2_]
 |x::xs=>by
  have:=dj_ (z:=z) (xs:=xs)
  unfold i2_ at this⊢
  rw [List.foldr_cons,fW_,this,List.mem_cons]
theorem jb_:∀(xs:List Lf),(i2_ xs).Pairwise fun a b=>d0_ a b=true
 |[]=>by simp [i2_]
 |x::xs=>by
  have:=jb_ xs
  unfold i2_ at this⊢
  rw [List.foldr_cons]
  exact j8_ this
theorem gk_:∀{xs ys:List Lf},(xs.Pairwise fun a b=>d0_ a b=true)→(ys.Pairwise fun a b=>d0_ a b=true)→(∀z,z∈xs↔z∈ys)→xs=ys
 |[],[],_,_,_=>rfl
 |[],y::ys,_,_,h=>absurd ((h y).mpr (by simp)) (by simp)
 |x::xs,[],_,_,h=>absurd ((h x).mp (by simp)) (by simp)
 |x::xs,y::ys,h1,h2,h=>by
  have a1:=List.pairwise_cons.mp h1
  have a2:=List.pairwise_cons.mp h2
  have e:x=y:=by
   refine Classical.byContradiction fun ne=> ?_
   have m1:x∈ys:=by rcases List.mem_cons.mp ((h x).mp (by simp)) with e|e;exact absurd e ne;exact e
   have m2:y∈xs:=by rcases List.mem_cons.mp ((h y).mpr (by simp)) with e|e;exact absurd e.symm ne;exact e
   exact hx_ (jN_ (a1.1 y m2) (a2.1 x m1))
  subst e
  have:xs=ys:=gk_ a1.2 a2.2 fun z=>by
   have hz:=h z
   rw [List.mem_cons,List.mem_cons] at hz
   constructor
   ·intro m
    rcases hz.mp (.inr m) with e|e
    ·subst e;exact absurd (a1.1 z m) hx_
    ·exact e
   ·intro m
    rcases hz.mpr (.inr m) with e|e
    ·subst e;exact absurd (a2.1 z m) hx_
    ·exact e
  rw [this]
theorem kL_ {p q:Lf} (h:bG_ p=bG_ q):p=q:=by rw [←f9_ p,←f9_ q,h]
theorem lQ_ {ps:List Lf}{yss:List (List Int)} (nd:yss.Nodup) (mem:∀z,z∈yss↔z∈ps.map bG_) (so:∀i j,i<j→j<yss.length→ltI (yss.getD j []) (yss.getD i [])=false):yss=(i2_ ps).map bG_:=by
 obtain⟨qs,e,hq⟩:=de_ (f:=bG_) (P:=fun p=>p∈ps) yss fun v hv=>by
  obtain⟨p,hp,rfl⟩:=List.mem_map.mp ((mem v).mp hv)
  exact⟨p,hp,rfl⟩
 subst e
 have:qs=i2_ ps:=by
  refine gk_ ?_ (jb_ ps) fun z=> ?_
  ·rw [List.pairwise_iff_getElem]
   intro i j hi hj hij
   have h1:=so i j hij (by rw [List.length_map];exact hj)
   rw [List.getD_eq_getElem?_getD,List.getD_eq_getElem?_getD,List.getElem?_map,List.getElem?_map,List.getElem?_eq_getElem hi,List.getElem?_eq_getElem hj] at h1
   simp only [Option.map_some,Option.getD_some] at h1
   rw [jO_] at h1
   refine fH_ (by rw [h1];simp) fun e=> ?_
   unfold List.Nodup at nd
   rw [List.pairwise_map,List.pairwise_iff_getElem] at nd
   exact nd i j hi hj hij (by rw [e])
  ·rw [dj_]
   constructor
   ·exact hq z
   ·intro hz
    obtain⟨q,hq',e⟩:=List.mem_map.mp ((mem (bG_ z)).mpr (List.mem_map_of_mem hz))
    rw [←kL_ e]
    exact hq'
 rw [this]
theorem h8_:∀{n:Nat}{f:Int}{wt:List Lf},wt.length=n→∀r∈d6_ n f wt,r.Perm wt
 |0,f,wt,h,r,hr=>by
  rw [List.length_eq_zero_iff.mp h]
  simp [d6_] at hr
  rw [hr]
 |n+1,f,wt,h,r,hr=>by
  unfold d6_ at hr
  obtain⟨m,hm,hr⟩:=List.mem_flatMap.mp hr
  split at hr
  ·obtain⟨r',hr',rfl⟩:=List.mem_map.mp hr
   have hm':=dj_.mp hm
   have:=h8_ (by rw [List.length_erase_of_mem hm'];omega) r' hr'
   exact(this.cons m).trans (List.perm_cons_erase hm').symm
  ·simp at hr
theorem ke_ (wt:List Lf) (m:Lf):wt.erase m=wt.take (wt.idxOf m)++wt.drop (wt.idxOf m+1):=by
 rw [←List.eraseIdx_eq_take_drop_succ,List.erase_eq_eraseIdx_of_idxOf rfl]
def ct_ (ps:List Lf):Int:=ps.foldl (fun a p=>a*p.2.2^2) 1
def n4_:List Lf→Bool
 |[]=>true
 |x::r=>r.all (fun y=> !(d0_ y x))&&n4_ r
theorem hY_:∀{ps:List Lf},n4_ ps=true→Srt ps
 |[],_=>List.Pairwise.nil
 |x::r,h=>by
  unfold n4_ at h
  rw [Bool.and_eq_true,List.all_eq_true] at h
  exact List.pairwise_cons.mpr ⟨fun y hy=>by simpa using h.1 y hy,hY_ h.2⟩
def oN_ (d:Nat) (ps:List Lf):Bool:=ps.all (nx_ d)&&(List.range d).all (fun i=>decide (0≤eF ps i))&&n4_ ps
theorem kE_ {d:Nat}{ps:List Lf} (h:oN_ d ps=true):Snd d ps:=by
 unfold oN_ at h
 simp only [Bool.and_eq_true,List.all_eq_true,List.mem_range,decide_eq_true_eq] at h
 exact⟨fun p hp=>by have:=h9_.mp (h.1.1 p hp);omega,fun i hi=>h.1.2 i hi,hY_ h.2⟩
abbrev En:=List Lf×List Lf
def P94 (d k:Nat):Prop:=(1≤d∧d≤4∧k≤6)∨(d=5∧k≤1)
theorem P94.wide {d k:Nat} (h:P94 d k):Wide d k:=by unfold P94 at h;unfold Wide;omega
def mkW:Int→List Lf→List Lf→Bool
 |_,wt,[]=>wt.isEmpty
 |f,wt,m::r=>decide (m∈wt)&&dU_ m f wt&&mkW (nxt m f) (wt.erase m) r
theorem h7_:∀{n:Nat}{f:Int}{wt r:List Lf},wt.length=n→r∈d6_ n f wt→mkW f wt r=true∧r.length=n
 |0,f,wt,r,hn,h=>by
  unfold d6_ at h
  rw [List.mem_singleton.mp h,List.length_eq_zero_iff.mp hn]
  exact⟨rfl,rfl⟩
 |n+1,f,wt,r,hn,h=>by
  unfold d6_ at h
  obtain⟨m,hm,h⟩:=List.mem_flatMap.mp h
  have hm:=dj_.mp hm
  split at h
  ·next hs=>
   obtain⟨r,hr,rfl⟩:=List.mem_map.mp h
   obtain⟨a,b⟩:=h7_ (by rw [List.length_erase_of_mem hm,hn];rfl) hr
   unfold mkW
   rw [decide_eq_true hm,hs,a]
   exact⟨rfl,by rw [List.length_cons,b]⟩
  ·cases h
theorem mm_ {d:Nat}{x m:List Lf} (h:m∈ie_ d x):mkW 0 (dy_ d x) m=true∧m.length=(dy_ d x).length:=h7_ rfl h
def hn_ (d:Nat) (L:List (List Lf)):List En:=L.flatMap fun x=>(ie_ d x).map fun m=>(x,m)
theorem ma_ {d:Nat}{L:List (List Lf)}{e:En} (h:e∈hn_ d L):e.1∈L∧e.2∈ie_ d e.1:=by
 obtain⟨x,hx,h⟩:=List.mem_flatMap.mp h
 obtain⟨m,hm,rfl⟩:=List.mem_map.mp h
 exact⟨hx,hm⟩
theorem jw_ {d:Nat}:∀{L:List (List Lf)},(hn_ d L).length=(L.map fun x=>(ie_ d x).length).sum
 |[]=>rfl
 |x::L=>by
  have:=jw_ (d:=d) (L:=L)
  unfold hn_ at this⊢
  rw [List.flatMap_cons,List.length_append,List.length_map,this,List.map_cons,List.sum_cons]
def hc_ (E:List En):Int:=(E.map fun e=>ct_ e.1).sum
theorem hX_ (A B:List En):hc_ (A++B)=hc_ A+hc_ B:=by unfold hc_;rw [List.map_append,List.sum_append]
theorem lr_ {α β:Type}{f:α→β} (hf:∀a b,f a=f b→a=b):∀{xs:List α},xs.Nodup→(xs.map f).Nodup
 |[],_=>by simp
 |x::xs,h=>by
  obtain⟨n,h⟩:=List.nodup_cons.mp h
  refine List.nodup_cons.mpr ⟨fun hx=> ?_,lr_ hf h⟩
  obtain⟨y,hy,e⟩:=List.mem_map.mp hx
  exact n (hf _ _ e▸hy)
def kE (e:En):List (List (List Int)):=[e.1.map bG_,e.2.map bG_]
theorem cA_:∀{p q:List Lf},p.map bG_=q.map bG_→p=q
 |[],[],_=>rfl
 |[],_::_,h=>nomatch h
 |_::_,[],h=>nomatch h
 |x::p,y::q,h=>by
  rw [List.map_cons,List.map_cons] at h
  obtain⟨h1,h2⟩:=List.cons.inj h
  unfold bG_ at h1
  simp only [List.cons.injEq,and_true] at h1
  rw [cA_ h2,show x=y from Prod.ext h1.1 (Prod.ext h1.2.1 h1.2.2)]
theorem nL_ {a b:En} (h:kE a=kE b):a=b:=by
 unfold kE at h
 simp only [List.cons.injEq,and_true] at h
 exact Prod.ext (cA_ h.1) (cA_ h.2)
theorem Snd.good {d:Nat}{ps:List Lf} (h:Snd d ps):lG_ d ps:=⟨h.ok,h.nn⟩
theorem Snd.okl {d:Nat}{ps:List Lf} (h:Snd d ps):∀p∈ps,Okl d p:=h.good.okl
theorem hF_ {ns:List Int} (h:∀i:Nat,0≤ns.getD i 0):0≤mo_ ns:=h _
theorem Snd.ends {d:Nat}{ps:List Lf} (h:Snd d ps) (i:Nat):0≤(aZ_ d ps).getD i 0:=by
 rcases Nat.lt_or_ge i d with c|c
 ·rw [dM_ h.okl c];exact h.nn i c
 ·rw [List.getD_eq_getElem?_getD,List.getElem?_eq_none (by rw [cS_ d ps h.okl];exact c)];exact Int.le_refl _
theorem mn_ {ns:List Int}{i:Nat} (h:i<ns.length):mo_ ns≤ns.getD i 0:=(argBest_lt (fun i=>ns.getD i 0) (ns.length-1)).2 i (by omega)
def WOk (f:Int) (W:List Lf):Prop:=∀o∈W,(o.1=o.2.1∧o.2.2=0∧f<o.1)∨(o.1<o.2.1∧0<o.2.2∧f<o.2.1)
def lI_ (W:List Lf):Prop:=(W.filter fun o=>decide (o.1=o.2.1)).Nodup
theorem lI_.erase {W:List Lf} (h:lI_ W) (p:Lf):lI_ (W.erase p):=h.sublist ((List.erase_sublist).filter _)
theorem lI_.out {W:List Lf}{p:Lf} (h:lI_ W) (e:p.1=p.2.1):p∉W.erase p:=by
 intro hp
 have c:2≤W.count p:=by
  have:=List.count_pos_iff.mpr hp
  rw [List.count_erase_self] at this
  omega
 have:(W.filter fun o=>decide (o.1=o.2.1)).count p=W.count p:=List.count_filter (by simpa using e)
 have n:=List.nodup_iff_count.mp h p
 omega
theorem gm_:∀{m:List Lf}{g:Int}{o:Lf},cr_ g m=true→o∈m→(0<o.2.2→g<o.2.1)∧(o.2.2=0→g<o.1)
 |[],_,_,_,h=>nomatch h
 |p::r,g,o,hp,h=>by
  unfold cr_ at hp
  simp only [Bool.and_eq_true] at hp
  obtain⟨⟨h1,h2⟩,h3⟩:=hp
  rcases List.mem_cons.mp h with rfl|h
  ·refine⟨fun w=> ?_,fun w=> ?_⟩
   ·simp [w] at h2
    exact h2.2
   ·simp [w] at h1
    omega
  ·obtain⟨a,b⟩:=gm_ h3 h
   refine⟨fun w=> ?_,fun w=> ?_⟩
   ·have:=a w
    split at this<;>omega
   ·have:=b w
    split at this<;>omega
theorem ef_:∀{m:List Lf}{f:Int}{W:List Lf},WOk f W→lI_ W→mkW f W m=true→m.Perm W∧cr_ f m=true
 |[],f,W,_,_,h=>by
  unfold mkW at h
  rw [List.isEmpty_iff.mp h]
  exact⟨.nil,rfl⟩
 |p::r,f,W,wo,fn,h=>by
  unfold mkW at h
  simp only [Bool.and_eq_true,decide_eq_true_eq] at h
  obtain⟨⟨hin,hmay⟩,hk⟩:=h
  rcases wo p hin with⟨e1,e2,e3⟩|⟨e1,e2,e3⟩
  ·unfold dU_ at hmay
   rw [if_pos e1] at hmay
   simp only [Bool.and_eq_true,decide_eq_true_eq,Bool.not_eq_true',List.any_eq_false] at hmay
   obtain⟨hf,hno⟩:=hmay
   rw [show nxt p f=f+1 from if_pos e1] at hk
   have wo':WOk (f+1) (W.erase p):=fun o ho=>by
    have ne:o≠p:=by rintro rfl;exact fn.out e1 ho
    have no:=hno o (List.mem_of_mem_erase ho)
    have no:¬o.2.1=p.1:=fun z=>no (by simp [ne,z])
    rcases wo o (List.mem_of_mem_erase ho) with⟨a,b,c⟩|⟨a,b,c⟩
    ·exact .inl ⟨a,b,by omega⟩
    ·exact .inr ⟨a,b,by omega⟩
   obtain⟨a,b⟩:=ef_ wo' (fn.erase p) hk
   refine⟨(List.Perm.cons p a).trans (List.perm_cons_erase hin).symm, ?_⟩
   unfold cr_
   simp [e2,hf,b]
  ·have ne:¬p.1=p.2.1:=by omega
   unfold dU_ at hmay
   rw [if_neg ne] at hmay
   simp only [decide_eq_true_eq] at hmay
   rw [show nxt p f=f from if_neg ne] at hk
   obtain⟨a,b⟩:=ef_ (fun o ho=>wo o (List.mem_of_mem_erase ho)) (fn.erase p) hk
   refine⟨(List.Perm.cons p a).trans (List.perm_cons_erase hin).symm, ?_⟩
   unfold cr_
   have:¬p.2.2=0:=by omega
   simp [this,hmay,e3,b]
theorem eq_:∀{m:List Lf}{f:Int}{W:List Lf},WOk f W→m.Perm W→cr_ f m=true→mkW f W m=true
 |[],f,W,_,p,_=>by
  rw [List.nil_perm.mp p]
  rfl
 |p::r,f,W,wo,hp,h=>by
  have hin:p∈W:=hp.subset List.mem_cons_self
  have hr:r.Perm (W.erase p):=(List.Perm.cons_inv (hp.trans (List.perm_cons_erase hin)))
  unfold cr_ at h
  simp only [Bool.and_eq_true] at h
  obtain⟨⟨h1,h2⟩,h3⟩:=h
  unfold mkW
  rcases wo p hin with⟨e1,e2,e3⟩|⟨e1,e2,e3⟩
  ·simp [e2] at h1
   rw [if_pos e2] at h3
   have wo':WOk (f+1) (W.erase p):=fun o ho=>by
    obtain⟨a1,a2⟩:=gm_ h3 (hr.symm.subset ho)
    rcases wo o (List.mem_of_mem_erase ho) with⟨a,b,c⟩|⟨a,b,c⟩
    ·exact .inl ⟨a,b,a2 b⟩
    ·exact .inr ⟨a,b,a1 b⟩
   have may:dU_ p f W=true:=by
    unfold dU_
    rw [if_pos e1]
    simp only [Bool.and_eq_true,decide_eq_true_eq,Bool.not_eq_true',List.any_eq_false]
    refine⟨h1,fun o ho z=> ?_⟩
    have ho':o∈W.erase p:=(List.mem_erase_of_ne z.1).mpr ho
    rcases wo' o ho' with⟨a,b,c⟩|⟨a,b,c⟩<;>omega
   rw [decide_eq_true hin,may,show nxt p f=f+1 from if_pos e1,eq_ wo' hr h3]
   rfl
  ·have ne:¬p.1=p.2.1:=by omega
   have w0:¬p.2.2=0:=by omega
   simp [e2] at h2
   rw [if_neg w0,Int.add_zero] at h3
   have may:dU_ p f W=true:=by
    unfold dU_
    rw [if_neg ne]
    exact decide_eq_true h2.1
   rw [decide_eq_true hin,may,show nxt p f=f from if_neg ne,eq_ (fun o ho=>wo o (List.mem_of_mem_erase ho)) hr h3]
   rfl
theorem mH_ {d:Nat}{x:List Lf} (hs:Snd d x):WOk 0 (dy_ d x)∧lI_ (dy_ d x):=by
 have en:∀o∈dN_ d (aZ_ d x),o.1<o.2.1∧0<o.2.2∧0<o.2.1:=fun o ho=>by
  unfold dN_ at ho
  obtain⟨i,hi,ho⟩:=List.mem_flatMap.mp ho
  have hi:=List.mem_range.mp hi
  unfold fd_ at ho
  rw [(List.mem_replicate.mp ho).2]
  exact⟨by show 1+(i:Int)<(d:Int)+1;omega,by show(0:Int)<1;decide,by show(0:Int)<(d:Int)+1;omega⟩
 constructor
 ·intro o ho
  unfold dy_ at ho
  rcases List.mem_append.mp ho with ho|ho
  ·rcases List.mem_append.mp ho with ho|ho
   ·unfold f0_ at ho
    obtain⟨i,hi,rfl⟩:=List.mem_map.mp ho
    exact .inl ⟨rfl,rfl,by show(0:Int)<1+(i:Int);omega⟩
   ·obtain⟨a,b,c,e⟩:=hs.ok o ho
    exact .inr ⟨b,by omega,by omega⟩
  ·exact .inr (en o ho)
 ·unfold lI_ dy_
  have f1:x.filter (fun o=>decide (o.1=o.2.1))=[]:=List.filter_eq_nil_iff.mpr fun o ho=>by
   obtain⟨a,b,c,e⟩:=hs.ok o ho
   simp
   omega
  have f2:(dN_ d (aZ_ d x)).filter (fun o=>decide (o.1=o.2.1))=[]:=List.filter_eq_nil_iff.mpr fun o ho=>by
   have:=en o ho
   simp
   omega
  rw [List.filter_append,List.filter_append,f1,f2,List.append_nil,List.append_nil]
  refine List.Nodup.sublist (List.filter_sublist) ?_
  unfold f0_
  exact lr_ (fun a b e=>by have:=(Prod.mk.inj e).1;omega) List.nodup_range
theorem lq_ {d:Nat}{x m:List Lf} (hs:Snd d x):mkW 0 (dy_ d x) m=true↔m.Perm (dy_ d x)∧cr_ 0 m=true:=by
 obtain⟨a,b⟩:=mH_ hs
 exact⟨ef_ a b,fun h=>eq_ a h.1 h.2⟩
def me_ (d:Nat) (x:List Lf):Bool:=x.all fun p=>decide (1≤p.1)&&decide (p.1<p.2.1)&&decide (p.2.1≤(d:Int))&&decide (1≤p.2.2)
theorem ch_ {d:Nat}{x:List Lf}:me_ d x=true↔∀p∈x,1≤p.1∧p.1<p.2.1∧p.2.1≤(d:Int)∧1≤p.2.2:=by
 unfold me_
 simp only [List.all_eq_true,Bool.and_eq_true,decide_eq_true_eq,and_assoc]
theorem hb_ (a w:Int):∀d:Nat,((List.range d).map fun i:Nat=>if a=1+(i:Int) then w else 0).sum=if 1≤a∧a≤d then w else 0
 |0=>by
  rw [if_neg (by omega)]
  rfl
 |d+1=>by
  rw [List.range_succ,List.map_append,List.sum_append,hb_ a w d]
  simp only [List.map_cons,List.map_nil,List.sum_cons,List.sum_nil]
  by_cases c:a=1+(d:Int)
  ·rw [if_pos c,if_neg (by omega),if_pos (by omega)]
   omega
  ·rw [if_neg c]
   by_cases e:1≤a∧a≤d
   ·rw [if_pos e,if_pos (by omega)]
    omega
   ·rw [if_neg e,if_neg (by omega)]
    rfl
theorem hW_ {d:Nat}:∀{ps:List Lf},(∀p∈ps,Okl d p)→((List.range d).map (eF ps)).sum=d
 |[],_=>by
  have:(List.range d).map (eF [])=List.replicate d 1:=by
   refine List.ext_getElem (by simp) fun i h1 h2=> ?_
   simp [eF,f4_,dr_]
  rw [this]
  simp
 |p::ps,h=>by
  have o:=h p List.mem_cons_self
  have ih:=hW_ (ps:=ps) fun q hq=>h q (List.mem_cons_of_mem _ hq)
  have e:∀n:Nat,((List.range n).map (eF (p::ps))).sum=((List.range n).map (eF ps)).sum+((List.range n).map fun i:Nat=>if p.2.1=1+(i:Int) then p.2.2 else 0).sum-((List.range n).map fun i:Nat=>if p.1=1+(i:Int) then p.2.2 else 0).sum:=fun n=>by
   induction n with
   |zero=>rfl
   |succ n ih=>
    rw [List.range_succ]
    simp only [List.map_append,List.sum_append,List.map_cons,List.map_nil,List.sum_cons,List.sum_nil]
    rw [ih]
    have:eF (p::ps) n=eF ps n+(if p.2.1=1+(n:Int) then p.2.2 else 0)-(if p.1=1+(n:Int) then p.2.2 else 0):=by
     unfold eF
     rw [dO_,df_]
     omega
    rw [this]
    omega
  rw [e d,hb_,hb_,ih,if_pos ⟨o.2.2.1,o.2.2.2⟩,if_pos ⟨o.1,o.2.1⟩]
  omega
theorem dz_ {d:Nat}{x:List Lf} (hs:Snd d x) (d1:1≤d) (d5:d≤5):(dy_ d x).length≤20∧x.length≤10∧∀p∈x,1≤p.2.2∧p.2.2≤2^20:=by
 have ok:=hs.good.okl
 have l1:=hs.good.len d1 d5
 have en:((dN_ d (aZ_ d x)).length:Int)=d:=by
  rw [←hW_ ok]
  have go:∀n:Nat,n≤d→(((List.range n).flatMap (fd_ d (aZ_ d x))).length:Int)=((List.range n).map (eF x)).sum:=fun n=>by
   induction n with
   |zero=>intro _;rfl
   |succ n ih=>
    intro hn
    rw [List.range_succ,List.flatMap_append,List.map_append,List.sum_append,List.length_append]
    have:=ih (by omega)
    have e2:(fd_ d (aZ_ d x) n).length=(eF x n).toNat:=by unfold fd_;rw [List.length_replicate,dM_ ok (by omega)]
    have nn:0≤eF x n:=hs.nn n (by omega)
    simp only [List.flatMap_cons,List.flatMap_nil,List.append_nil,List.map_cons,List.map_nil,List.sum_cons,List.sum_nil]
    omega
  exact go d (Nat.le_refl _)
 refine⟨?_,by omega,fun p hp=> ?_⟩
 ·unfold dy_ f0_
  rw [List.length_append,List.length_append,List.length_map,List.length_range]
  omega
 ·obtain⟨o1,o2,o3,o4⟩:=hs.ok p hp
  refine⟨o4, ?_⟩
  have a:=mE_ hs.ok
  rw [iv_ d1 d5] at a
  have n2:=(ed_ (d:=d) (g:=eF x) (n:=d) (i:=0) (Nat.le_refl _) hs.nn (by omega)).2
  have ml:bn_ p≤(x.map bn_).sum:=by
   obtain⟨s,t,rfl⟩:=List.append_of_mem hp
   have a1:=hV_ bn_ (xs:=s) fun q hq=>by
    have:=hs.ok q (by simp [hq])
    exact hy_ this.2.1 this.2.2.2
   have a2:=hV_ bn_ (xs:=t) fun q hq=>by
    have:=hs.ok q (by simp [hq])
    exact hy_ this.2.1 this.2.2.2
   rw [List.map_append,List.sum_append,List.map_cons,List.sum_cons]
   omega
  have:1*p.2.2≤(p.2.1-p.1)*p.2.2:=Int.mul_le_mul_of_nonneg_right (by omega) (by omega)
  rw [show bn_ p=(p.2.1-p.1)*p.2.2-1 from rfl] at ml
  omega
theorem jd_ {d:Nat}{x:List Lf} (ok:me_ d x=true) (so:Srt x):Snd d x↔0≤mo_ (aZ_ d x):=by
 have ok:=ch_.mp ok
 have okl:∀p∈x,Okl d p:=fun p hp=>by
  have:=ok p hp
  exact⟨by omega,by omega,by omega,by omega⟩
 constructor
 ·intro h
  exact hF_ h.ends
 ·intro h
  refine⟨ok,fun i hi=> ?_,so⟩
  have:=mn_ (ns:=aZ_ d x) (i:=i) (by rw [cS_ d x okl];exact hi)
  rw [dM_ okl hi] at this
  unfold eF at this
  omega
def Rgt (d k:Nat) (e:En):Prop:=(e.1.length+k=d*(d-1)/2∧Snd d e.1)∧mkW 0 (dy_ d e.1) e.2=true
def eM_ (d k:Nat) (E:List En):Prop:=E.Nodup∧∀e∈E,Rgt d k e
def nw_ (d:Nat) (x:List Lf):Bool:=oN_ d x&&decide ((ie_ d x).length≤900)
def m1_ (d k:Nat):Nat:=((g6_ d k).map fun x=>(ie_ d x).length).sum
def g1_ (d k:Nat):Bool:=okB d k&&(g6_ d k).all (nw_ d)&&decide ((g6_ d k).length<64)&&decide (m1_ d k≤900)
def w94 (d n:Nat):Bool:=(List.range n).all (g1_ d)
theorem od_:w94 1 7=true:=by decide+kernel
theorem oc_:w94 2 7=true:=by decide+kernel
theorem ob_:w94 3 7=true:=by decide+kernel
theorem mY_:w94 4 3=true:=by decide+kernel
theorem mX_:g1_ 4 3=true:=by decide+kernel
theorem mW_:g1_ 4 4=true:=by decide+kernel
theorem mV_:g1_ 4 5=true:=by decide+kernel
theorem mU_:g1_ 4 6=true:=by decide+kernel
theorem oa_:w94 5 2=true:=by decide+kernel
structure Bits94 (d k:Nat):Prop where
 ok:okB d k=true
 one:∀x∈g6_ d k,Snd d x∧(ie_ d x).length≤900
 few:(g6_ d k).length<64
 tot:m1_ d k≤900
theorem iG_ {d k:Nat} (h:P94 d k):Bits94 d k:=by
 have a:g1_ d k=true:=by
  have go:∀{n:Nat},w94 d n=true→k<n→g1_ d k=true:=fun h hk=>List.all_eq_true.mp h k (List.mem_range.mpr hk)
  rcases h with⟨h1,h2,h3⟩|⟨rfl,h⟩
  ·rcases(show d=1∨d=2∨d=3∨d=4 by omega) with rfl|rfl|rfl|rfl
   ·exact go od_ (by omega)
   ·exact go oc_ (by omega)
   ·exact go ob_ (by omega)
   ·rcases(show k<3∨k=3∨k=4∨k=5∨k=6 by omega) with h|rfl|rfl|rfl|rfl
    ·exact go mY_ h
    ·exact mX_
    ·exact mW_
    ·exact mV_
    ·exact mU_
  ·exact go oa_ (by omega)
 unfold g1_ at a
 simp only [Bool.and_eq_true,decide_eq_true_eq,List.all_eq_true] at a
 obtain⟨⟨⟨a,b⟩,c⟩,f⟩:=a
 refine⟨a,fun x hx=> ?_,c,f⟩
 have:=b x hx
 unfold nw_ at this
 simp only [Bool.and_eq_true,decide_eq_true_eq] at this
 exact⟨kE_ this.1,this.2⟩
theorem jv_ {d k:Nat}{L:List (List Lf)} (b:Bits94 d k) (p:L.Perm (g6_ d k)):(hn_ d L).length≤900:=by
 rw [jw_,(p.map _).sum_nat]
 exact b.tot
theorem kr_ {ks:List Int}{i:Nat} (h:i<ks.length):atI (ks.map V.int) (i:Int)=some (.int (ks.getD i 0)):=b0_ (by rw [List.getElem?_map,List.getElem?_eq_getElem h];simp [List.getD,h])
theorem nW_ {z:Int} (h0:0<z) (h1:z≤10^60):z≠0∧z.natAbs<2^512:=by
 have:(10:Nat)^60<2^512:=by decide
 constructor<;>omega
abbrev Bag (H:Hp) (b:Addr) (far st:Int):Prop:=H b=some (.lst [.int far, .int st])
def ng_ (K:PySem.W.Frag):Sp:=fun vs H Q _=>∃(a:Addr) (ns:List Int) (k:Int),vs=[.ref a, .int k]∧SqL K H a (ns.map V.int)∧0≤k∧∀z,Q (.int z) H
def oK_ (_:PySem.W.Frag):Sp:=fun vs H Q _=>∃(c pl:Int),vs=[.int c, .int pl]∧0≤pl∧pl≤100000∧∀(b:Addr) (far st:Int) (H':Hp),al_ H H'→H b=none→Bag H' b far st→0≤far→0≤st→Q (.ref b) H'
def lU_ (_:PySem.W.Frag):Sp:=fun vs H Q _=>∃(b:Addr) (far st:Int),vs=[.ref b]∧Bag H b far st∧∀z st',0≤z→0≤st'→Q (.int z) (upd H b (.lst [.int far, .int st']))
def lW_ (_:PySem.W.Frag):Sp:=fun vs H Q _=>∃(b:Addr) (many far st:Int),vs=[.ref b, .int many]∧Bag H b far st∧0≤far∧0≤st∧0<many∧many≤10^60∧∀z far' st',0≤z→z<many→0≤far'→0≤st'→Q (.int z) (upd H b (.lst [.int far', .int st']))
def But (b:Addr) (H H':Hp):Prop:=∀c o,H c=some o→c≠b→H' c=some o
theorem But.of_same {b:Addr}{H H':Hp} (s:al_ H H'):But b H H':=fun c o e _=>s _ _ e
theorem But.trans {b:Addr}{H H' H'':Hp} (s:But b H H') (t:But b H' H''):But b H H'':=fun c o e n=>t c o (s c o e n) n
theorem But.upd {b:Addr}{H:Hp}{o:HO}:But b H (L2.upd H b o):=fun c u e n=>by rw [ar_ n];exact e
def hZ_ (K:PySem.W.Frag):Sp:=fun vs H Q _=>∃(a:Addr) (ns:List Int),vs=[.ref a]∧SqL K H a (ns.map V.int)∧ns.length≤63∧∀H',Q (.bl true) H'
theorem ea_ {vs:List V}{k:Nat}:kn_ vs none (some (k:Int))=vs.take k:=by
 unfold kn_
 rw [HT.sIx_nat,HT.sIx_none,List.drop_zero,Nat.sub_zero]
 exact List.take_eq_take_iff.mpr (by omega)
def stD (x:List Lf×Int):D:= .t [lfs x.1, .i x.2]
def Lok (p:Lf):Prop:=0≤p.2.1-p.1∧p.2.1-p.1≤10∧1≤p.2.2∧p.2.2≤20
def nh_ (_:PySem.W.Frag):Sp:=fun vs H Q _=>∃i lo hi:Int,vs=[.int i, .int lo, .int hi]∧lo≤i∧i≤hi∧Q .non H
def nf_ (_:PySem.W.Frag):Sp:=fun vs H Q _=>∃i:Int,vs=[.int i]∧1≤i∧i≤5∧Q .non H
def m9_ (_:PySem.W.Frag):Sp:=fun vs H Q _=>∃d k:Nat,vs=[.int d, .int k]∧Wide d k∧Q .non H
def ne_ (_:PySem.W.Frag):Sp:=fun vs H Q _=>∃(n:Nat) (dv:V) (ps:List Lf),vs=[.int n,dv]∧1≤n∧n≤5∧Is H (lfs ps) dv∧(∀p∈ps,Okl n p)∧∀l H',al_ H H'→H l=none→H' l=some (.lst ((aZ_ n ps).map V.int))→Q (.ref l) H'
def na_ (_:PySem.W.Frag):Sp:=fun vs H Q _=>∃(v:V) (p:Lf),vs=[v]∧Is H (lf p) v∧Lok p∧Q (.int (bn_ p)) H
def oE_ (_:PySem.W.Frag):Sp:=fun vs H Q _=>∃(d f n:Nat) (sp:Int),vs=[.int d, .int f, .int n, .int sp]∧f≤d∧d≤5∧n≤20∧∀l H',al_ H H'→H l=none→Is H' (lfs (iW_ f (d-f) n sp)) (.ref l)→Q (.ref l) H'
def nc_ (n:Nat) (_:PySem.W.Frag):Sp:=fun vs H Q _=>∃(v:V) (ls:List Lf) (wt sp:Int),vs=[v, .int wt, .int sp]∧Is H (lfs ls) v∧(∀p∈ls,Lok p)∧0≤wt∧wt<n∧(cU_ n ls wt sp).length≤1000∧ls.length≤200∧n≤100∧
 ∀l H',al_ H H'→H l=none→Is (nw H H') (.l ((cU_ n ls wt sp).map lfs)) (.ref l)→Q (.ref l) H'
def m8_ (_:PySem.W.Frag):Sp:=fun vs H Q _=>∃(d f:Nat) (v:V) (x:List Lf×Int),vs=[.int d, .int ((f+1:Nat):Int),v, .int x.2]∧f<d∧d≤5∧Is H (lfs x.1) v∧stB d f x=true∧
 ∀l H',al_ H H'→H l=none→Is (nw H H') (.l ((ee_ d (f+1) x.1 x.2).map stD)) (.ref l)→Q (.ref l) H'
theorem iq_ {H:Hp}{W:List (List Lf)}{vs:List V} (h:Iss H (W.map lfs) vs):∀(l:List Nat),(∀i∈l,i<W.length)→Iss H ((l.map fun i=>W.getD i []).map lfs) (l.map fun i=>vs.getD i .non)
 |[],_=>aj_
 |i::l,hl=>by
  have hi:i<W.length:=hl i (by simp)
  have hr:i<vs.length:=by rw [h.length,List.length_map];exact hi
  refine ag_ ?_ (iq_ h l fun j hj=>hl j (by simp [hj]))
  obtain⟨d,hd,h1⟩:=h.of_get (List.getElem?_eq_getElem hr)
  rw [List.getElem?_map,List.getElem?_eq_getElem hi] at hd
  cases hd
  show Is H (lfs (W.getD i [])) (vs.getD i .non)
  rw [List.getD_eq_getElem?_getD,List.getD_eq_getElem?_getD,List.getElem?_eq_getElem hi,List.getElem?_eq_getElem hr]
  exact h1
theorem nz_ {H:Hp}{x:List Lf×Int}{v:V} (h:Is H (stD x) v):∃t u,v= .ref t∧H t=some (.tup [u, .int x.2])∧Is H (lfs x.1) u:=by
 obtain⟨t,vs,rfl,ht,hi⟩:=g7_ h
 obtain⟨u,us,rfl,h1,h2⟩:=aC_ hi
 obtain⟨u2,us2,rfl,h3,h4⟩:=aC_ h2
 rw [dg_ h3,a7_ h4] at ht
 exact⟨t,u,rfl,ht,h1⟩
theorem lD_ {yss:List (List Int)} (h:∀i j,i<j→j<yss.length→ltI (yss.getD j []) (yss.getD i [])=false):yss.Pairwise fun x y=>ltI y x=false:=by
 rw [List.pairwise_iff_getElem]
 intro i j hi hj hij
 have:=h i j hij hj
 rw [List.getD_eq_getElem?_getD,List.getD_eq_getElem?_getD,List.getElem?_eq_getElem hi,List.getElem?_eq_getElem hj] at this
 exact this
theorem lF_ {yss xss:List (List Int)} (hp:yss.Perm xss) (hl:∀x∈xss,x.length=3) (h1:∀i j,i<j→j<yss.length→ltI (yss.getD j []) (yss.getD i [])=false) (h2:∀i j,i<j→j<xss.length→ltI (xss.getD j []) (xss.getD i [])=false):yss=xss:=by
 refine hp.eq_of_pairwise (fun a b ha hb e1 e2=> ?_) (lD_ h1) (lD_ h2)
 have la:=hl a (hp.mem_iff.mp ha)
 have lb:=hl b hb
 rw [fJ_ (by rw [la,lb])] at e1 e2
 exact gC_ (by rw [la,lb]) e2 e1
theorem cb_ {ps:List Lf}:∀x∈ps.map bG_,x.length=3:=fun x hx=>by
 obtain⟨p,_,rfl⟩:=List.mem_map.mp hx
 rfl
theorem kb_ {d:Nat} (h1:1≤d) (h5:d≤5):(d:Int)*((d:Int)-1)/2=((d*(d-1)/2:Nat):Int):=by
 have:d=1∨d=2∨d=3∨d=4∨d=5:=by omega
 rcases this with rfl|rfl|rfl|rfl|rfl<;>rfl
theorem eE_ {H H':Hp}{a:Addr} (k:But a H H'):al_ (hid H a) H':=fun b o e=>by
 have hb:b≠a:=by rintro rfl;rw [dv_] at e;cases e
 rw [br_ hb] at e
 exact k _ _ e hb
theorem eJ_ {vs:List V}{i:Nat} (h:i≤vs.length):kn_ vs (some (i:Int)) none=vs.drop i:=by
 unfold kn_
 rw [HT.sIx_nat,HT.sIx_none,Nat.min_eq_left h,List.take_of_length_le (by simp)]
theorem lE_ {qs:List Lf} (h:qs.Pairwise fun a b=>d0_ b a=false):∀i j,i<j→j<(qs.map bG_).length→ltI ((qs.map bG_).getD j []) ((qs.map bG_).getD i [])=false:=by
 intro i j hij hj
 rw [List.length_map] at hj
 rw [List.pairwise_iff_getElem] at h
 rw [List.getD_eq_getElem?_getD,List.getD_eq_getElem?_getD,List.getElem?_map,List.getElem?_map,List.getElem?_eq_getElem hj,List.getElem?_eq_getElem (show i<qs.length by omega)]
 show ltI (bG_ qs[j]) (bG_ qs[i])=false
 rw [jO_]
 exact h i j (by omega) hj hij
theorem hH_ (ps qs:List Lf) {K:PySem.W.Frag}{H:Hp}{v u:V} (h:Is H (lfs ps) v) (k:Is H (lfs qs) u):EqR K H 2 v u (decide (ps=qs)):=by
 have kin:∀ps qs:List Lf,eO_ (ps.map lf) (qs.map lf):=fun ps=>by
  induction ps with
  |nil=>intro qs;cases qs<;>exact trivial
  |cons p ps ih=>
   intro qs
   cases qs with
   |nil=>exact trivial
   |cons q qs=>exact⟨by simp [lf,tI,bG_,Kin,eO_],ih qs⟩
 have dp:∀ps:List Lf,fe_ (ps.map lf)≤1:=fun ps=>by
  induction ps with
  |nil=>simp [fe_]
  |cons p ps ih=>simp [fe_,lf,tI,bG_,dep] at ih⊢;omega
 have e:=h.eqr (K:=K) (n:=2) (by have:=dp ps;unfold lfs dep;omega) (by unfold lfs Kin;exact kin ps qs) k
 have e1:∀p q:Lf,eqD (lf p) (lf q)=decide (p=q):=fun p q=>by
  obtain⟨a,b,c⟩:=p
  obtain⟨d,e,f⟩:=q
  simp [lf,tI,bG_,eqD,e9_,Bool.and_assoc]
 have e2:∀ps qs:List Lf,e9_ (ps.map lf) (qs.map lf)=decide (ps=qs):=fun ps=>by
  induction ps with
  |nil=>intro qs;cases qs<;>simp [e9_]
  |cons p ps ih=>
   intro qs
   cases qs with
   |nil=>simp [e9_]
   |cons q qs=>simp [e9_,e1,ih]
 have:eqD (lfs ps) (lfs qs)=decide (ps=qs):=by
  unfold lfs
  rw [eqD]
  exact e2 ps qs
 rwa [this] at e
theorem mh_ {H0 H:Hp}{a:Addr}{xs:List V} (s:al_ H0 H) (h:nw H0 H a=some (.lst xs)):H0 a=none:=by
 cases e:H0 a with
 |none=>rfl
 |some o=>
  have h2:=aJ_ _ _ h
  rw [s _ _ e] at h2
  cases h2
  unfold nw at h
  rw [e] at h
  cases h
def oB_ (_:PySem.W.Frag):Sp:=fun vs H Q _=>∃(n:Nat) (dv:V) (ps:List Lf),vs=[.int n,dv]∧1≤n∧n≤5∧Is H (lfs ps) dv∧Snd n ps∧∀H',al_ H H'→Q .non H'
def oH_ (_:PySem.W.Frag):Sp:=fun vs H Q _=>∃(n:Nat) (dv:V) (ps:List Lf),vs=[.int n,dv]∧1≤n∧n≤5∧Is H (lfs ps) dv∧Snd n ps∧(dN_ n (aZ_ n ps)).length≤20∧∀l H',al_ H H'→H l=none→Is H' (lfs (dN_ n (aZ_ n ps))) (.ref l)→Q (.ref l) H'
def oD_ (_:PySem.W.Frag):Sp:=fun vs H Q _=>∃(v u:V) (m:Lf) (f:Int) (wt:List Lf),vs=[v, .int f,u]∧Is H (lf m) v∧Is H (lfs wt) u∧wt.length≤20∧∀H',al_ H H'→Q (.bl (dU_ m f wt)) H'
def ou_ (_:PySem.W.Frag):Sp:=fun vs H Q _=>∃(v u:V) (m:Lf) (wt:List Lf),vs=[u,v]∧Is H (lf m) v∧Is H (lfs wt) u∧wt.length≤20∧m∈wt∧∀l H',al_ H H'→H l=none→Is H' (lfs (wt.erase m)) (.ref l)→Q (.ref l) H'
def oz_ (n:Nat) (_:PySem.W.Frag):Sp:=fun vs H Q _=>∃(u:V) (f:Int) (wt:List Lf),vs=[.int f,u]∧Is H (lfs wt) u∧wt.length<n∧n≤21∧(d6_ wt.length f wt).length≤900∧∀l H',al_ H H'→H l=none→Is (nw H H') (.l ((d6_ wt.length f wt).map lfs)) (.ref l)→Q (.ref l) H'
def oM_ (_:PySem.W.Frag):Sp:=fun vs H Q _=>∃(n:Nat) (dv:V) (ps:List Lf),vs=[.int n,dv]∧1≤n∧n≤5∧Is H (lfs ps) dv∧Snd n ps∧(dy_ n ps).length≤20∧∀l H',al_ H H'→H l=none→Is H' (lfs (dy_ n ps)) (.ref l)→Q (.ref l) H'
def lV_ (_:PySem.W.Frag):Sp:=fun vs H Q _=>∃(n:Nat) (dv:V) (ps:List Lf),vs=[.int n,dv]∧1≤n∧n≤5∧Is H (lfs ps) dv∧Snd n ps∧(ps++dN_ n (aZ_ n ps)).length≤20∧∀l H',al_ H H'→H l=none→Is H' (lfs (ps++dN_ n (aZ_ n ps))) (.ref l)→Q (.ref l) H'
theorem ga_ {d:Nat}{ps:List Lf}:(dy_ d ps).length=d+ps.length+(dN_ d (aZ_ d ps)).length:=by
 unfold dy_ f0_
 simp
 omega
theorem dW_ {H H':Hp}{l:Addr}{o:HO}{xs:List V}{qs:List Lf}{vs:List V} (s:al_ H H') (hl:H l=some (.lst xs)) (h:Iss H (qs.map lf) vs):Iss (upd H' l o) (qs.map lf) vs:=
 ir_ (fun a ys e=>by rw [ar_ (by rintro rfl;rw [hl] at e;cases e)];exact s _ _ e) h
theorem lt_ {H:Hp}{p q:Lf}{v:V} (h:Is H (lf p) v) (k:Is H (lf q) v):p=q:=by
 obtain⟨a,rfl,ha⟩:=dq_ h
 obtain⟨b,e,hb⟩:=dq_ k
 cases e
 rw [ha] at hb
 obtain⟨a1,a2,a3⟩:=p
 obtain⟨b1,b2,b3⟩:=q
 simp at hb
 simp [hb]
theorem i6_ {K:PySem.W.Frag}{H:Hp}{wt:List Lf}{m:Lf}{wvs:List V}{v:V} (h:Iss H (wt.map lf) wvs) (k:Is H (lf m) v):g2_ K H 1 wvs v (fun j=>decide (wt.getD j (0,0,0)=m)):=by
 have at_:∀(j:Nat) z,wvs[j]? =some z→Is H (lf (wt.getD j (0,0,0))) z:=fun j z hz=>by
  obtain⟨d,hd,h1⟩:=h.of_get hz
  rw [List.getElem?_map] at hd
  obtain⟨d',hd',rfl⟩:=Option.map_eq_some_iff.mp hd
  rw [List.getD,hd']
  exact h1
 refine⟨by decide,fun j z hz=>⟨?_,kg_ (at_ j z hz) k⟩,fun i j z hi hj=> ?_⟩
 ·obtain⟨a,e,_⟩:=dq_ (at_ j z hz)
  exact⟨a,e⟩
 ·show decide (wt.getD i (0,0,0)=m)=decide (wt.getD j (0,0,0)=m)
  rw [lt_ (at_ i z hi) (at_ j z hj)]
theorem d3_ {qs:List Lf} (h:∀i j,i<j→j<(qs.map bG_).length→ltI ((qs.map bG_).getD j []) ((qs.map bG_).getD i [])=false):Srt qs:=by
 unfold Srt
 rw [List.pairwise_iff_getElem]
 intro i j hi hj hij
 have h1:=h i j hij (by rw [List.length_map];exact hj)
 rw [List.getD_eq_getElem?_getD,List.getD_eq_getElem?_getD,List.getElem?_map,List.getElem?_map,List.getElem?_eq_getElem hi,List.getElem?_eq_getElem hj] at h1
 simp only [Option.map_some,Option.getD_some] at h1
 rw [jO_] at h1
 exact h1
theorem eX_:∀{xs ys:List Lf},xs.Perm ys→Srt xs→Srt ys→xs=ys
 |[],ys,p,_,_=>by rw [List.nil_perm.mp p]
 |x::xs,[],p,_,_=>absurd p.length_eq (by simp)
 |x::xs,y::ys,p,h1,h2=>by
  unfold Srt at h1 h2
  have a1:=List.pairwise_cons.mp h1
  have a2:=List.pairwise_cons.mp h2
  have e:x=y:=by
   refine Classical.byContradiction fun ne=> ?_
   have m1:x∈ys:=by rcases List.mem_cons.mp (p.mem_iff.mp (show x∈x::xs by simp)) with e|e;exact absurd e ne;exact e
   have m2:y∈xs:=by rcases List.mem_cons.mp (p.mem_iff.mpr (show y∈y::ys by simp)) with e|e;exact absurd e.symm ne;exact e
   have b1:=a1.1 y m2
   have b2:=a2.1 x m1
   have:=fH_ (p:=x) (q:=y) (by rw [b2];simp) ne
   rw [b1] at this
   cases this
  subst e
  rw [eX_ ((List.perm_cons x).mp p) a1.2 a2.2]
def lS_ (_:PySem.W.Frag):Sp:=fun vs H Q _=>∃(dv:V) (ps:List Lf) (d:Nat),vs=[dv]∧Is H (lfs ps) dv∧(∀p∈ps,True∧1≤p.2.2∧p.2.2≤2^20)∧Q (.int (ct_ ps)) H
theorem f3_ (ps:List Lf):dep (lfs ps)≤2:=by
 have:fe_ (ps.map lf)≤1:=by
  induction ps with
  |nil=>simp [fe_]
  |cons p ps ih=>simp [fe_,lf,tI,bG_,dep] at ih⊢;omega
 unfold lfs dep
 omega
def oJ_ (_:PySem.W.Frag):Sp:=fun vs H Q _=>∃d k:Nat,vs=[.int d, .int k]∧P94 d k∧∀(L:List (List Lf)) l H',L.Perm (g6_ d k)→al_ H H'→H l=none→Is (nw H H') (.l (L.map lfs)) (.ref l)→Q (.ref l) H'
def oC_ (_:PySem.W.Frag):Sp:=fun vs H Q _=>∃(n:Nat) (dv:V) (ps:List Lf),vs=[.int n,dv]∧1≤n∧n≤5∧Is H (lfs ps) dv∧Snd n ps∧(ie_ n ps).length≤900∧(dy_ n ps).length≤20∧∀l H',al_ H H'→H l=none→Is (nw H H') (.l ((ie_ n ps).map lfs)) (.ref l)→Q (.ref l) H'
def a2_ (e:En):D:= .t [lfs e.1,lfs e.2]
theorem gs_ {H:Hp}{e:En}{v:V} (h:Is H (a2_ e) v):∃t u1 u2,v= .ref t∧H t=some (.tup [u1,u2])∧Is H (lfs e.1) u1∧Is H (lfs e.2) u2:=by
 obtain⟨t,vs,rfl,ht,hi⟩:=g7_ h
 obtain⟨u1,us,rfl,hu1,hi⟩:=aC_ hi
 obtain⟨u2,us,rfl,hu2,hi⟩:=aC_ hi
 rw [a7_ hi] at ht
 exact⟨t,u1,u2,rfl,ht,hu1,hu2⟩
def oy_ (_:PySem.W.Frag):Sp:=fun vs H Q _=>∃d k:Nat,vs=[.int d, .int k]∧P94 d k∧∀(L:List (List Lf)) l H',L.Perm (g6_ d k)→al_ H H'→H l=none→Is (nw H H') (.l ((hn_ d L).map a2_)) (.ref l)→Q (.ref l) H'
def n6_ (d:Nat) (p:Lf):Bool:=decide (1≤p.1)&&decide (p.1<p.2.1)&&decide (p.2.1≤(d:Int))&&decide (1≤p.2.2)
def oF_ (_:PySem.W.Frag):Sp:=fun vs H Q _=>∃(d:Nat) (v:V) (p:Lf),vs=[.int d,v]∧Is H (lf p) v∧Q (.bl (n6_ d p)) H
def ox_ (_:PySem.W.Frag):Sp:=fun vs H Q _=>∃(n:Nat) (dv:V) (ps:List Lf),vs=[.int n,dv]∧1≤n∧n≤5∧Is H (lfs ps) dv∧(∀p∈ps,Okl n p)∧∀H',al_ H H'→Q (.bl (decide (0≤mo_ (aZ_ n ps)))) H'
def oG_ (_:PySem.W.Frag):Sp:=fun vs H Q _=>∃(d k:Nat) (v:V) (x:List Lf),vs=[.int d, .int k,v]∧1≤d∧d≤5∧k≤6∧Is H (lfs x) v∧x.length≤40∧∀b H',al_ H H'→(b=true↔(x.length+k=d*(d-1)/2∧Snd d x))→Q (.bl b) H'
def nd_ (_:PySem.W.Frag):Sp:=fun vs H Q _=>∃(d:Nat) (v u:V) (x m:List Lf),vs=[.int d,v,u]∧1≤d∧d≤5∧Is H (lfs x) v∧Is H (lfs m) u∧Snd d x∧∀H',al_ H H'→Q (.bl (mkW 0 (dy_ d x) m)) H'
def n1_ (H:Hp) (E:List En) (v:V):Prop:=Is H (.l (E.map a2_)) v∧E.length≤50∧∀e∈E,e.1.length≤40∧e.2.length≤40
def ov_ (_:PySem.W.Frag):Sp:=fun vs H Q _=>∃(d k:Nat) (v:V) (E:List En),vs=[.int d, .int k,v]∧P94 d k∧n1_ H E v∧(eM_ d k E→∀H',al_ H H'→Q (.int (hc_ E)) H')∧(¬eM_ d k E→∀H',al_ H H'→Q .non H')
def lT_ (_:PySem.W.Frag):Sp:=fun vs H Q _=>∃(d k:Nat) (v:V) (e:En),vs=[v, .int d, .int k]∧1≤d∧d≤5∧k≤6∧Is H (a2_ e) v∧e.1.length≤40∧e.2.length≤40∧∀b H',al_ H H'→(b=true↔Rgt d k e)→Q (.bl b) H'
def oI_ (_:PySem.W.Frag):Sp:=fun vs H Q _=>∃(d k:Nat) (v:V) (E:List En),vs=[v, .int d, .int k]∧P94 d k∧n1_ H E v∧(eM_ d k E→∀H',al_ H H'→Q (.int (hc_ E)) H')∧(¬eM_ d k E→∀H',al_ H H'→Q .non H')
def oL_ (_:PySem.W.Frag):Sp:=fun vs H Q _=>∃(d k:Nat) (v:V) (E:List En),vs=[.int d, .int k,v]∧P94 d k∧n1_ H E v∧∀H',al_ H H'→Q (.bl true) H'
def nb_ (_:PySem.W.Frag):Sp:=fun vs H Q _=>∃(b:Addr) (far st:Int) (v:V) (E:List En),vs=[.ref b,v]∧Bag H b far st∧0≤far∧0≤st∧Is (hid H b) (.l (E.map a2_)) v∧E.length≤900∧(∀e∈E,e.1.length≤30∧e.2.length≤30)∧∀l (F:List En) H',But b H H'→H l=none→Is (hid H' b) (.l (F.map a2_)) (.ref l)→F.length≤900→(∀e∈F,e∈E)→Q (.ref l) H'
def oA_ (_:PySem.W.Frag):Sp:=fun vs H Q _=>∃(b:Addr) (far st:Int) (v:V) (x:List Lf) (d:Nat),vs=[.ref b,v, .int d]∧Bag H b far st∧0≤far∧0≤st∧1≤d∧d≤5∧Is (hid H b) (lfs x) v∧x.length≤30∧∀l (y:List Lf) H',But b H H'→H l=none→Is (hid H' b) (lfs y) (.ref l)→y.length≤31→Q (.ref l) H'
def ow_ (_:PySem.W.Frag):Sp:=fun vs H Q _=>∃(b:Addr) (far st:Int) (v:V) (E:List En) (d:Nat),vs=[.ref b,v, .int d]∧Bag H b far st∧0≤far∧0≤st∧1≤d∧d≤5∧Is (hid H b) (.l (E.map a2_)) v∧E.length≤40∧(∀e∈E,e.1.length≤30∧e.2.length≤30∧1≤e.2.length)∧∀l (F:List En) H',But b H H'→n1_ H' F (.ref l)→Q (.ref l) H'
theorem nB_ {H0 H1 H2:Hp}{a:Addr} (s:al_ H1 H2) (n:H1 a=none):al_ (nw H0 H1) (hid (nw H0 H2) a):=fun b o e=>by
 have hb:b≠a:=by
  rintro rfl
  have:=aJ_ _ _ e
  rw [n] at this
  cases this
 rw [br_ hb]
 exact dc_ s b o e
theorem mC_ (e:En):oK (kE e)= .t [.t (e.1.map lf), .t (e.2.map lf)]:=by
 unfold oK kE nK
 simp only [List.map_cons,List.map_nil,List.map_map]
 rfl
def he_ (E:List En):List (List (List (List Int))×V):=E.map fun e=>(kE e, .bl true)
theorem h2_ {E:List En}{e:En}:(ku_ (he_ E) (kE e)).isSome=decide (e∈E):=by
 rw [←d1_]
 unfold he_
 rw [List.any_map]
 by_cases h:e∈E
 ·rw [decide_eq_true h]
  exact List.any_eq_true.mpr ⟨e,h,by simp⟩
 ·rw [decide_eq_false h]
  refine List.any_eq_false.mpr fun a ha=> ?_
  simp only [Function.comp,decide_eq_true_eq]
  intro c
  exact h (nL_ c▸ha)
theorem kJ_ {E:List En}{e:En} (h:e∉E):kQ_ (he_ E) (kE e) (.bl true)=he_ (E++[e]):=by
 unfold kQ_
 rw [d1_,h2_,decide_eq_false h,if_neg Bool.false_ne_true]
 unfold he_
 rw [List.map_append]
 rfl
theorem ki_ (E:List En):dep (.l (E.map a2_))≤5:=by
 have:fe_ (E.map a2_)≤4:=by
  induction E with
  |nil=>simp [fe_]
  |cons e E ih=>
   have h1:=f3_ e.1
   have h2:=f3_ e.2
   simp only [List.map_cons,fe_,a2_,dep] at ih⊢
   omega
 unfold dep
 omega
theorem jX_ (a b:List Lf):eO_ (a.map lf) (b.map lf):=by
 induction a generalizing b with
 |nil=>cases b<;>simp [eO_]
 |cons x a ih=>
  cases b with
  |nil=>simp [eO_]
  |cons y b=>exact⟨by simp [lf,tI,bG_,Kin,eO_],ih b⟩
theorem jY_ (a b:En):Kin (a2_ a) (a2_ b):=by
 simp only [a2_,Kin,eO_,lfs,and_true]
 exact⟨jX_ _ _,jX_ _ _⟩
theorem mD_ {a b:En} (h:a2_ a=a2_ b):a=b:=by
 unfold a2_ at h
 simp only [D.t.injEq,List.cons.injEq,and_true] at h
 have go:∀{x y:List Lf},lfs x=lfs y→x=y:=fun{x y} e=>by
  rw [bc_,bc_] at e
  have e:=D.l.inj e
  have:∀{x y:List Lf},(x.map bG_).map tI=(y.map bG_).map tI→x=y:=by
   intro x
   induction x with
   |nil=>intro y e;cases y with|nil=>rfl|cons _ _=>cases e
   |cons p x ih=>
    intro y e
    cases y with
    |nil=>cases e
    |cons q y=>
     simp only [List.map_cons,List.cons.injEq] at e
     have h1:=e.1
     simp only [bG_,tI,D.t.injEq,List.map_cons,List.map_nil,List.cons.injEq,D.i.injEq,and_true] at h1
     rw [ih e.2,show p=q from Prod.ext h1.1 (Prod.ext h1.2.1 h1.2.2)]
  exact this e
 exact Prod.ext (go h.1) (go h.2)
theorem mz_ {K:PySem.W.Frag}{H:Hp}{a b:En}{v u:V} (h:Is H (a2_ a) v) (k:Is H (a2_ b) u):EqR K H 4 v u (decide (a=b)):=by
 have dp:dep (a2_ a)≤4:=by
  have h1:=f3_ a.1
  have h2:=f3_ a.2
  simp only [a2_,dep,fe_]
  omega
 have e:=h.eqr (K:=K) (n:=4) dp (jY_ a b) k
 by_cases c:a=b
 ·subst c
  rw [iB_] at e
  rw [decide_eq_true rfl]
  exact e
 ·rw [nT_ fun z=>c (mD_ z)] at e
  rw [decide_eq_false c]
  exact e
theorem jS_ {H:Hp}:∀{a b:List Lf}{vs:List V},Iss H (a.map lf) vs→Iss H (b.map lf) vs→a=b
 |[],[],_,_,_=>rfl
 |[],_::_,_,h,k=>by rw [a7_ h] at k;obtain⟨_,_,e,_⟩:=aC_ k;cases e
 |_::_,[],_,h,k=>by rw [a7_ k] at h;obtain⟨_,_,e,_⟩:=aC_ h;cases e
 |x::a,y::b,_,h,k=>by
  obtain⟨u,us,rfl,h1,h2⟩:=aC_ h
  obtain⟨u',us',e,k1,k2⟩:=aC_ k
  cases e
  rw [jS_ h2 k2,lt_ h1 k1]
theorem mB_ {H:Hp}{a b:En}{v:V} (h:Is H (a2_ a) v) (k:Is H (a2_ b) v):a=b:=by
 obtain⟨t,u1,u2,rfl,ht,h1,h2⟩:=gs_ h
 obtain⟨s,w1,w2,e,hs,k1,k2⟩:=gs_ k
 cases e
 rw [ht] at hs
 cases hs
 have go:∀{x y:List Lf}{u:V},Is H (lfs x) u→Is H (lfs y) u→x=y:=fun{x y u} h k=>by
  obtain⟨p,vs,rfl,hp,hi⟩:=bm_ h
  obtain⟨q,ws,e,hq,ki⟩:=bm_ k
  cases e
  rw [hp] at hq
  cases hq
  exact jS_ hi ki
 exact Prod.ext (go h1 k1) (go h2 k2)
theorem m2_ {K:PySem.W.Frag}{H:Hp}{F:List En}{e:En}{vs:List V}{v:V} (h:Iss H (F.map a2_) vs) (k:Is H (a2_ e) v):g2_ K H 4 vs v (fun j=>decide (F.getD j ([],[])=e)):=by
 have at_:∀(j:Nat) z,vs[j]? =some z→Is H (a2_ (F.getD j ([],[]))) z:=fun j z hz=>by
  obtain⟨d,hd,h1⟩:=h.of_get hz
  rw [List.getElem?_map] at hd
  obtain⟨d',hd',rfl⟩:=Option.map_eq_some_iff.mp hd
  rw [List.getD,hd']
  exact h1
 refine⟨by decide,fun j z hz=>⟨?_,mz_ (at_ j z hz) k⟩,fun i j z hi hj=> ?_⟩
 ·obtain⟨t,_,_,e,_⟩:=gs_ (at_ j z hz)
  exact⟨t,e⟩
 ·have:F.getD i ([],[])=F.getD j ([],[]):=mB_ (at_ i z hi) (at_ j z hj)
  simp only [this]
theorem fX_ {d k:Nat}:eM_ d k []:=⟨List.nodup_nil,fun _ h=>nomatch h⟩
theorem kc_ {d k j:Nat}{B:List En}{e:En} (g:eM_ d k B) (he:B[j]? =some e):Rgt d k e∧e∉B.take j:=by
 refine⟨g.2 e (List.mem_of_getElem? he),fun hm=> ?_⟩
 have:(B.take (j+1)).Nodup:=g.1.sublist (List.take_sublist _ _)
 rw [List.take_add_one,he,Option.toList_some,List.nodup_append] at this
 exact this.2.2 e hm e (List.mem_singleton.mpr rfl) rfl
theorem iw_ {d k:Nat}{A:List En}{e:En} (g:eM_ d k A) (hm:e∉A) (r:Rgt d k e):eM_ d k (A++[e]):=by
 refine⟨List.nodup_append.mpr ⟨g.1,by simp,fun a ha b hb=> ?_⟩,fun a ha=> ?_⟩
 ·rw [List.mem_singleton.mp hb]
  rintro rfl
  exact hm ha
 ·rcases List.mem_append.mp ha with ha|ha
  ·exact g.2 a ha
  ·rw [List.mem_singleton.mp ha]
   exact r
theorem m7_ {K:PySem.W.Frag}{H:Hp}{x:List Lf}{yss:List (List Int)}{v u:V} (hp:yss.Perm (x.map bG_)) (ha:∀i j,i<j→j<yss.length→ltI (yss.getD j []) (yss.getD i [])=false) (hv:Is H (lfs x) v) (hu:Is H (.l (yss.map tI)) u):∃b,EqR K H 2 v u b∧(b=true↔Srt x):=by
 obtain⟨y,hy,rfl⟩:=dk_ hp
 rw [←bc_] at hu
 refine⟨decide (x=y),hH_ _ _ hv hu, ?_⟩
 rw [decide_eq_true_eq]
 constructor
 ·rintro rfl
  exact d3_ ha
 ·intro so
  exact(cA_ (lF_ hp cb_ ha (lE_ so))).symm
theorem lR_ {K:PySem.W.Frag}{H:Hp}{x:List Lf}{yss:List (List Int)}{v u:V} (hp:yss.Perm (x.map bG_)) (ha:∀i j,i<j→j<yss.length→ltI (yss.getD j []) (yss.getD i [])=false) (hv:Is H (lfs x) v) (hu:Is H (.l (yss.map tI)) u):∃b,EqR K H 2 u v b∧(b=true↔Srt x):=by
 obtain⟨y,hy,rfl⟩:=dk_ hp
 rw [←bc_] at hu
 refine⟨decide (y=x),hH_ _ _ hu hv, ?_⟩
 rw [decide_eq_true_eq]
 constructor
 ·rintro rfl
  exact d3_ ha
 ·intro so
  exact cA_ (lF_ hp cb_ ha (lE_ so))
theorem mi_ {H0 H1:Hp}{b:Addr}{o:HO}{xs:List V} (hb:H0 b=some (.lst xs)):al_ (nw H0 H1) (nw H0 (upd H1 b o)):=fun c u e=>by
 have hc:c≠b:=by rintro rfl;unfold nw at e;rw [hb] at e;cases e
 unfold nw at e⊢
 rw [ar_ hc]
 exact e
theorem iF_ {b a:Addr}{H H':Hp} (k:But b H H') (n:H' a=none) (ne:b≠a):H a=none:=by
 cases e:H a with
 |none=>rfl
 |some o=>
  have:=k _ _ e ne.symm
  rw [n] at this
  cases this
theorem hC_ {H:Hp}:∀{ds:List D}{vs:List V},Iss H ds vs→Iss H ds.reverse vs.reverse
 |[],_,h=>by rw [a7_ h];exact aj_
 |d::ds,_,h=>by
  obtain⟨u,us,rfl,h1,h2⟩:=aC_ h
  rw [List.reverse_cons,List.reverse_cons]
  exact(hC_ h2).append (ag_ h1 aj_)
theorem hD_ {H:Hp}{b:Addr}{xs:List V} (hb:H b=some (.lst xs)):∀{y:List Lf}{vs:List V},Iss H (y.map lf) vs→Iss (hid H b) (y.map lf) vs
 |[],_,h=>by rw [a7_ h];exact aj_
 |p::y,_,h=>by
  obtain⟨u,us,rfl,h1,h2⟩:=aC_ h
  obtain⟨t,rfl,ht⟩:=dq_ h1
  exact ag_ (cj_ (by rw [br_ (by rintro rfl;rw [hb] at ht;cases ht)];exact ht)) (hD_ hb h2)
theorem bt_ {H:Hp}{b l:Addr}{xs:List V}{y:List Lf} (hb:H b=some (.lst xs)) (ne:l≠b) (h:Is H (lfs y) (.ref l)):Is (hid H b) (lfs y) (.ref l):=by
 obtain⟨_,vs,e,hl,hi⟩:=bm_ h
 cases e
 exact bJ_ (by rw [br_ ne];exact hl) (hD_ hb hi)
theorem km_ {vs:List V}{k:Nat}:kn_ vs (some (k:Int)) none=vs.drop k:=by
 rcases Nat.lt_or_ge vs.length k with h|h
 ·unfold kn_
  rw [HT.sIx_nat,HT.sIx_none,Nat.min_eq_right (Nat.le_of_lt h),List.drop_of_length_le (Nat.le_refl _),List.drop_of_length_le (Nat.le_of_lt h),List.take_nil]
 ·exact eJ_ h
def SpA (N:Hp) (fo:Addr) (E:List En) (vs:List V) (i:Nat) (e:En) (m:Addr) (v:V):Prop:=∃t a ws,v= .ref t∧N t=some (.tup [.ref a, .ref m])∧N m=some (.lst ws)∧m≠fo∧t≠fo∧Iss (hid (hid N fo) m) (e.2.map lf) ws∧Is (hid (hid N fo) m) (lfs e.1) (.ref a)∧∀k e' v',k≠i→E[k]? =some e'→vs[k]? =some v'→Is (hid (hid N fo) m) (a2_ e') v'
def Spt (N:Hp) (fo:Addr) (E:List En) (vs:List V):Prop:=Iss (hid N fo) (E.map a2_) vs∧∀i e v,E[i]? =some e→vs[i]? =some v→∃m,SpA N fo E vs i e m v
theorem j3_ {H:Hp}{e':En}{v':V} (hi:Is H (a2_ e') v'):∀{E:List En}{vs:List V}{i:Nat},vs.length=E.length→(∀(k:Nat) e v,k≠i→E[k]? =some e→vs[k]? =some v→Is H (a2_ e) v)→Iss H ((E.set i e').map a2_) (vs.set i v')
 |[],[],_,_,_=>aj_
 |[],_::_,_,h,_=>by simp at h
 |_::_,[],_,h,_=>by simp at h
 |e::E,v::vs,0,h,hk=>by
  refine ag_ hi ?_
  have go:∀{E:List En}{vs:List V},vs.length=E.length→(∀(k:Nat) e v,E[k]? =some e→vs[k]? =some v→Is H (a2_ e) v)→Iss H (E.map a2_) vs:=by
   intro E
   induction E with
   |nil=>intro vs l _;cases vs with|nil=>exact aj_|cons _ _=>simp at l
   |cons e E ih=>
    intro vs l h
    cases vs with
    |nil=>simp at l
    |cons v vs=>exact ag_ (h 0 e v rfl rfl) (ih (by simpa using l) fun k e v h1 h2=>h (k+1) e v h1 h2)
  exact go (by simpa using h) fun k e v h1 h2=>hk (k+1) e v (by omega) h1 h2
 |e::E,v::vs,i+1,h,hk=>ag_ (hk 0 e v (by omega) rfl rfl) (j3_ hi (by simpa using h) fun k e v ne h1 h2=>hk (k+1) e v (by omega) h1 h2)
theorem dK_ {H:Hp}{e:En}{t:Addr}{u1 u2:V} (ht:H t=some (.tup [u1,u2])) (h1:Is H (lfs e.1) u1) (h2:Is H (lfs e.2) u2):Is H (a2_ e) (.ref t):=iY_ ht (ag_ h1 (ag_ h2 aj_))
theorem Spt.nil {N:Hp}{fo:Addr}:Spt N fo [] []:=⟨aj_,fun _ _ _ h=>nomatch h⟩
theorem Spt.add {H0 H H':Hp}{fo p1 p2 t:Addr}{E:List En}{vs:List V}{e:En}{o:HO} (g:Spt (nw H0 H) fo E vs) (s0:al_ H0 H) (s:al_ H H') (nfo:H0 fo=none) (hfo:∃xs,H fo=some (.lst xs)) (n1:H p1=none) (n2:H p2=none) (n12:p1≠p2) (nt:H t=none) (ht:H' t=some (.tup [.ref p1, .ref p2])) (h1:Is H' (lfs e.1) (.ref p1)) (h2:Is H' (lfs e.2) (.ref p2)):Spt (nw H0 (upd H' fo o)) fo (E++[e]) (vs++[.ref t]):=by
 obtain⟨xs,hfo⟩:=hfo
 have ne:∀{c:Addr},H c=none→c≠fo:=fun{c} h=>by rintro rfl;rw [hfo] at h;cases h
 have s0':=s0.trans s
 have hfo':nw H0 H' fo=some (.lst xs):=by rw [cp_ nfo];exact s _ _ hfo
 have eN:hid (nw H0 (upd H' fo o)) fo=hid (nw H0 H') fo:=b5_
 have S:al_ (hid (nw H0 H) fo) (hid (nw H0 (upd H' fo o)) fo):=by rw [eN];exact aA_ (dc_ s)
 have k1:Is (hid (nw H0 (upd H' fo o)) fo) (lfs e.1) (.ref p1):=by rw [eN];exact bt_ hfo' (ne n1) (cK_ s0' (s0.free n1) h1)
 have k2:Is (hid (nw H0 (upd H' fo o)) fo) (lfs e.2) (.ref p2):=by rw [eN];exact bt_ hfo' (ne n2) (cK_ s0' (s0.free n2) h2)
 have kt:hid (nw H0 (upd H' fo o)) fo t=some (.tup [.ref p1, .ref p2]):=by rw [eN,br_ (ne nt)];exact gt_ s0' ht
 have glen:vs.length=E.length:=by rw [g.1.length,List.length_map]
 generalize hN:hid (nw H0 (upd H' fo o)) fo=N at S k1 k2 kt
 refine⟨?_,fun i e0 v he hv=> ?_⟩
 ·rw [hN,List.map_append]
  exact(g.1.mono S).append (ag_ (dK_ kt k1 k2) aj_)
 ·have inN:∀{c:Addr}{u:HO},N c=some u→nw H0 (upd H' fo o) c=some u:=fun{c u} h=>by rw [←hN] at h;exact as_ _ _ h
  rcases Nat.lt_or_ge i E.length with c|c
  ·rw [List.getElem?_append_left c] at he
   rw [List.getElem?_append_left (by omega)] at hv
   obtain⟨m,t0,a,ws,rfl,q1,q2,q3,q3',q4,q5,q6⟩:=g.2 i e0 v he hv
   have hmN:N m=some (.lst ws):=S _ _ (by rw [br_ q3];exact q2)
   refine⟨m,t0,a,ws,rfl,inN (S _ _ (by rw [br_ q3'];exact q1)),inN hmN,q3,q3', ?_, ?_,fun k e' v' nk hek hvk=> ?_⟩
   ·rw [hN];exact q4.mono (aA_ S)
   ·rw [hN];exact q5.mono (aA_ S)
   ·rw [hN]
    rcases Nat.lt_or_ge k E.length with ck|ck
    ·rw [List.getElem?_append_left ck] at hek
     rw [List.getElem?_append_left (by omega)] at hvk
     exact(q6 k e' v' nk hek hvk).mono (aA_ S)
    ·rw [List.getElem?_append_right ck] at hek
     rw [List.getElem?_append_right (by omega)] at hvk
     obtain rfl:k=E.length:=by
      rcases Nat.lt_or_ge 0 (k-E.length) with h|h
      ·rw [List.getElem?_eq_none (by rw [List.length_singleton];omega)] at hek;cases hek
      ·omega
     rw [glen,Nat.sub_self] at hvk
     rw [Nat.sub_self] at hek
     cases hek
     cases hvk
     have hm:=aJ_ _ _ q2
     have pm:∀{c:Addr},H c=none→c≠m:=fun{c} h=>by rintro rfl;rw [hm] at h;cases h
     exact dK_ (by rw [br_ (pm nt)];exact kt) (bt_ hmN (pm n1) k1) (bt_ hmN (pm n2) k2)
  ·rw [List.getElem?_append_right c] at he
   rw [List.getElem?_append_right (by omega)] at hv
   obtain rfl:i=E.length:=by
    rcases Nat.lt_or_ge 0 (i-E.length) with h|h
    ·rw [List.getElem?_eq_none (by rw [List.length_singleton];omega)] at he;cases he
    ·omega
   rw [glen,Nat.sub_self] at hv
   rw [Nat.sub_self] at he
   cases he
   cases hv
   obtain⟨_,ws,e2,hp2,hi2⟩:=bm_ k2
   cases e2
   refine⟨p2,t,p1,ws,rfl,inN kt,inN hp2,ne n2,ne nt, ?_, ?_,fun k e' v' nk hek hvk=> ?_⟩
   ·rw [hN];exact hD_ hp2 hi2
   ·rw [hN];exact bt_ hp2 n12 k1
   ·rw [hN]
    have ck:k<E.length:=by
     have:=(List.getElem?_eq_some_iff.mp hek).1
     rw [List.length_append,List.length_singleton] at this
     omega
    rw [List.getElem?_append_left ck] at hek
    rw [List.getElem?_append_left (by omega)] at hvk
    obtain⟨dd,hdd,hy⟩:=g.1.of_get hvk
    rw [List.getElem?_map,hek] at hdd
    cases hdd
    refine hy.mono fun c u hc=> ?_
    have:c≠p2:=by
     rintro rfl
     have:=aJ_ _ _ (as_ _ _ hc)
     rw [n2] at this
     cases this
    rw [br_ this]
    exact S _ _ hc
theorem fU_ {H:Hp}{x:D}{v:V} (hx:Is H x v):∀{xs:List D}{vs:List V} (i:Nat),Iss H xs vs→Iss H (xs.set i x) (vs.set i v)
 |[],_,_,h=>by rw [a7_ h];exact aj_
 |_::_,_,0,h=>by
  obtain⟨u,us,rfl,q,r⟩:=aC_ h
  exact ag_ hx r
 |_::_,_,i+1,h=>by
  obtain⟨u,us,rfl,q,r⟩:=aC_ h
  exact ag_ q (fU_ hx i r)
theorem gL_ {H:Hp}:∀{xs:List Lf}{vs:List V} (j:Nat),Iss H (xs.map lf) vs→Iss H ((xs.eraseIdx j).map lf) (vs.eraseIdx j)
 |[],_,j,h=>by rw [a7_ h];simp;exact aj_
 |x::xs,_,0,h=>by
  obtain⟨u,us,rfl,q,r⟩:=aC_ h
  simpa using r
 |x::xs,_,j+1,h=>by
  obtain⟨u,us,rfl,q,r⟩:=aC_ h
  exact ag_ q (gL_ j r)
theorem mA_ {K:PySem.W.Frag}{H:Hp}{E:List En}{v u:V} (h:Is H (.l (E.map a2_)) v) (k:Is H (.l []) u):EqR K H 5 v u (decide (E=[])):=by
 have e:=h.eqr (K:=K) (n:=5) (ki_ E) (by cases E<;>simp [Kin,eO_]) k
 have e2:eqD (.l (E.map a2_)) (.l [])=decide (E=[]):=by
  cases E<;>simp [eqD,e9_]
 rwa [e2] at e
theorem il_:∀(E:List En),eO_ (E.map a2_) (E.map a2_)
 |[]=>by simp [eO_]
 |e::E=>by
  rw [List.map_cons]
  exact⟨jY_ e e,il_ E⟩
theorem kh_ {K:PySem.W.Frag}{H:Hp}{E:List En}{v u:V} (h:Is H (.l (E.map a2_)) v) (k:Is H (.l (E.map a2_)) u):EqR K H 5 v u true:=by
 have e:=h.eqr (K:=K) (n:=5) (ki_ E) (by show eO_ _ _;exact il_ E) k
 rwa [iB_] at e
theorem iI_ {ps:List Lf}{p:Lf}{i:Nat} (h:ps[i]? =some p):ct_ (ps.take (i+1))=ct_ (ps.take i)*p.2.2*p.2.2:=by
 unfold ct_
 rw [List.take_add_one,h,List.foldl_append]
 show _*p.2.2^2=_
 rw [Int.pow_succ,Int.pow_succ,Int.pow_zero,Int.one_mul,Int.mul_assoc]
theorem fS_ {K:PySem.W.Frag}:PySem.W.kitOne K (.type "NoneType") (.type "bool")=some false:=eC_ (by decide+kernel) (by decide+kernel) (by decide+kernel)
section
variable {P:Program}{w:World}{K:PySem.W.Frag}{mg:Str→Option Value}{base:Heap} (T:Fns K mg)
theorem cJ_:FnOk P w K mg base CX0 1 T.f__law_cell_at T.d__law_cell_at ["_law_script","_law_k"] (ng_ K):=by
 refine T.X__law_cell_at.F.ok eh_ (fun vs H Q E h=> ?_) (fun cdv A outer s H vs Q E hr h=> ?_)
 ·obtain⟨_,_,_,rfl,_⟩:=h
  rfl
 ·obtain⟨a,ns,k,rfl,hS,h0,kk⟩:=h
  refine⟨_,(ac_ (a8_ (aq_ go_ (pv 1) (av_ bA_ (by rfl) T.n_len boot_len (aa_ (pv 0) ab_)) (ax_ _)) (af_ (au_ (aK_ a9_ (pv 0) (pv 1) (fun _ _=>rfl)))) aE_)
   (af_ (au_ ad_))), ?_⟩
  refine⟨_,rfl,_,rfl,a,_,rfl, .inl hS,_,_,rfl,rfl,_,rfl, ?_⟩
  refine eS_ (fun h=> ?_) (fun _=>kk 0)
  rw [List.length_map] at h
  have hk:k.toNat<ns.length:=by omega
  have e:((k.toNat:Nat):Int)=k:=by omega
  exact⟨_,rfl,_,rfl,a,_,k,_,rfl,rfl,hS,by rw [←e];exact kr_ hk,kk _⟩
theorem et_:FnOk P w K mg base CX0 1 T.f__law_bag T.d__law_bag ["_law_cell","_law_place"] (oK_ K):=by
 refine T.X__law_bag.F.ok c7_ (fun vs H Q E h=> ?_) (fun cdv A outer s H vs Q E hr h=> ?_)
 ·obtain⟨_,_,rfl,_⟩:=h
  rfl
 ·obtain⟨c,pl,rfl,h0,h1,kk⟩:=h
  refine⟨_,(ac_ (ap_ (i:=2) c7_.nd rfl (by trivial) (av_ li_ (by rfl) T.n_abs boot_abs (aa_ (pv 0) ab_)))
   (ac_ (a8_ (aq_ go_ (pv 2) (ao_ jB_ ad_ ad_) (ax_ _)) (af_ (ap_ (i:=2) c7_.nd rfl (by trivial) ad_)) aE_)
   (af_ (au_ (no_ (aa_ (pv 2) (aa_ (ao_ e1_ (ao_ aO_ (ao_ aO_ (ao_ cG_ (ao_ e1_ (pv 0) ad_) ad_) (ao_ cG_ ad_ (pv 1))) ad_) ad_) ab_))))))), ?_⟩
  refine⟨_,rfl,c,rfl, ?_⟩
  refine⟨_,rfl,10,18,rfl,rfl,⟨by decide,by decide,by decide⟩,_,_,rfl,rfl,_,rfl, ?_⟩
  refine eS_ (fun _=> ?_) (fun _=> ?_)
  ·refine⟨_,rfl,_,rfl,_,_,rfl,rfl,(show(0:Int)<2147483647 by decide),_,_,rfl,rfl, .inr ⟨by decide,by decide⟩,_,rfl,_,_,rfl,rfl, .inl ⟨by decide,by decide⟩,_,_,rfl,rfl,_,_,rfl,rfl,_,_,rfl,rfl,(show(0:Int)<2147483647 by decide), ?_⟩
   exact⟨(by show 2≤sizeLine;decide),fun b nb=>kk b _ _ _ (al_.new nb) nb ae_ (by omega) (Int.emod_nonneg _ (by decide))⟩
  ·refine⟨_,rfl,_,rfl,_,_,rfl,rfl,(show(0:Int)<2147483647 by decide),_,_,rfl,rfl, .inr ⟨by decide,by decide⟩,_,rfl,_,_,rfl,rfl, .inl ⟨by decide,by decide⟩,_,_,rfl,rfl,_,_,rfl,rfl,_,_,rfl,rfl,(show(0:Int)<2147483647 by decide), ?_⟩
   exact⟨(by show 2≤sizeLine;decide),fun b nb=>kk b _ _ _ (al_.new nb) nb ae_ (by split<;>omega) (Int.emod_nonneg _ (by decide))⟩
theorem dp_:FnOk P w K mg base CX0 1 T.f__law_mixed T.d__law_mixed ["_law_bag_here"] (lU_ K):=by
 refine T.X__law_mixed.F.ok fl_ (fun vs H Q E h=> ?_) (fun cdv A outer s H vs Q E hr h=> ?_)
 ·obtain⟨_,_,_,rfl,_⟩:=h
  rfl
 ·obtain⟨b,far,st,rfl,hb,kk⟩:=h
  refine⟨_,(ac_ (cD_ (ao_ e1_ (ao_ aO_ (ao_ cG_ (aK_ a9_ (pv 0) ad_ (fun _ _=>rfl)) ad_) ad_) ad_) (dn_ (pv 0) ad_ bh_))
   (af_ (au_ (ao_ fv_ (ao_ e1_ (ao_ cG_ (aK_ a9_ (pv 0) ad_ (fun _ _=>rfl)) ad_) ad_) ad_)))), ?_⟩
  refine⟨_,rfl,b,_,_,_,rfl,rfl,SqL.of hb,by rfl,_,_,rfl,rfl, .inr ⟨by decide,by decide⟩,_,_,rfl,rfl,_,_,rfl,rfl,(show(0:Int)<2147483647 by decide),_,rfl,b,_,_,1,rfl,rfl,hb,by rfl, ?_⟩
  refine⟨_,rfl,b,_,_,_,rfl,rfl,SqL.of ae_,by rfl,_,_,rfl,rfl, .inr ⟨by decide,by decide⟩,_,_,rfl,rfl,(show(0:Int)<2147483629 by decide),_,_,rfl,rfl,⟨by decide,by decide⟩, ?_⟩
  refine kk _ _ ?_ (Int.emod_nonneg _ (by decide))
  omega
theorem ay_:FnOk P w K mg base CX0 2 T.f__law_digit T.d__law_digit ["_law_bag_here","_law_many"] (lW_ K):=by
 refine T.X__law_digit.F.ok bj_ (fun vs H Q E h=> ?_) (fun cdv A outer s H vs Q E hr h=> ?_)
 ·obtain⟨_,_,_,_,rfl,_⟩:=h
  rfl
 ·obtain⟨b,many,far,st,rfl,hb,hf,hst,hm,hm2,kk⟩:=h
  refine⟨_,(ac_ (a8_ (aq_ kX_ (aK_ a9_ (pv 0) ad_ (fun _ _=>rfl)) ad_ (ax_ _)) (ac_ (ap_ (i:=2) bj_.nd rfl (by trivial) (ao_ e1_ (aK_ a9_ (pv 0) ad_ (fun _ _=>rfl)) (pv 1)))
   (ac_ (cD_ (ao_ kY_ (aK_ a9_ (pv 0) ad_ (fun _ _=>rfl)) (pv 1)) (dn_ (pv 0) ad_ bh_))
   (af_ (au_ (pv 2))))) aE_)
   (ac_ (ap_ (i:=2) bj_.nd rfl (by trivial) (ai_ (dp_ T) (hr.mono (by decide)) (by rfl) T.X__law_mixed.m T.X__law_mixed.F.kp T.X__law_mixed.B .nil aw_ (aa_ (pv 0) ab_)))
   (ac_ (a8_ (aq_ kX_ (pv 1) ad_ (ax_ _)) (af_ (aX_ PassesOwn.never rfl (dm_ (by rfl) T.n_range (aa_ ad_ ab_)) (am_ (i:=3) bj_.nd rfl (by trivial)) (af_ (ap_ (i:=2) bj_.nd rfl (by trivial) (ao_ aO_ (ao_ cG_ (pv 2) ad_) (ai_ (dp_ T) (hr.mono (by decide)) (by rfl) T.X__law_mixed.m T.X__law_mixed.F.kp T.X__law_mixed.B .nil aw_ (aa_ (pv 0) ab_))))))) aE_)
   (af_ (au_ (ao_ e1_ (pv 2) (pv 1))))))), ?_⟩
  refine⟨_,rfl,b,_,_,_,rfl,rfl,SqL.of hb,by rfl,_,_,rfl,rfl,_,rfl, ?_⟩
  refine eS_ (fun h=> ?_) (fun h=> ?_)
  ·refine⟨_,rfl,b,_,_,_,rfl,rfl,SqL.of hb,by rfl,_,rfl,_,_,rfl,rfl,hm, ?_⟩
   refine⟨_,rfl,b,_,_,_,rfl,rfl,SqL.of hb,by rfl,_,rfl,_,_,rfl,rfl,nW_ hm hm2,_,rfl,b,_,_,0,rfl,rfl,hb,by rfl, ?_⟩
   exact⟨_,rfl,kk _ _ _ (Int.emod_nonneg _ (by omega)) (Int.emod_lt_of_pos _ hm) (Int.fdiv_nonneg hf (by omega)) hst⟩
  ·refine⟨_,rfl,b,far,st,rfl,hb,fun z st' hz hst'=> ?_⟩
   refine⟨_,rfl,_,_,rfl,rfl,_,rfl, ?_⟩
   refine eS_ (fun h=> ?_) (fun h=> ?_)
   ·refine⟨7,rfl,by decide,by decide,bz_ (n:=7) (fun i σ H2=>∃(z:Int) (v:Option V) (st':Int),σ=[some (.ref b),some (.int many),some (.int z),v]∧0≤z∧0≤st'∧H2=upd H b (.lst [.int far, .int st'])) ⟨z,_,st',rfl,hz,hst',rfl⟩ ?_ ?_⟩
    ·rintro i σ H2 hi ⟨z,v,st',rfl,hz,hst',rfl⟩
     refine⟨_,rfl,_,_,rfl,rfl, .inr ⟨by decide,by decide⟩,_,rfl,b,far,st',rfl,ae_,fun z2 st2 hz2 hst2=>⟨_,_,rfl,rfl, ?_⟩⟩
     exact⟨_,_,st2,rfl,by omega,hst2,fg_⟩
    ·rintro σ H2 ⟨z,v,st',rfl,hz,hst',rfl⟩
     exact⟨_,rfl,_,rfl,_,_,rfl,rfl,hm,kk _ _ _ (Int.emod_nonneg _ (by omega)) (Int.emod_lt_of_pos _ hm) hf hst'⟩
   ·exact⟨_,rfl,_,rfl,_,_,rfl,rfl,hm,kk _ _ _ (Int.emod_nonneg _ (by omega)) (Int.emod_lt_of_pos _ hm) hf hst'⟩
theorem hs_:FnOk P w K mg base CX0 1 T.f_is_whole T.d_is_whole ["thing"] kC_:=by
 refine T.X_is_whole.F.ok hg_ (fun vs H Q E h=> ?_) (fun cdv A outer s H vs Q E hr h=> ?_)
 ·obtain⟨_,rfl,_⟩:=h
  rfl
 ·obtain⟨v,rfl,ht,kk⟩:=h
  refine⟨_,(af_ (au_ (ep_ (av_ ec_ (by rfl) T.n_isinstance boot_isinstance (aa_ (pv 0) (aa_ (fs_ (v:= .ty "int") (by rfl) T.n_int boot_int (by rfl)) ab_))) (dR_ (ln_ (av_ ec_ (by rfl) T.n_isinstance boot_isinstance (aa_ (pv 0) (aa_ (fs_ (v:= .ty "bool") (by rfl) T.n_bool boot_bool (by rfl)) ab_)))))))), ?_⟩
  rcases ht with⟨i,rfl⟩|⟨b,rfl⟩|rfl|⟨x,rfl⟩|⟨a,xs,rfl,ha⟩|⟨a,xs,rfl,ha⟩
  ·exact⟨_,rfl,_,"int",_,true,rfl, .int i,fR_,true,rfl,cV_ ⟨_,rfl,_,"bool",_,false,rfl, .int i,dV_,false,rfl,kk⟩⟩
  ·exact⟨_,rfl,_,"int",_,true,rfl, .bl b,gJ_,true,rfl,cV_ ⟨_,rfl,_,"bool",_,true,rfl, .bl b,fR_,true,rfl,kk⟩⟩
  ·exact⟨_,rfl,_,"int",_,false,rfl, .non,gH_,false,rfl,cW_ kk⟩
  ·exact⟨_,rfl,_,"int",_,false,rfl, .str x,hB_,false,rfl,cW_ kk⟩
  ·exact⟨_,rfl,_,"int",_,false,rfl, .lst ha,gI_,false,rfl,cW_ kk⟩
  ·exact⟨_,rfl,_,"int",_,false,rfl, .tup ha,fQ_,false,rfl,cW_ kk⟩
theorem bl_:FnOk P w K mg base CX0 2 T.f_need_between T.d_need_between ["thing","least","greatest"] (nh_ K):=by
 refine T.X_need_between.F.ok eg_ (fun vs H Q E h=> ?_) (fun cdv A outer s H vs Q E hr h=> ?_)
 ·obtain⟨_,_,_,rfl,_⟩:=h
  rfl
 ·obtain⟨i,lo,hi,rfl,h1,h2,kk⟩:=h
  refine⟨_,(af_ (a8_ (dY_ (cC_ (cZ_ (ai_ (hs_ T) (hr.mono (by decide)) (by rfl) T.X_is_whole.m T.X_is_whole.F.kp T.X_is_whole.B .nil aw_ (aa_ (pv 0) ab_)))) (dY_ (aq_ go_ (pv 0) (pv 1) (ax_ _)) (dl_ (aq_ kX_ (pv 0) (pv 2) (ax_ _))))).pt (af_ h5_) aE_)), ?_⟩
  refine⟨_,rfl,_,rfl, .inl ⟨_,rfl⟩,true,rfl,cW_ ⟨_,rfl,_,rfl,i,lo,rfl,rfl,_,rfl,eS_ (fun hl=>absurd hl (by omega)) (fun _=> ?_)⟩⟩
  exact⟨_,rfl,_,rfl,i,hi,rfl,rfl,_,rfl,eS_ (fun hl=>absurd hl (by omega)) (fun _=>kk)⟩
theorem c0_:FnOk P w K mg base CX0 3 T.f_need_degree T.d_need_degree ["d"] (nf_ K):=by
 refine T.X_need_degree.F.ok eP_ (fun vs H Q E h=> ?_) (fun cdv A outer s H vs Q E hr h=> ?_)
 ·obtain⟨_,rfl,_⟩:=h
  rfl
 ·obtain⟨i,rfl,h1,h2,kk⟩:=h
  refine⟨_,(af_ (aM_ (ai_ (bl_ T) (hr.mono (by decide)) (by rfl) T.X_need_between.m T.X_need_between.F.kp T.X_need_between.B .nil aw_ (aa_ (pv 0) (aa_ ad_ (aa_ ad_ ab_)))))), ?_⟩
  exact⟨_,rfl,i,1,5,rfl,h1,h2,kk⟩
theorem cH_:FnOk P w K mg base CX0 3 T.f_need_wide T.d_need_wide ["d","k"] (m9_ K):=by
 refine T.X_need_wide.F.ok gg_ (fun vs H Q E h=> ?_) (fun cdv A outer s H vs Q E hr h=> ?_)
 ·obtain⟨_,_,rfl,_⟩:=h
  rfl
 ·obtain⟨d,k,rfl,hW,kk⟩:=h
  refine⟨_,(ac_ (aM_ (ai_ (bl_ T) (hr.mono (by decide)) (by rfl) T.X_need_between.m T.X_need_between.F.kp T.X_need_between.B .nil aw_ (aa_ (pv 0) (aa_ ad_ (aa_ ad_ ab_)))))
   (af_ (aM_ (ai_ (bl_ T) (hr.mono (by decide)) (by rfl) T.X_need_between.m T.X_need_between.F.kp T.X_need_between.B .nil aw_ (aa_ (pv 1) (aa_ ad_ (aa_ (kV_ (l8_ (v:= .ref T.a_WIDE) (by rfl) T.m_WIDE (by rfl)) (pv 0) (fun _ _=>rfl)) ab_))))))), ?_⟩
  unfold Wide at hW
  refine⟨_,rfl,d,1,5,rfl,by omega,by omega, ?_⟩
  obtain⟨hi,hl,hN⟩:∃hi:Int,([(1,6),(2,6),(3,6),(4,6),(5,3)]:List (Int×Int)).lookup (d:Int)=some hi∧(k:Int)≤hi:=by
   have hd:d=1∨d=2∨d=3∨d=4∨d=5:=by omega
   rcases hd with rfl|rfl|rfl|rfl|rfl
   ·exact⟨6,rfl,by omega⟩
   ·exact⟨6,rfl,by omega⟩
   ·exact⟨6,rfl,by omega⟩
   ·exact⟨6,rfl,by omega⟩
   ·exact⟨3,rfl,by omega⟩
  exact⟨_,rfl,_,rfl,T.a_WIDE,_,d,hi,rfl,T.D_WIDE,rfl,hl,k,0,hi,rfl,by omega,hN,kk⟩
theorem dF_:FnOk P w K mg base CX0 4 T.f_ends_at T.d_ends_at ["d","drawing"] (ne_ K):=by
 refine T.X_ends_at.F.ok b2_ (fun vs H Q E h=> ?_) (fun cdv A outer s H vs Q E hr h=> ?_)
 ·obtain⟨_,_,_,rfl,_⟩:=h
  rfl
 ·obtain⟨n,dv,ps,rfl,n1',n5',hd,hok,k2⟩:=h
  refine⟨_,(ac_ (aM_ (ai_ (c0_ T) (hr.mono (by decide)) (by rfl) T.X_need_degree.m T.X_need_degree.F.kp T.X_need_degree.B .nil aw_ (aa_ (pv 0) ab_)))
   (ac_ (ap_ (i:=2) b2_.nd rfl (by trivial) (ao_ ho_ (aI_ (aa_ ad_ ab_)) (pv 0)))
   (ac_ (aX_ PassesOwn.never rfl (aN_ (pv 1)) (cF_ rfl (az_ (am_ (i:=3) b2_.nd rfl (by trivial)) (az_ (am_ (i:=4) b2_.nd rfl (by trivial)) (az_ (am_ (i:=5) b2_.nd rfl (by trivial)) bL_)))) (ac_ (jo_ (pv 2) (ao_ a6_ (pv 3) ad_) ix_ (pv 5) nN_ bh_)
   (af_ (jo_ (pv 2) (ao_ a6_ (pv 4) ad_) ix_ (pv 5) j5_ bh_))))
   (af_ (au_ (pv 2)))))), ?_⟩
  refine⟨_,rfl,n,rfl,by omega,by omega, ?_⟩
  refine⟨(by show 1≤sizeLine;decide),fun l1 H1 n1 s1 h1=> ?_⟩
  refine⟨_,rfl, .i 1,n,bJ_ h1 (ag_ mv_ aj_),rfl,by omega,by omega,Nat.le_of_lt (ak_ (by omega)),fun l H2 n2 s2 h2=> ?_⟩
  rw [Int.toNat_natCast] at h2
  obtain⟨_,vs2,e2,hl2,hi2⟩:=bm_ h2
  cases e2
  rw [←List.map_replicate] at hi2
  rw [d7_ hi2] at hl2
  have s12:=s1.trans s2
  obtain⟨da,dvs,rfl,hda,hdi⟩:=bm_ hd
  have hlen:dvs.length=ps.length:=by rw [hdi.length,List.length_map]
  refine⟨_,rfl,da,rfl,⟨_,SqL.of (s12 _ _ hda)⟩,aY_ (xs:=dvs) (fun i σ H3=>(∃v3 v4 v5,σ=[some (.int n),some (.ref da),some (.ref l),v3,v4,v5])∧al_ H H3∧H3 l=some (.lst (((ps.take i).foldl cs_ (List.replicate n 1)).map V.int)))
   ⟨⟨none,none,none,rfl⟩,s12,hl2⟩ (fun i σ H3 _ h=>SqL.of (h.2.1 _ _ hda)) ?_ ?_⟩
  ·rintro i y σ H3 hi ⟨⟨v3,v4,v5,rfl⟩,s3,hl3⟩
   obtain⟨dd,hdd,hy⟩:=hdi.of_get hi
   rw [List.getElem?_map] at hdd
   obtain⟨p,hp',rfl⟩:=Option.map_eq_some_iff.mp hdd
   obtain⟨t,rfl,hta⟩:=dq_ hy
   obtain⟨o1,o2,o3,o4⟩:=hok p (List.mem_of_getElem? hp')
   have el:=(eF_ (ps.take i) (List.replicate n 1) (by simp) fun q hq=>hok q (List.mem_of_mem_take hq)).1
   have en:(ps.take (i+1)).foldl cs_ (List.replicate n 1)=cs_ ((ps.take i).foldl cs_ (List.replicate n 1)) p:=by
    rw [List.take_add_one,hp',List.foldl_append];rfl
   rw [en]
   generalize (ps.take i).foldl cs_ (List.replicate n 1)=e at hl3 el⊢
   have nl:H l=none:=s1.free n2
   refine⟨t,_,rfl,SqT.of (s3 _ _ hta),rfl, ?_⟩
   refine⟨_,_,rfl,_,_,rfl,_,_,rfl,rfl, ?_⟩
   have j1:(p.1-1).toNat<e.length:=by omega
   have j2:(p.2.1-1).toNat<e.length:=by omega
   have k1:p.1-1=((p.1-1).toNat:Int):=by omega
   have kq:p.2.1-1=((p.2.1-1).toNat:Int):=by omega
   have g1:(e.map V.int)[(p.1-1).toNat]? =some (.int (e.getD (p.1-1).toNat 0)):=by
    exact hE_ j1
   refine⟨_,rfl,_,rfl,_,_,rfl,rfl, ?_⟩
   refine⟨l,_,(p.1-1).toNat,_,_,rfl,rfl,k1,SqL.of hl3,g1, ?_⟩
   refine⟨_,rfl,_,_,rfl,rfl,l,_,_,(p.1-1).toNat,rfl,rfl,hl3,by rw [k1,List.length_map];exact ci_ j1, ?_⟩
   rw [←map_set]
   have j2':(p.2.1-1).toNat<(e.set (p.1-1).toNat (e.getD (p.1-1).toNat 0-p.2.2)).length:=by rw [List.length_set];exact j2
   have g2:((e.set (p.1-1).toNat (e.getD (p.1-1).toNat 0-p.2.2)).map V.int)[(p.2.1-1).toNat]? =some (.int ((e.set (p.1-1).toNat (e.getD (p.1-1).toNat 0-p.2.2)).getD (p.2.1-1).toNat 0)):=by
    exact hE_ j2'
   refine⟨_,rfl,_,rfl,_,_,rfl,rfl, ?_⟩
   refine⟨l,_,(p.2.1-1).toNat,_,_,rfl,rfl,kq,SqL.of ae_,g2, ?_⟩
   refine⟨_,rfl,_,_,rfl,rfl,l,_,_,(p.2.1-1).toNat,rfl,rfl,ae_,by rw [kq,List.length_map];exact ci_ j2', ?_⟩
   rw [←map_set,fg_]
   exact⟨⟨_,_,_,rfl⟩,s3.put nl,ae_⟩
  ·rintro σ H3 ⟨⟨v3,v4,v5,rfl⟩,s3,hl3⟩
   rw [hlen,List.take_length] at hl3
   exact⟨_,rfl,k2 l H3 s3 (s1.free n2) hl3⟩
theorem fy_:FnOk P w K mg base CX0 1 T.f_lost T.d_lost ["lift"] (na_ K):=by
 refine T.X_lost.F.ok lX_ (fun vs H Q E h=> ?_) (fun cdv A outer s H vs Q E hr h=> ?_)
 ·obtain⟨_,_,rfl,_⟩:=h
  rfl
 ·obtain⟨v,p,rfl,hv,⟨p1,p2,p3,p4⟩,kk⟩:=h
  refine⟨_,(af_ (au_ (ao_ a6_ (ao_ cG_ (ao_ a6_ (aK_ aD_ (pv 0) ad_ (fun _ _=>rfl)) (aK_ aD_ (pv 0) ad_ (fun _ _=>rfl))) (aK_ aD_ (pv 0) ad_ (fun _ _=>rfl))) ad_))), ?_⟩
  refine⟨_,rfl,_,1,_,hv,rfl,rfl,fun u hu=> ?_⟩
  rw [dg_ hu]
  refine⟨_,rfl,_,0,_,hv,rfl,rfl,fun u hu=> ?_⟩
  rw [dg_ hu]
  refine⟨_,_,rfl,rfl,_,rfl,_,2,_,hv,rfl,rfl,fun u hu=> ?_⟩
  rw [dg_ hu]
  exact⟨_,_,rfl,rfl, .inr ⟨by omega,by omega⟩,_,_,rfl,rfl,kk⟩
theorem fz_:FnOk P w K mg base CX0 2 T.f_lifts_from T.d_lifts_from ["d","floor","weight","spare"] (oE_ K):=by
 refine T.X_lifts_from.F.ok bD_ (fun vs H Q E h=> ?_) (fun cdv A outer s H vs Q E hr h=> ?_)
 ·obtain⟨_,_,_,_,rfl,_⟩:=h
  rfl
 ·obtain⟨d,f,n,sp,rfl,fd,d5,n20,kk⟩:=h
  refine⟨_,(ac_ (ap_ (i:=4) bD_.nd rfl (by trivial) (aI_ ab_))
   (ac_ (aX_ PassesOwn.never rfl (b3_ (by rfl) T.n_range (aa_ (ao_ aO_ (pv 1) ad_) (aa_ (ao_ aO_ (pv 0) ad_) ab_))) (am_ (i:=5) bD_.nd rfl (by trivial)) (af_ (aX_ PassesOwn.never rfl (b3_ (by rfl) T.n_range (aa_ ad_ (aa_ (ao_ aO_ (pv 2) ad_) ab_))) (am_ (i:=6) bD_.nd rfl (by trivial)) (af_ (a8_ (aq_ fu_ (ai_ (fy_ T) (hr.mono (by decide)) (by rfl) T.X_lost.m T.X_lost.F.kp T.X_lost.B .nil aw_ (aa_ (aH_ (aa_ (pv 1) (aa_ (pv 5) (aa_ (pv 6) ab_)))) ab_)) (pv 3) (ax_ _)) (af_ (aM_ (dE_ PySem.F.plainAttrs_list PySem.F.slot_list_append PySem.F.type_list_append by_ (pv 4) (aa_ (aH_ (aa_ (pv 1) (aa_ (pv 5) (aa_ (pv 6) ab_)))) ab_)))) aE_)))))
   (af_ (au_ (pv 4))))), ?_⟩
  refine⟨Nat.zero_le _,fun fo H1 n1 s1 h1=> ?_⟩
  refine⟨_,rfl,_,_,rfl,rfl,_,rfl,_,_,rfl,rfl,_,_,rfl,⟨by omega,by omega,by omega,by omega⟩, ?_⟩
  rw [show((d:Int)+1-((f:Int)+1)).toNat=d-f by omega]
  refine bz_ (lo:=(f:Int)+1) (n:=d-f) (fun i σ H2=>(∃v5 v6,σ=[some (.int d),some (.int f),some (.int n),some (.int sp),some (.ref fo),v5,v6])∧al_ H H2∧∃vs,H2 fo=some (.lst vs)∧Iss H2 ((iW_ f i n sp).map lf) vs) ⟨⟨none,none,rfl⟩,s1,[],h1,aj_⟩ ?_ ?_
  ·rintro i σ H2 hi ⟨⟨v5,v6,rfl⟩,s2,vs2,hfo2,his2⟩
   refine⟨_,rfl,_,_,rfl,rfl,_,_,rfl,⟨by decide,by decide,by omega,by omega⟩, ?_⟩
   rw [show((n:Int)+1-1).toNat=n by omega]
   refine bz_ (lo:=1) (n:=n) (fun j σ H3=>(∃v6,σ=[some (.int d),some (.int f),some (.int n),some (.int sp),some (.ref fo),some (.int ((f:Int)+1+(i:Int))),v6])∧al_ H H3∧∃vs,H3 fo=some (.lst vs)∧Iss H3 ((iW_ f i n sp++kv_ f ((f:Int)+1+(i:Int)) j sp).map lf) vs) ⟨⟨v6,rfl⟩,s2,vs2,hfo2,by simpa [kv_] using his2⟩ ?_ ?_
   ·rintro j σ H3 hj ⟨⟨v6,rfl⟩,s3,vs3,hfo3,his3⟩
    have vl:vs3.length≤200:=by
     rw [his3.length,List.length_map,List.length_append]
     have a:=fN_ f n sp i
     have b:=ih_ f ((f:Int)+1+(i:Int)) j sp
     have:i*n≤5*20:=Nat.mul_le_mul (by omega) n20
     omega
    refine⟨_,rfl,_,rfl,_,rfl,(by show 3≤sizeLine;decide),fun t H4 nt s4 ht=>⟨.ref t,((f:Int),(f:Int)+1+(i:Int),1+(j:Int)),rfl,cj_ ht,⟨?_, ?_, ?_, ?_⟩,_,rfl,_,_,rfl,rfl,_,rfl,eS_ (fun c=> ?_) (fun c=> ?_)⟩⟩
    ·show 0≤(f:Int)+1+(i:Int)-(f:Int);omega
    ·show(f:Int)+1+(i:Int)-(f:Int)≤10;omega
    ·show 1≤1+(j:Int);omega
    ·show 1+(j:Int)≤20;omega
    ·refine⟨_,rfl, .inl ⟨rfl,_,SqL.of (s4 _ _ hfo3)⟩,_,rfl,_,rfl,_,rfl,(by show 3≤sizeLine;decide),fun t2 H5 nt2 s5 ht2=>⟨fo,vs3,_,rfl,rfl,s5 _ _ (s4 _ _ hfo3),ak_ (by omega),⟨_,rfl⟩,(s3.trans (s4.trans s5)).put n1,_,ae_, ?_⟩⟩
     rw [gz_,if_pos c,←List.append_assoc]
     refine ir_ (n8_.upd (s5 _ _ (s4 _ _ hfo3))) ?_
     rw [List.map_append]
     exact(his3.mono (s4.trans s5)).append (ag_ (cj_ ht2) aj_)
    ·refine⟨⟨_,rfl⟩,s3.trans s4,vs3,s4 _ _ hfo3, ?_⟩
     rw [gz_,if_neg c,List.append_nil]
     exact his3.mono s4
   ·rintro σ H3 ⟨⟨v6,rfl⟩,s3,vs3,hfo3,his3⟩
    exact⟨⟨_,_,rfl⟩,s3,vs3,hfo3,by rw [gA_];exact his3⟩
  ·rintro σ H2 ⟨⟨v5,v6,rfl⟩,s2,vs2,hfo2,his2⟩
   exact⟨_,rfl,kk fo H2 s2 n1 (bJ_ hfo2 his2)⟩
theorem e3_:∀n:Nat,FnOk P w K mg base CX0 (n+1) T.f_leaving T.d_leaving ["lifts","weight","spare"] (nc_ n K)
 |0=>⟨fun vs H Q E h=>by obtain⟨_,_,_,_,_,_,_,h,h',_⟩:=h;omega,fun A outer s H args us vs Q E _ _ _ _ h=>by obtain⟨_,_,_,_,_,_,_,h,h',_⟩:=h;omega⟩
 |n+1=>by
  have ih:=e3_ n
  refine T.X_leaving.F.ok b1_ (fun vs H Q E h=> ?_) (fun cdv A outer s H vs Q E hr h=> ?_)
  ·obtain⟨_,_,_,_,rfl,_⟩:=h
   rfl
  ·obtain⟨v,ls,wt,sp,rfl,hv,hok,w0,w1,hL,hl,hn,kk⟩:=h
   refine⟨_,(ac_ (ap_ (i:=3) b1_.nd rfl (by trivial) (aI_ (aa_ (aI_ ab_) ab_)))
   (ac_ (aX_ PassesOwn.never rfl (jt_ (by rfl) T.n_enumerate (pv 0)) (cF_ rfl (az_ (am_ (i:=4) b1_.nd rfl (by trivial)) (az_ (am_ (i:=5) b1_.nd rfl (by trivial)) bL_))) (af_ (a8_ (jm_ (aq_ fu_ (aK_ aD_ (pv 5) ad_ (fun _ _=>rfl)) (pv 1) (ax_ _)) (hm_ (aq_ fu_ (ai_ (fy_ T) (hr.mono (by omega)) (by rfl) T.X_lost.m T.X_lost.F.kp T.X_lost.B .nil aw_ (aa_ (pv 5) ab_)) (pv 2) (ax_ _)))).pt (af_ (aX_ PassesOwn.never rfl (aN_ (ai_ ih hr (by rfl) T.X_leaving.m T.X_leaving.F.kp T.X_leaving.B .nil aw_ (aa_ (cd_ c6_ (pv 0) (cE_ (pv 4)) db_) (aa_ (ao_ a6_ (pv 1) (aK_ aD_ (pv 5) ad_ (fun _ _=>rfl))) (aa_ (ao_ a6_ (pv 2) (ai_ (fy_ T) (hr.mono (by omega)) (by rfl) T.X_lost.m T.X_lost.F.kp T.X_lost.B .nil aw_ (aa_ (pv 5) ab_))) ab_))))) (am_ (i:=6) b1_.nd rfl (by trivial)) (af_ (aM_ (dE_ PySem.F.plainAttrs_list PySem.F.slot_list_append PySem.F.type_list_append by_ (pv 3) (aa_ (ao_ cf_ (aI_ (aa_ (pv 5) ab_)) (pv 6)) ab_)))))) aE_)))
   (af_ (au_ (pv 3))))), ?_⟩
   obtain⟨da,dvs,rfl,hda,hdi⟩:=bm_ hv
   have dlen:dvs.length=ls.length:=by rw [hdi.length,List.length_map]
   refine⟨Nat.zero_le _,fun e0 H1 ne s1 he=>⟨(by show 1≤sizeLine;decide),fun fo H2 nf s2 hfo=> ?_⟩⟩
   have nfH:H fo=none:=s1.free nf
   have e0fo:e0≠fo:=by rintro rfl;rw [he] at nf;cases nf
   have acc0:Acc H H2 fo (([[]]:List (List Lf)).map lfs):=⟨[.ref e0],hfo,ag_ (bJ_ (vs:=[]) (by rw [br_ e0fo,cp_ ne];exact s2 _ _ he) aj_) aj_⟩
   have tot:∀i:Nat,i<ls.length→1+((List.range i).flatMap (dG_ n ls wt sp)).length+(dG_ n ls wt sp i).length≤1000:=fun i hi=>by
    have:=fr_ (dG_ n ls wt sp) hi
    rw [ez_,List.length_append,List.length_singleton] at hL
    omega
   refine⟨_,rfl,da,rfl,⟨_,SqL.of (s2 _ _ (s1 _ _ hda))⟩,iz_ (xs:=dvs) (fun i σ H3=>(∃v4 v5 v6,σ=[some (.ref da),some (.int wt),some (.int sp),some (.ref fo),v4,v5,v6])∧al_ H H3∧Acc H H3 fo (([[]]++(List.range i).flatMap (dG_ n ls wt sp)).map lfs)) ⟨⟨none,none,none,rfl⟩,s1.trans s2,by simpa using acc0⟩ (fun i σ H3 _ h=>SqL.of (h.2.1 _ _ hda)) ?_ ?_⟩
   ·rintro i y σ H3 pa hi ⟨⟨v4,v5,v6,rfl⟩,s3,hacc⟩ np
    obtain⟨dd,hdd,hy⟩:=hdi.of_get hi
    rw [List.getElem?_map] at hdd
    obtain⟨p,hp',rfl⟩:=Option.map_eq_some_iff.mp hdd
    have hil:i<ls.length:=(List.getElem?_eq_some_iff.mp hp').1
    obtain⟨p1,p2,p3,p4⟩:=id (hok p (List.mem_of_getElem? hp'))
    have tt:=tot i hil
    have s34:al_ H3 (upd H3 pa (.tup [.int i,y])):=al_.new np
    have hacc4:=hacc.mono s34
    have stay:dG_ n ls wt sp i=[]→Acc H (upd H3 pa (.tup [.int i,y])) fo (([[]]++(List.range (i+1)).flatMap (dG_ n ls wt sp)).map lfs):=fun e=>by
     rw [cM_,e,List.append_nil]
     exact hacc4
    have hlf:Is (upd H3 pa (.tup [.int i,y])) (lf p) y:=(hy.mono s3).mono s34
    refine⟨pa,_,rfl,SqT.of ae_,rfl,_,_,rfl,_,_,rfl,rfl, ?_⟩
    generalize upd H3 pa (.tup [.int i,y])=H4 at s34 hacc4 stay hlf⊢
    have s4:al_ H H4:=s3.trans s34
    refine⟨_,rfl,_,2,_,hlf,rfl,rfl,fun u hu=> ?_⟩
    rw [dg_ hu]
    refine⟨_,rfl,_,_,rfl,rfl,_,rfl,eS_ (fun c1=> ?_) (fun c1=> ?_)⟩
    ·refine⟨_,rfl,y,p,rfl,hlf,⟨p1,p2,p3,p4⟩,_,rfl,_,_,rfl,rfl,_,rfl,eS_ (fun c2=> ?_) (fun c2=> ?_)⟩
     ·have eG:dG_ n ls wt sp i=(cU_ n (ls.drop i) (wt-p.2.2) (sp-bn_ p)).map (p:: ·):=by
       unfold dG_
       rw [hp']
       exact if_pos ⟨c1,c2⟩
      rw [eG,List.length_map] at tt
      refine⟨_,rfl,_,rfl,i,rfl,da,_,rfl,SqL.of (s4 _ _ hda), ?_⟩
      rw [eJ_ (by omega)]
      intro l2 n2
      have s45:al_ H4 (upd H4 l2 (.lst (dvs.drop i))):=al_.new n2
      have hl2:(upd H4 l2 (.lst (dvs.drop i))) l2=some (.lst (dvs.drop i)):=ae_
      generalize upd H4 l2 (.lst (dvs.drop i))=H5 at s45 hl2⊢
      have s5:=s4.trans s45
      have hdr:Is H5 (lfs (ls.drop i)) (.ref l2):=bJ_ hl2 (by rw [List.map_drop];exact(hdi.drop i).mono s5)
      refine⟨_,rfl,_,rfl,_,2,_,hlf.mono s45,rfl,rfl,fun u hu=> ?_⟩
      rw [dg_ hu]
      refine⟨_,_,rfl,rfl,_,rfl,_,rfl,y,p,rfl,hlf.mono s45,⟨p1,p2,p3,p4⟩,_,_,rfl,rfl, ?_⟩
      refine⟨.ref l2,ls.drop i,wt-p.2.2,sp-bn_ p,rfl,hdr,fun q hq=>hok q (List.mem_of_mem_drop hq),by omega,by omega,by omega,by rw [List.length_drop];omega,by omega,fun rl H6 s6 nrl hrl=> ?_⟩
      obtain⟨vs5,hfo5,hi5⟩:=hacc4.mono s45
      have hfo6:H6 fo=some (.lst vs5):=s6 _ _ hfo5
      obtain⟨_,rvs,e,hrl',hri⟩:=bm_ hrl
      cases e
      have hrl6:H6 rl=some (.lst rvs):=aJ_ _ _ hrl'
      have rlfo:rl≠fo:=by rintro rfl;rw [hfo5] at nrl;cases nrl
      have rlen:rvs.length=(cU_ n (ls.drop i) (wt-p.2.2) (sp-bn_ p)).length:=by rw [hri.length,List.length_map]
      have hriH:Iss (hid H6 fo) ((cU_ n (ls.drop i) (wt-p.2.2) (sp-bn_ p)).map lfs) rvs:=(hri.mono (c1_ (al_.refl H5) hfo5)).mono (aA_ aJ_)
      have s56:=s5.trans s6
      refine⟨rl,rfl,⟨_,SqL.of hrl6⟩,aY_ (xs:=rvs) (fun j σ H7=>(∃v6,σ=[some (.ref da),some (.int wt),some (.int sp),some (.ref fo),some (.int i),some y,v6])∧al_ H H7∧But fo H6 H7∧Acc H H7 fo (([[]]++(List.range i).flatMap (dG_ n ls wt sp)++((cU_ n (ls.drop i) (wt-p.2.2) (sp-bn_ p)).take j).map (p:: ·)).map lfs)) ⟨⟨_,rfl⟩,s56,fun _ _ e _=>e,by simpa using (hacc4.mono s45).mono s6⟩ (fun j σ H7 _ h=>SqL.of (h.2.2.1 _ _ hrl6 rlfo)) ?_ ?_⟩
      ·rintro j x σ H7 hj ⟨⟨v6,rfl⟩,s7,but7,vs7,hfo7,hi7⟩
       obtain⟨dd,hdd,hx⟩:=hriH.of_get hj
       rw [List.getElem?_map] at hdd
       obtain⟨r,hr',rfl⟩:=Option.map_eq_some_iff.mp hdd
       have hjl:j<(cU_ n (ls.drop i) (wt-p.2.2) (sp-bn_ p)).length:=(List.getElem?_eq_some_iff.mp hr').1
       have hx7:Is H7 (lfs r) x:=hx.mono (eE_ but7)
       have ritem:=(eA_ (fun q hq=>(hok q (List.mem_of_mem_drop hq)).2.2.1) (by omega) (List.mem_of_getElem? hr')).1
       have vl:vs7.length≤999:=by
        rw [hi7.length,List.length_map,List.length_append,List.length_append,List.length_map,List.length_take,List.length_singleton]
        omega
       have hy7:Is H7 (lf p) y:=hy.mono s7
       refine⟨_,rfl, .inl ⟨rfl,_,SqL.of hfo7⟩,_,rfl,(by show 1≤sizeLine;decide),fun q1 H8 n8 s8 h8=>⟨_,rfl,[lf p],r.map lf,bJ_ h8 (ag_ (hy7.mono s8) aj_),hx7.mono s8,Nat.le_of_lt (ak_ (by rw [List.length_map];show 1+r.length≤1000;omega)),fun q2 H9 n9 s9 h9=> ?_⟩⟩
       have s79:=s8.trans s9
       refine⟨fo,vs7,_,rfl,rfl,s79 _ _ hfo7,ak_ (by omega),⟨_,rfl⟩,(s7.trans s79).put nfH,but7.trans ((But.of_same s79).trans But.upd), ?_⟩
       rw [List.take_add_one,hr']
       have:=Acc.add s7 s79 hfo7 hi7 (cK_ (ps:=p::r) s79 (s8.free n9) h9)
       simpa using this
      ·rintro σ H7 ⟨⟨v6,rfl⟩,s7,_,hacc7⟩
       refine⟨⟨_,_,_,rfl⟩,s7, ?_⟩
       rw [rlen,List.take_length,←eG,List.append_assoc,←cM_] at hacc7
       exact hacc7
     ·refine⟨⟨_,_,_,rfl⟩,s4,stay ?_⟩
      unfold dG_
      rw [hp']
      exact if_neg fun z=>c2 z.2
    ·refine cW_ ⟨⟨_,_,_,rfl⟩,s4,stay ?_⟩
     unfold dG_
     rw [hp']
     exact if_neg fun z=>c1 z.1
   ·rintro σ H3 ⟨⟨v4,v5,v6,rfl⟩,s3,hacc⟩
    rw [dlen,←ez_] at hacc
    exact⟨_,rfl,kk fo H3 s3 nfH (hacc.is nfH)⟩
theorem fw_:FnOk P w K mg base CX0 10 T.f_with_floor T.d_with_floor ["d","floor","drawing","spare"] (m8_ K):=by
 refine T.X_with_floor.F.ok a3_ (fun vs H Q E h=> ?_) (fun cdv A outer s H vs Q E hr h=> ?_)
 ·obtain⟨_,_,_,_,rfl,_⟩:=h
  rfl
 ·obtain⟨d,f,v,x,rfl,fd,d5,hv,hst,kk⟩:=h
  refine⟨_,(ac_ (ap_ (i:=4) a3_.nd rfl (by trivial) (aK_ a9_ (ai_ (dF_ T) (hr.mono (by decide)) (by rfl) T.X_ends_at.m T.X_ends_at.F.kp T.X_ends_at.B .nil aw_ (aa_ (pv 0) (aa_ (pv 2) ab_))) (ao_ a6_ (pv 1) ad_) (fun _ _=>rfl)))
   (ac_ (ap_ (i:=5) a3_.nd rfl (by trivial) (aI_ ab_))
   (ac_ (aX_ PassesOwn.never rfl (aN_ (ai_ (e3_ T 8) (hr.mono (by decide)) (by rfl) T.X_leaving.m T.X_leaving.F.kp T.X_leaving.B .nil aw_ (aa_ (ai_ (fz_ T) (hr.mono (by decide)) (by rfl) T.X_lifts_from.m T.X_lifts_from.F.kp T.X_lifts_from.B .nil aw_ (aa_ (pv 0) (aa_ (pv 1) (aa_ (pv 4) (aa_ (pv 3) ab_))))) (aa_ (pv 4) (aa_ (pv 3) ab_))))) (am_ (i:=6) a3_.nd rfl (by trivial)) (ac_ (ap_ (i:=7) a3_.nd rfl (by trivial) (ao_ a6_ (pv 4) (av_ (eb_ rfl) (by rfl) T.n_sum boot_sum (aa_ (bH_ (XN:=["d","floor","drawing","spare","there","found","lifts","ends","left"]) (sc:=ah_ bw_) (N:=["lift"]) (own:=1) (js:=[]) rfl (by decide+kernel) rfl rfl (aN_ (pv 6)) (fun _ _ _ _=>(am_ (i:=0) (show List.Nodup (["lift"]:List Str) by decide+kernel) rfl (Or.inl rfl) (.inr rfl))) (a0_ (by decide)) (fun _ _ _ _=>bR_) (fun _ _ _ _=>(aK_ aD_ (pv 0) ad_ (fun _ _=>rfl)))) ab_))))
   (ac_ (ap_ (i:=8) a3_.nd rfl (by trivial) (ao_ a6_ (ao_ a6_ (pv 3) (av_ (eb_ rfl) (by rfl) T.n_sum boot_sum (aa_ (bH_ (XN:=["d","floor","drawing","spare","there","found","lifts","ends","left"]) (sc:=ah_ bw_) (N:=["lift"]) (own:=1) (js:=[]) rfl (by decide+kernel) rfl rfl (aN_ (pv 6)) (fun _ _ _ _=>(am_ (i:=0) (show List.Nodup (["lift"]:List Str) by decide+kernel) rfl (Or.inl rfl) (.inr rfl))) (a0_ (by decide)) (fun _ _ _ _=>bR_) (fun _ _ _ _=>(ai_ (fy_ T) (hr.mono (by decide)) (by rfl) T.X_lost.m T.X_lost.F.kp T.X_lost.B .nil aw_ (aa_ (pv 0) ab_)))) ab_))) (ao_ cG_ (pv 7) (ao_ a6_ (pv 0) (pv 1)))))
   (af_ (a8_ (aq_ md_ (pv 8) ad_ (ax_ _)) (af_ (aM_ (dE_ PySem.F.plainAttrs_list PySem.F.slot_list_append PySem.F.type_list_append by_ (pv 5) (aa_ (aH_ (aa_ (ao_ cf_ (pv 2) (pv 6)) (aa_ (pv 8) ab_))) ab_)))) aE_)))))
   (af_ (au_ (pv 5)))))), ?_⟩
  obtain⟨b1,b2,b3,b4,b5,b6,b7⟩:=lP_ hst
  have okl:∀p∈x.1,Okl d p:=fun p hp=>by
   obtain⟨o1,o2,o3,o4,o5⟩:=h9_.mp (b1 p hp)
   exact⟨o1,by omega,by omega,o3⟩
  have elen:=cS_ d x.1 okl
  refine⟨_,rfl,_,rfl,d,v,x.1,rfl,by omega,d5,hv,okl,fun el H1 s1 nel hel=> ?_⟩
  refine⟨_,rfl,_,_,rfl,rfl,el,_,_, .int (thF d (f+1) x.1),rfl,rfl,SqL.of hel,pF_ (j:=f) (by omega) (by rw [hE_ (by omega)];rfl), ?_⟩
  unfold ee_ at kk
  generalize thF d (f+1) x.1=th at b3 b4 b7 kk⊢
  obtain⟨n,rfl⟩:=Int.eq_ofNat_of_zero_le b3
  refine⟨Nat.zero_le _,fun fo H2 nf s2 hfo=> ?_⟩
  have nfH:H fo=none:=s1.free nf
  have s02:=s1.trans s2
  refine⟨_,rfl,_,rfl,_,rfl,_,rfl,d,f+1,n,x.2,rfl,by omega,d5,by omega,fun l0 H3 s3 nl0 hl0=> ?_⟩
  refine⟨_,rfl,_,rfl, .ref l0,iW_ ((f+1:Nat):Int) (d-(f+1)) n x.2,(n:Int),x.2,rfl,hl0,fun p hp=> ?_,by omega,by omega, ?_, ?_,by decide,fun rl H4 s4 nrl hrl=> ?_⟩
  ·obtain⟨e1,e2,e3,e4,e5⟩:=hz_ hp
   exact⟨by omega,by omega,by omega,by omega⟩
  ·exact Nat.le_trans b7 (by decide)
  ·have:=fN_ ((f+1:Nat):Int) n x.2 (d-(f+1))
   have:(d-(f+1))*n≤5*8:=Nat.mul_le_mul (by omega) (by omega)
   omega
  have eL:cU_ 8 (iW_ ((f+1:Nat):Int) (d-(f+1)) n x.2) (n:Int) x.2=mp_ d (f+1) n x.2:=by unfold mp_;rw [Int.toNat_natCast]
  have hitem:∀r∈mp_ d (f+1) n x.2,r.length≤8∧0≤(r.map (·.2.2)).sum∧(r.map (·.2.2)).sum≤(n:Int)∧∀p∈r,Lok p:=fun r hr=>by
   rw [←eL] at hr
   obtain⟨i1,i2,i3,i4⟩:=eA_ (fun q hq=>(hz_ hq).2.2.2.1) (by omega) hr
   exact⟨i1,i2,i3,fun p hp=>by
    obtain⟨e1,e2,e3,e4,e5⟩:=hz_ (i4 p hp)
    exact⟨by omega,by omega,by omega,by omega⟩⟩
  rw [eL] at hrl
  generalize mp_ d (f+1) n x.2=L at hrl hitem kk b7
  have s03:=s02.trans s3
  have hfo3:H3 fo=some (.lst []):=s3 _ _ hfo
  have hfo4:H4 fo=some (.lst []):=s4 _ _ hfo3
  obtain⟨_,rvs,e,hrl',hri⟩:=bm_ hrl
  cases e
  have hrl4:H4 rl=some (.lst rvs):=aJ_ _ _ hrl'
  have rlfo:rl≠fo:=by rintro rfl;rw [hfo3] at nrl;cases nrl
  have rlen:rvs.length=L.length:=by rw [hri.length,List.length_map]
  have hriH:Iss (hid H4 fo) (L.map lfs) rvs:=(hri.mono (c1_ (al_.refl H3) hfo3)).mono (aA_ aJ_)
  have s04:=s03.trans s4
  refine⟨rl,rfl,⟨_,SqL.of hrl4⟩,aY_ (xs:=rvs) (fun j σ H5=>(∃v6 v7 v8,σ=[some (.int d),some (.int ((f+1:Nat):Int)),some v,some (.int x.2),some (.int n),some (.ref fo),v6,v7,v8])∧al_ H H5∧But fo H4 H5∧Acc H H5 fo ((((L.take j).filter fun ls=>decide (0≤fO_ d (f+1) n x.2 ls)).map fun ls=>(x.1++ls,fO_ d (f+1) n x.2 ls)).map stD)) ⟨⟨none,none,none,rfl⟩,s04,fun _ _ e _=>e,Acc.start hfo4⟩ (fun j σ H5 _ h=>SqL.of (h.2.2.1 _ _ hrl4 rlfo)) ?_ ?_⟩
  ·rintro j y σ H5 hj ⟨⟨v6,v7,v8,rfl⟩,s5,but5,vs5,hfo5,hi5⟩
   obtain⟨dd,hdd,hy⟩:=hriH.of_get hj
   rw [List.getElem?_map] at hdd
   obtain⟨r,hr',rfl⟩:=Option.map_eq_some_iff.mp hdd
   have hy5:Is H5 (lfs r) y:=hy.mono (eE_ but5)
   obtain⟨i1,i2,i3,i4⟩:=hitem r (List.mem_of_getElem? hr')
   obtain⟨ya,ys,rfl,hya,hyi⟩:=bm_ hy5
   have ylen:ys.length=r.length:=by rw [hyi.length,List.length_map]
   have vl:vs5.length≤200:=by
    rw [hi5.length,List.length_map,List.length_map]
    refine Nat.le_trans (List.length_filter_le _ _) ?_
    rw [List.length_take]
    omega
   refine⟨_,rfl,_,rfl,ya,rfl,⟨_,SqL.of hya⟩,fun acc na=> ?_⟩
   refine bb_ (xs:=ys) (own:=1) (js:=[]) (fun i H6=>al_ H5 H6∧H6 acc=some (.lst (((r.take i).map (·.2.2)).map V.int))) ⟨al_.new na,ae_⟩ (fun i H6 _ h=>SqL.of (h.1 _ _ hya)) ?_ ?_ a1_ bS_ ?_
   ·rintro i z H6 hz ⟨s6,hacc⟩
    obtain⟨dd,hdd,hzi⟩:=hyi.of_get hz
    rw [List.getElem?_map] at hdd
    obtain⟨p,hp',rfl⟩:=Option.map_eq_some_iff.mp hdd
    refine lk_ ?_
    refine⟨_,rfl,_,2,_,hzi.mono s6,rfl,rfl,fun u hu=> ?_⟩
    rw [dg_ hu]
    refine⟨acc,_,_,rfl,rfl,hacc,ak_ ?_,s6.put na, ?_⟩
    ·rw [List.length_map,List.length_map,List.length_take];omega
    ·rw [ae_,List.take_add_one,hp',List.map_append,List.map_append];rfl
   ·rintro H6 ⟨s6,hacc⟩
    rw [ylen,List.take_length] at hacc
    refine⟨acc,_,rfl,SqL.of hacc,_,_,rfl,rfl, ?_⟩
    clear hacc
    refine⟨_,rfl,_,rfl,ya,rfl,⟨_,SqL.of (s6 _ _ hya)⟩,fun ac2 na2=> ?_⟩
    refine bb_ (xs:=ys) (own:=1) (js:=[]) (fun i H7=>al_ H6 H7∧H7 ac2=some (.lst (((r.take i).map bn_).map V.int))) ⟨al_.new na2,ae_⟩ (fun i H7 _ h=>SqL.of (h.1 _ _ (s6 _ _ hya))) ?_ ?_ a1_ bS_ ?_
    ·rintro i z H7 hz ⟨s7,hacc⟩
     obtain⟨dd,hdd,hzi⟩:=hyi.of_get hz
     rw [List.getElem?_map] at hdd
     obtain⟨p,hp',rfl⟩:=Option.map_eq_some_iff.mp hdd
     refine lk_ ?_
     refine⟨_,rfl,z,p,rfl,(hzi.mono s6).mono s7,i4 p (List.mem_of_getElem? hp'),ac2,_,_,rfl,rfl,hacc,ak_ ?_,s7.put na2, ?_⟩
     ·rw [List.length_map,List.length_map,List.length_take];omega
     ·rw [ae_,List.take_add_one,hp',List.map_append,List.map_append];rfl
    ·rintro H7 ⟨s7,hacc⟩
     rw [ylen,List.take_length] at hacc
     have s57:=s6.trans s7
     refine⟨ac2,_,rfl,SqL.of hacc,_,_,rfl,rfl,_,rfl,_,rfl,_,rfl,_,_,rfl,rfl,_,_,rfl,rfl, .inr ⟨by omega,by omega⟩,_,_,rfl,rfl, ?_⟩
     refine⟨_,rfl,_,_,rfl,rfl,_,rfl,eS_ (fun c=> ?_) (fun c=> ?_)⟩
     ·have hv7:Is H7 (lfs x.1) v:=(hv.mono s5).mono s57
      refine⟨_,rfl, .inl ⟨rfl,_,SqL.of (s57 _ _ hfo5)⟩,_,rfl,_,rfl,x.1.map lf,r.map lf,hv7,hy5.mono s57,Nat.le_of_lt (ak_ (by rw [List.length_map,List.length_map];omega)),fun q1 H8 n8 s8 h8=>⟨_,rfl,(by show 2≤sizeLine;decide),fun t H9 nt s9 ht=> ?_⟩⟩
      have s59:=s57.trans (s8.trans s9)
      refine⟨fo,vs5,_,rfl,rfl,s59 _ _ hfo5,ak_ (by omega),⟨_,_,_,rfl⟩,(s5.trans s59).put nfH,but5.trans ((But.of_same s59).trans But.upd), ?_⟩
      rw [List.take_add_one,hr',List.filter_append]
      have ef:(Option.toList (some r)).filter (fun ls=>decide (0≤fO_ d (f+1) n x.2 ls))=[r]:=by
       have c':0≤fO_ d (f+1) n x.2 r:=c
       simp [c']
      rw [ef,List.map_append,List.map_append]
      rw [←List.map_append] at h8
      have isx:Is (nw H5 H9) (stD (x.1++r,fO_ d (f+1) n x.2 r)) (.ref t):=iY_ (by rw [cp_ ((s57.trans s8).free nt)];exact ht) (ag_ (cK_ s59 (s57.free n8) (Is.mono (s:=s9) h8)) (ag_ mv_ aj_))
      exact Acc.add s5 s59 hfo5 hi5 isx
     ·refine⟨⟨_,_,_,rfl⟩,s5.trans s57,but5.trans (But.of_same s57), ?_⟩
      rw [List.take_add_one,hr',List.filter_append]
      have ef:(Option.toList (some r)).filter (fun ls=>decide (0≤fO_ d (f+1) n x.2 ls))=[]:=by
       have c':¬0≤fO_ d (f+1) n x.2 r:=c
       simp [c']
      rw [ef,List.append_nil]
      exact Acc.mono s57 ⟨vs5,hfo5,hi5⟩
    ·rintro σ H R R' k ⟨v1,e1,v2,p,e2,h1,h2,h⟩
     exact⟨v1,e1,v2,p,e2,h1,h2,k _ _ h⟩
   ·rintro σ H R R' k ⟨v1,e1,xs,i,d,h1,e2,e3,h⟩
    exact⟨v1,e1,xs,i,d,h1,e2,e3,fun u hu=>k _ _ (h u hu)⟩
  ·rintro σ H5 ⟨⟨v6,v7,v8,rfl⟩,s5,_,hacc⟩
   rw [rlen,List.take_length] at hacc
   exact⟨_,rfl,kk fo H5 s5 nfH (hacc.is nfH)⟩
theorem ht_:FnOk P w K mg base CX0 11 T.f_drawings T.d_drawings ["d","k"] (oJ_ K):=by
 refine T.X_drawings.F.ok bd_ (fun vs H Q E h=> ?_) (fun cdv A outer s H vs Q E hr h=> ?_)
 ·obtain⟨_,_,rfl,_⟩:=h
  rfl
 ·obtain⟨d,k,rfl,hP,kk⟩:=h
  have hW:=hP.wide
  refine⟨_,(ac_ (aM_ (ai_ (cH_ T) (hr.mono (by decide)) (by rfl) T.X_need_wide.m T.X_need_wide.F.kp T.X_need_wide.B .nil aw_ (aa_ (pv 0) (aa_ (pv 1) ab_))))
   (ac_ (ap_ (i:=2) bd_.nd rfl (by trivial) (aI_ (aa_ (aH_ (aa_ (aI_ ab_) (aa_ (pv 1) ab_))) ab_)))
   (ac_ (aX_ PassesOwn.never rfl (b3_ (by rfl) T.n_range (aa_ ad_ (aa_ (ao_ aO_ (pv 0) ad_) ab_))) (am_ (i:=3) bd_.nd rfl (by trivial)) (ac_ (ap_ (i:=4) bd_.nd rfl (by trivial) (aI_ ab_))
   (ac_ (aX_ PassesOwn.never rfl (aN_ (pv 2)) (cF_ rfl (az_ (am_ (i:=5) bd_.nd rfl (by trivial)) (az_ (am_ (i:=6) bd_.nd rfl (by trivial)) bL_))) (af_ (aM_ (dE_ PySem.F.plainAttrs_list PySem.F.slot_list_extend PySem.F.type_list_extend ex_ (pv 4) (aa_ (ai_ (fw_ T) (hr.mono (by decide)) (by rfl) T.X_with_floor.m T.X_with_floor.F.kp T.X_with_floor.B .nil aw_ (aa_ (pv 0) (aa_ (pv 3) (aa_ (pv 5) (aa_ (pv 6) ab_))))) ab_)))))
   (af_ (ap_ (i:=2) bd_.nd rfl (by trivial) (pv 4))))))
   (af_ (au_ (av_ (gS_ hr) (by rfl) T.n_sorted boot_sorted (aa_ (bH_ (XN:=["d","k","begun","floor","longer","drawing","spare"]) (sc:=ah_ cO_) (N:=["drawing","spare"]) (own:=2) (js:=[]) rfl (by decide+kernel) rfl rfl (aN_ (pv 2)) (fun _ _ _ _=>(l4_ (K:=K) rfl rfl (az_ (am_ (i:=0) (show List.Nodup (["drawing","spare"]:List Str) by decide+kernel) rfl (Or.inl rfl) (.inr rfl)) (az_ (am_ (i:=1) (show List.Nodup (["drawing","spare"]:List Str) by decide+kernel) rfl (Or.inl rfl) (.inr rfl)) bL_)))) jz_ (fun _ _ _ _=>(d5_ (aq_ ce_ (pv 1) ad_ (ax_ _)))) (fun _ _ _ _=>(pv 0))) ab_))))))), ?_⟩
  refine⟨_,rfl,_,rfl,d,k,rfl,hW, ?_⟩
  have g1:=(iG_ hP).ok
  have g3:=(iG_ hP).few
  obtain⟨gA,gB⟩:=mf_ g1
  have d15:1≤d∧d≤5:=by unfold Wide at hW;omega
  refine⟨Nat.zero_le _,fun e0 H1 ne0 s1 he0=>⟨_,rfl,(by show 2≤sizeLine;decide),fun t0 H2 nt0 s2 ht0=>⟨(by show 1≤sizeLine;decide),fun bg H3 nb s3 hbg=> ?_⟩⟩⟩
  have s03:=(s1.trans s2).trans s3
  have nbH:H bg=none:=(s1.trans s2).free nb
  have is0:Is (nw H H3) (.l ((eU_ d k 0).map stD)) (.ref bg):=bJ_ (by rw [cp_ nbH];exact hbg) (ag_ (iY_ (by rw [cp_ (s1.free nt0)];exact s3 _ _ ht0) (ag_ (bJ_ (vs:=[]) (by rw [cp_ ne0];exact s3 _ _ (s2 _ _ he0)) aj_) (ag_ mv_ aj_))) aj_)
  refine⟨_,rfl,_,_,rfl,rfl,_,_,rfl,⟨by decide,by decide,by omega,by omega⟩, ?_⟩
  rw [show((d:Int)+1-1).toNat=d by omega]
  refine bz_ (lo:=1) (n:=d) (fun f σ H4=>∃bg,(∃v3 v4 v5 v6,σ=[some (.int d),some (.int k),some (.ref bg),v3,v4,v5,v6])∧al_ H H4∧Is (nw H H4) (.l ((eU_ d k f).map stD)) (.ref bg)) ⟨bg,⟨none,none,none,none,rfl⟩,s03,is0⟩ ?_ ?_
  ·clear is0 s03 nbH hbg
   rintro f σ H4 hf ⟨bg,⟨v3,v4,v5,v6,rfl⟩,s4,hbg⟩
   obtain⟨hst,hlen⟩:=gA f hf
   refine⟨Nat.zero_le _,fun lo H5 nlo s5 hlo=> ?_⟩
   have hbg4:=hbg.mono aJ_
   obtain⟨_,bvs,e,hb4,hbi⟩:=bm_ hbg4
   cases e
   have blen:bvs.length=(eU_ d k f).length:=by rw [hbi.length,List.length_map]
   refine⟨_,rfl,bg,rfl,⟨_,SqL.of (s5 _ _ hb4)⟩,aY_ (xs:=bvs) (fun j σ H6=>(∃v5 v6,σ=[some (.int d),some (.int k),some (.ref bg),some (.int (1+(f:Int))),some (.ref lo),v5,v6])∧al_ H4 H6∧Acc H4 H6 lo ((((eU_ d k f).take j).flatMap fun x=>ee_ d (f+1) x.1 x.2).map stD)) ⟨⟨_,_,rfl⟩,s5,Acc.start hlo⟩ (fun j σ H6 _ h=>SqL.of (h.2.1 _ _ hb4)) ?_ ?_⟩
   ·rintro j y σ H6 hj ⟨⟨v5,v6,rfl⟩,s6,vs6,hlo6,hi6⟩
    obtain⟨dd,hdd,hy⟩:=hbi.of_get hj
    rw [List.getElem?_map] at hdd
    obtain⟨x,hx',rfl⟩:=Option.map_eq_some_iff.mp hdd
    obtain⟨t,u,rfl,ht,hu⟩:=nz_ (hy.mono s6)
    have e1:(1+(f:Int))=((f+1:Nat):Int):=by omega
    have tk:(((eU_ d k f).take (j+1)).flatMap fun x=>ee_ d (f+1) x.1 x.2)=(((eU_ d k f).take j).flatMap fun x=>ee_ d (f+1) x.1 x.2)++ee_ d (f+1) x.1 x.2:=by
     rw [List.take_add_one,hx',List.flatMap_append]
     simp
    have vl:vs6.length+(ee_ d (f+1) x.1 x.2).length≤900:=by
     rw [hi6.length,List.length_map]
     have hjl:j<(eU_ d k f).length:=(List.getElem?_eq_some_iff.mp hx').1
     have:(((eU_ d k f).take (j+1)).flatMap fun x=>ee_ d (f+1) x.1 x.2).length≤(eU_ d k (f+1)).length:=by
      show _≤((eU_ d k f).flatMap fun x=>ee_ d (f+1) x.1 x.2).length
      conv=>rhs;rw [←List.take_append_drop (j+1) (eU_ d k f)]
      rw [List.flatMap_append,List.length_append]
      omega
     rw [tk,List.length_append] at this
     omega
    refine⟨t,_,rfl,SqT.of ht,rfl,_,_,rfl,_,_,rfl,rfl, ?_⟩
    refine⟨_,rfl, .inl ⟨rfl,_,SqL.of hlo6⟩,_,rfl,_,rfl,_,rfl,_,rfl,d,f,u,x,by rw [e1];rfl,hf,d15.2,hu,hst x (List.mem_of_getElem? hx'),fun wl H7 s7 nwl hwl=> ?_⟩
    obtain⟨_,us,e,hwl',hwi⟩:=bm_ hwl
    cases e
    have ul:us.length=(ee_ d (f+1) x.1 x.2).length:=by rw [hwi.length,List.length_map]
    refine⟨lo,wl,vs6,us,rfl,rfl,s7 _ _ hlo6,aJ_ _ _ hwl',Nat.le_of_lt (ak_ (by omega)),⟨_,_,rfl⟩,(s6.trans s7).put nlo, ?_⟩
    rw [tk,List.map_append]
    exact Acc.adds s6 s7 hlo6 hi6 hwi
   ·rintro σ H6 ⟨⟨v5,v6,rfl⟩,s6,hacc⟩
    rw [blen,List.take_length] at hacc
    exact⟨_,rfl,lo,⟨_,_,_,_,rfl⟩,s4.trans s6,(hacc.is nlo).mono (fD_ s4)⟩
  ·clear is0 s03 nbH hbg
   rintro σ H4 ⟨bg,⟨v3,v4,v5,v6,rfl⟩,s4,hbg⟩
   obtain⟨_,bvs,e,hb4,hbi⟩:=bm_ hbg
   cases e
   have hb4':=aJ_ _ _ hb4
   have blen:bvs.length=(eU_ d k d).length:=by rw [hbi.length,List.length_map]
   refine⟨_,rfl,bg,rfl,⟨_,SqL.of hb4'⟩,fun acc na=> ?_⟩
   refine bb_ (xs:=bvs) (own:=2) (js:=[]) (fun j H5=>al_ H4 H5∧∃vs,H5 acc=some (.lst vs)∧Iss (nw H H4) (((((eU_ d k d).take j).filter fun x=>decide (x.2=0)).map (·.1)).map lfs) vs) ⟨al_.new na,[],ae_,aj_⟩ (fun j H5 _ h=>SqL.of (h.1 _ _ hb4')) ?_ ?_ jH_ ?_ ?_
   ·rintro j y H5 hj ⟨s5,vs,hacc,hi⟩
    obtain⟨dd,hdd,hy⟩:=hbi.of_get hj
    rw [List.getElem?_map] at hdd
    obtain⟨x,hx',rfl⟩:=Option.map_eq_some_iff.mp hdd
    obtain⟨t,u,rfl,ht,hu⟩:=nz_ hy
    have vl:vs.length≤900:=by
     rw [hi.length,List.length_map,List.length_map]
     refine Nat.le_trans (List.length_filter_le _ _) ?_
     rw [List.length_take]
     obtain⟨d',rfl⟩:∃d',d=d'+1:=⟨d-1,by omega⟩
     have:=(gA d' (by omega)).2
     omega
    refine⟨t,_,rfl,SqT.of (s5 _ _ (aJ_ _ _ ht)),rfl,_,_,rfl,_,_,rfl,rfl, ?_⟩
    refine⟨_,rfl,rfl,_,rfl,g9_ (fun c=> ?_) (fun c=> ?_)⟩
    ·refine⟨_,rfl,acc,vs,_,rfl,rfl,hacc,ak_ (by omega),s5.put na,_,ae_, ?_⟩
     rw [List.take_add_one,hx',List.filter_append]
     have ef:(Option.toList (some x)).filter (fun x=>decide (x.2=0))=[x]:=by simp [c]
     rw [ef,List.map_append,List.map_append]
     exact hi.append (ag_ hu aj_)
    ·refine⟨s5,vs,hacc, ?_⟩
     rw [List.take_add_one,hx',List.filter_append]
     have ef:(Option.toList (some x)).filter (fun x=>decide (x.2=0))=[]:=by simp [c]
     rw [ef,List.append_nil]
     exact hi
   ·rintro H5 ⟨s5,vs,hacc,hi⟩
    rw [blen,List.take_length] at hi
    have hi:Iss (nw H H4) ((g6_ d k).map lfs) vs:=hi
    have s05:=s4.trans s5
    have hv5:Iss H5 ((g6_ d k).map lfs) vs:=(hi.mono aJ_).mono s5
    have vlen:vs.length=(g6_ d k).length:=by rw [hi.length,List.length_map]
    refine⟨acc,vs,rfl,SqL.of hacc,by omega,fun r hr'=> ?_,fun x hx y hy=> ?_,fun p q pp nq=> ?_⟩
    ·obtain⟨i,hi,rfl⟩:=List.mem_iff_getElem.mp hr'
     obtain⟨dd,hdd,hy⟩:=hv5.of_get (List.getElem?_eq_getElem hi)
     rw [List.getElem?_map] at hdd
     obtain⟨w,_,rfl⟩:=Option.map_eq_some_iff.mp hdd
     obtain⟨a,ys,e1,e2,_⟩:=bm_ hy
     exact⟨a,ys,e1,SqL.of e2⟩
    ·obtain⟨i,hi,rfl⟩:=List.mem_iff_getElem.mp hx
     obtain⟨j,hj,rfl⟩:=List.mem_iff_getElem.mp hy
     obtain⟨dd,hdd,hx'⟩:=hv5.of_get (List.getElem?_eq_getElem hi)
     rw [List.getElem?_map] at hdd
     obtain⟨w1,_,rfl⟩:=Option.map_eq_some_iff.mp hdd
     obtain⟨ee,hee,hy'⟩:=hv5.of_get (List.getElem?_eq_getElem hj)
     rw [List.getElem?_map] at hee
     obtain⟨w2,_,rfl⟩:=Option.map_eq_some_iff.mp hee
     exact⟨_,mG_ hx' hy'⟩
    ·have hpl:∀i∈p,i<(g6_ d k).length:=fun i hi=>by
      have:=List.mem_range.mp (pp.mem_iff.mp hi)
      omega
     refine kk (p.map fun i=>(g6_ d k).getD i []) q _ ?_ (s05.put (s05.free nq)) (s05.free nq) ?_
     ·have:=pp.map fun i=>(g6_ d k).getD i []
      have er:(List.range vs.length).map (fun i=>(g6_ d k).getD i [])=g6_ d k:=by
       rw [vlen]
       refine List.ext_getElem (by simp) fun i h1 h2=> ?_
       simp [List.getD,h2]
      rw [er] at this
      exact this
     ·exact bJ_ (by rw [cp_ (s05.free nq)];exact ae_) ((iq_ hi p hpl).mono (dc_ (s5.trans (al_.new nq))))
   ·rintro σ H R R' k' ⟨v1,e1,e2,b,e3,h⟩
    exact⟨v1,e1,e2,b,e3,k' _ _ h⟩
   ·rintro σ H R R' k' ⟨v1,e1,h⟩
    exact⟨v1,e1,k' _ _ h⟩
theorem ia_:FnOk P w K mg base CX0 5 T.f_sound T.d_sound ["d","drawing"] (ox_ K):=by
 refine T.X_sound.F.ok kK_ (fun vs H Q E h=> ?_) (fun cdv A outer s H vs Q E hr h=> ?_)
 ·obtain⟨_,_,_,rfl,_⟩:=h
  rfl
 ·obtain⟨n,dv,ps,rfl,n1,n5,hd,hs,kk⟩:=h
  refine⟨_,(af_ (au_ (bX_ md_ (av_ (gU_ rfl) (by rfl) T.n_min boot_min (aa_ (ai_ (dF_ T) (hr.mono (by decide)) (by rfl) T.X_ends_at.m T.X_ends_at.F.kp T.X_ends_at.B .nil aw_ (aa_ (pv 0) (aa_ (pv 1) ab_))) ab_)) ad_ (ax_ _)))), ?_⟩
  refine⟨_,rfl,_,rfl,n,dv,ps,rfl,n1,n5,hd,hs,fun l H1 s1 nl hl=> ?_⟩
  refine⟨l,_,rfl,SqL.of hl,by rw [cS_ n ps hs];omega,_,_,rfl,rfl, ?_⟩
  exact kk H1 s1
theorem fx_:FnOk P w K mg base CX0 6 T.f_need_sound T.d_need_sound ["d","drawing"] (oB_ K):=by
 refine T.X_need_sound.F.ok fj_ (fun vs H Q E h=> ?_) (fun cdv A outer s H vs Q E hr h=> ?_)
 ·obtain⟨_,_,_,rfl,_⟩:=h
  rfl
 ·obtain⟨n,dv,ps,rfl,n1,n5,hd,hs,kk⟩:=h
  refine⟨_,(ac_ (aM_ (ai_ (c0_ T) (hr.mono (by decide)) (by rfl) T.X_need_degree.m T.X_need_degree.F.kp T.X_need_degree.B .nil aw_ (aa_ (pv 0) ab_)))
   (af_ (a8_ (cC_ (cZ_ (ai_ (ia_ T) (hr.mono (by decide)) (by rfl) T.X_sound.m T.X_sound.F.kp T.X_sound.B .nil aw_ (aa_ (pv 0) (aa_ (pv 1) ab_))))) (af_ h5_) aE_))), ?_⟩
  exact⟨_,rfl,n,rfl,by omega,by omega,_,rfl,_,rfl,n,dv,ps,rfl,n1,n5,hd,hs.okl,fun H1 s1=>⟨true,congrArg V.bl (decide_eq_true (hF_ hs.ends)),cW_ (kk H1 s1)⟩⟩
theorem gq_:FnOk P w K mg base CX0 5 T.f_end_marks T.d_end_marks ["d","drawing"] (oH_ K):=by
 refine T.X_end_marks.F.ok bO_ (fun vs H Q E h=> ?_) (fun cdv A outer s H vs Q E hr h=> ?_)
 ·obtain⟨_,_,_,rfl,_⟩:=h
  rfl
 ·obtain⟨n,dv,ps,rfl,n1,n5,hd,hs,hlen,kk⟩:=h
  refine⟨_,(ac_ (ap_ (i:=2) bO_.nd rfl (by trivial) (aI_ ab_))
   (ac_ (aX_ PassesOwn.never rfl (jt_ (by rfl) T.n_enumerate (ai_ (dF_ T) (hr.mono (by decide)) (by rfl) T.X_ends_at.m T.X_ends_at.F.kp T.X_ends_at.B .nil aw_ (aa_ (pv 0) (aa_ (pv 1) ab_)))) (cF_ rfl (az_ (am_ (i:=3) bO_.nd rfl (by trivial)) (az_ (am_ (i:=4) bO_.nd rfl (by trivial)) bL_))) (af_ (aM_ (dE_ PySem.F.plainAttrs_list PySem.F.slot_list_extend PySem.F.type_list_extend ex_ (pv 2) (aa_ (ao_ ho_ (aI_ (aa_ (aH_ (aa_ (ao_ aO_ (pv 3) ad_) (aa_ (ao_ aO_ (pv 0) ad_) (aa_ ad_ ab_)))) ab_)) (pv 4)) ab_)))))
   (af_ (au_ (pv 2))))), ?_⟩
  refine⟨Nat.zero_le _,fun fo H1 nf s1 hfo=> ?_⟩
  refine⟨_,rfl,_,rfl,n,dv,ps,rfl,n1,n5,hd.mono s1,hs.okl,fun e H2 s2 ne he=> ?_⟩
  have el:=cS_ n ps hs.okl
  have efo:e≠fo:=by rintro rfl;rw [hfo] at ne;cases ne
  refine⟨e,rfl,⟨_,SqL.of he⟩,iz_ (xs:=(aZ_ n ps).map V.int) (fun i σ H3=>(∃v3 v4,σ=[some (.int n),some dv,some (.ref fo),v3,v4])∧al_ H H3∧H3 e=some (.lst ((aZ_ n ps).map V.int))∧∃vs,H3 fo=some (.lst vs)∧Iss H3 (((List.range i).flatMap (fd_ n (aZ_ n ps))).map lf) vs)
   ⟨⟨none,none,rfl⟩,s1.trans s2,he,[],s2 _ _ hfo,aj_⟩ (fun i σ H3 _ h=>SqL.of h.2.2.1) ?_ ?_⟩
  ·rintro i x σ H3 p hx ⟨⟨v3,v4,rfl⟩,s3,he3,vs,hf3,hi3⟩ np
   rw [List.getElem?_map] at hx
   obtain⟨x,hx',rfl⟩:=Option.map_eq_some_iff.mp hx
   have hi:i<n:=by have:=(List.getElem?_eq_some_iff.mp hx').1;omega
   have ex:(aZ_ n ps).getD i 0=x:=by rw [List.getD,hx'];rfl
   have x0:0≤x:=by rw [←ex];exact hs.ends i
   have pre:((List.range i).flatMap (fd_ n (aZ_ n ps))).length+x.toNat≤20:=by
    have:=fr_ (fd_ n (aZ_ n ps)) hi
    have e2:(fd_ n (aZ_ n ps) i).length=x.toNat:=by unfold fd_;rw [List.length_replicate,ex]
    unfold dN_ at hlen
    omega
   refine⟨p,_,rfl,SqT.of ae_,rfl,_,_,rfl,_,_,rfl,rfl, ?_⟩
   have s4:al_ H3 (upd H3 p (.tup [.int i, .int x])):=al_.new np
   generalize upd H3 p (.tup [.int i, .int x])=H4 at s4⊢
   refine⟨_,rfl, .inl ⟨rfl,_,SqL.of (s4 _ _ hf3)⟩,_,rfl,_,_,rfl,rfl,_,rfl,_,_,rfl,rfl,(by show 3≤sizeLine;decide),fun t H5 nt s5 ht=>⟨(by show 1≤sizeLine;decide),fun l1 H6 n6 s6 h6=> ?_⟩⟩
   have htl:Is H6 (lf (1+(i:Int),(n:Int)+1,1)) (.ref t):=cj_ (s6 _ _ (by rw [ht];show some (HO.tup [V.int ((i:Int)+1),_,_])=_;rw [Int.add_comm]))
   refine⟨_,rfl,lf (1+(i:Int),(n:Int)+1,1),x,bJ_ h6 (ag_ htl aj_),rfl,by omega,by omega,Nat.le_of_lt (ak_ (by omega)),fun l2 H7 n7 s7 h7=> ?_⟩
   obtain⟨_,us,e2,hl2,hi2⟩:=bm_ h7
   cases e2
   have s47:al_ H3 H7:=((s4.trans s5).trans s6).trans s7
   have hf7:=s47 _ _ hf3
   have ul:us.length=x.toNat:=by rw [hi2.length,List.length_replicate]
   have vl:=hi3.length
   rw [List.length_map] at vl
   refine⟨fo,l2,vs,us,rfl,rfl,hf7,hl2,Nat.le_of_lt (ak_ (by omega)),⟨_,_,rfl⟩,(s3.trans s47).put nf,by rw [ar_ efo];exact s47 _ _ he3,_,ae_, ?_⟩
   rw [cM_,List.map_append]
   refine(dW_ s47 hf3 hi3).append (dW_ (al_.refl H7) hf7 ?_)
   have:(fd_ n (aZ_ n ps) i).map lf=List.replicate x.toNat (lf (1+(i:Int),(n:Int)+1,1)):=by unfold fd_;rw [ex,List.map_replicate]
   rw [this]
   exact hi2
  ·rintro σ H3 ⟨⟨v3,v4,rfl⟩,s3,he3,vs,hf3,hi3⟩
   rw [List.length_map,el] at hi3
   exact⟨_,rfl,kk fo H3 s3 nf (bJ_ hf3 hi3)⟩
theorem dS_:FnOk P w K mg base CX0 1 T.f_may_stand T.d_may_stand ["mark","floor","waiting"] (oD_ K):=by
 refine T.X_may_stand.F.ok gh_ (fun vs H Q E h=> ?_) (fun cdv A outer s H vs Q E hr h=> ?_)
 ·obtain⟨_,_,_,_,_,rfl,_⟩:=h
  rfl
 ·obtain⟨v,u,m,f,wt,rfl,hv,hu,hl,kk⟩:=h
  refine⟨_,(ac_ (a8_ (aq_ kW_ (aK_ aD_ (pv 0) ad_ (fun _ _=>rfl)) (aK_ aD_ (pv 0) ad_ (fun _ _=>rfl)) (ax_ _)) (af_ (au_ (bX_ fu_ (aK_ aD_ (pv 0) ad_ (fun _ _=>rfl)) (pv 1) (ax_ _)))) aE_)
   (af_ (au_ (ep_ (bX_ ce_ (aK_ aD_ (pv 0) ad_ (fun _ _=>rfl)) (ao_ aO_ (pv 1) ad_) (ax_ _)) (dR_ (ln_ (av_ (lg_ rfl) (by rfl) T.n_any boot_any (aa_ (bH_ (XN:=["mark","floor","waiting"]) (sc:=ah_ b9_) (N:=["other","mark"]) (own:=1) (js:=[0]) rfl (by decide+kernel) rfl rfl (aN_ (pv 2)) (fun _ _ _ _=>(am_ (i:=0) (show List.Nodup (["other","mark"]:List Str) by decide+kernel) rfl (Or.inl rfl) (.inr rfl))) (a0_ (by decide)) (fun _ _ _ _=>(d5_ (aq_ (mc_ (K:=K) rfl hr) (pv 0) (pv 1) (ax_ _)))) (fun _ _ _ _=>(bX_ ce_ (aK_ aD_ (pv 0) ad_ (fun _ _=>rfl)) (aK_ aD_ (pv 1) ad_ (fun _ _=>rfl)) (ax_ _)))) ab_)))))))), ?_⟩
  obtain⟨wa,wvs,rfl,hwa,hwi⟩:=bm_ hu
  have wlen:wvs.length=wt.length:=by rw [hwi.length,List.length_map]
  refine⟨_,rfl,_,0,_,hv,rfl,rfl,fun u1 hu1=> ?_⟩
  rw [dg_ hu1]
  refine⟨_,rfl,_,1,_,hv,rfl,rfl,fun u2 hu2=> ?_⟩
  rw [dg_ hu2]
  refine⟨rfl,_,rfl,la_ (fun ne=> ?_) (fun eq=> ?_)⟩
  ·refine⟨_,rfl,_,0,_,hv,rfl,rfl,fun u3 hu3=> ?_⟩
   rw [dg_ hu3]
   refine⟨_,rfl,_,_,rfl,rfl, ?_⟩
   have:dU_ m f wt=decide (m.1≤f):=by unfold dU_;rw [if_neg ne]
   show Q (.bl (decide (m.1≤f))) H
   rw [←this]
   exact kk H (al_.refl H)
  ·refine⟨_,rfl,_,0,_,hv,rfl,rfl,fun u3 hu3=> ?_⟩
   rw [dg_ hu3]
   refine⟨_,rfl,_,_,rfl,rfl, ?_⟩
   have hm1:dU_ m f wt=(decide (m.1=f+1)&& !(wt.any fun o=>decide (o≠m)&&decide (o.2.1=m.1))):=by unfold dU_;rw [if_pos eq]
   refine⟨rfl,_,rfl,g9_ (fun e1=> ?_) (fun e1=> ?_)⟩
   ·rw [decide_eq_true e1,Bool.true_and] at hm1
    refine⟨_,rfl,wa,rfl,⟨_,SqL.of hwa⟩,fun acc na=> ?_⟩
    refine bb_ (xs:=wvs) (own:=1) (js:=[0]) (fun j H4=>al_ H H4∧H4 acc=some (.lst ((((wt.take j).filter fun o=>decide (o≠m)).map fun o=>decide (o.2.1=m.1)).map V.bl))) ⟨al_.new na,ae_⟩ (fun j H4 _ h=>SqL.of (h.1 _ _ hwa)) ?_ ?_ a1_ ?_ ?_
    ·rintro j x H4 hj ⟨s4,hacc⟩
     obtain⟨dd,hdd,hy⟩:=hwi.of_get hj
     rw [List.getElem?_map] at hdd
     obtain⟨o,ho',rfl⟩:=Option.map_eq_some_iff.mp hdd
     have hjl:j<wt.length:=(List.getElem?_eq_some_iff.mp ho').1
     have hlf:Is H4 (lf o) x:=hy.mono s4
     have hm4:Is H4 (lf m) v:=hv.mono s4
     refine⟨_,rfl,_,rfl,1,_,kg_ hlf hm4,by decide,_,rfl, ?_⟩
     refine j2_ (fun ne=> ?_) (fun eo=> ?_)
     ·refine⟨_,rfl,_,1,_,hlf,rfl,rfl,fun u4 hu4=> ?_⟩
      rw [dg_ hu4]
      refine⟨_,rfl,_,0,_,hm4,rfl,rfl,fun u5 hu5=> ?_⟩
      rw [dg_ hu5]
      refine⟨rfl,acc,_,_,rfl,rfl,hacc,ak_ ?_,s4.put na, ?_⟩
      ·rw [List.length_map,List.length_map]
       have:=List.length_filter_le (fun o:Lf=>decide (o≠m)) (wt.take j)
       rw [List.length_take] at this
       omega
      ·rw [ae_,List.take_add_one,ho',List.filter_append,List.map_append,List.map_append]
       simp [List.filter_cons,ne]
     ·refine⟨s4, ?_⟩
      rw [hacc,List.take_add_one,ho',List.filter_append,List.map_append,List.map_append]
      simp [List.filter_cons,eo]
    ·rintro H3 ⟨s3,hacc⟩
     rw [wlen,List.take_length] at hacc
     refine⟨acc,_,rfl,SqL.of hacc, ?_⟩
     have e2:(((wt.filter fun o=>decide (o≠m)).map fun o=>decide (o.2.1=m.1)).any id)=(wt.any fun o=>decide (o≠m)&&decide (o.2.1=m.1)):=by
      rw [List.any_map,List.any_filter];rfl
     rw [e2]
     refine⟨_,rfl, ?_⟩
     show Q (.bl (!(wt.any fun o=>decide (o≠m)&&decide (o.2.1=m.1)))) H3
     rw [←hm1]
     exact kk H3 s3
    ·rintro σ H R R' k ⟨v1,e1,v2,e2,n,b,q1,q2,c,q3,h⟩
     exact⟨v1,e1,v2,e2,n,b,q1,q2,c,q3,k _ _ h⟩
    ·rintro σ H R R' k ⟨v1,e1,xs,i,d,h1,e2,e3,h⟩
     refine⟨v1,e1,xs,i,d,h1,e2,e3,fun u hu=> ?_⟩
     obtain⟨v2,e4,ys,i2,d2,h2,e5,e6,h⟩:=h u hu
     refine⟨v2,e4,ys,i2,d2,h2,e5,e6,fun u' hu'=> ?_⟩
     obtain⟨q1,q2⟩:=h u' hu'
     exact⟨q1,k _ _ q2⟩
   ·rw [decide_eq_false e1,Bool.false_and] at hm1
    show Q (.bl false) H
    rw [←hm1]
    exact kk H (al_.refl H)
theorem co_:FnOk P w K mg base CX0 1 T.f_without_first T.d_without_first ["waiting","mark"] (ou_ K):=by
 refine T.X_without_first.F.ok cm_ (fun vs H Q E h=> ?_) (fun cdv A outer s H vs Q E hr h=> ?_)
 ·obtain⟨_,_,_,_,rfl,_⟩:=h
  rfl
 ·obtain⟨v,u,m,wt,rfl,hv,hu,hl,hm,kk⟩:=h
  refine⟨_,(ac_ (ap_ (i:=2) cm_.nd rfl (by trivial) (dE_ PySem.F.plainAttrs_list PySem.F.slot_list_index PySem.F.type_list_index (jG_ hr) (pv 0) (aa_ (pv 1) ab_)))
   (af_ (au_ (ao_ cf_ (cd_ c6_ (pv 0) db_ (cE_ (pv 2))) (cd_ c6_ (pv 0) (cE_ (ao_ aO_ (pv 2) ad_)) db_))))), ?_⟩
  obtain⟨wa,wvs,rfl,hwa,hwi⟩:=bm_ hu
  have wlen:wvs.length=wt.length:=by rw [hwi.length,List.length_map]
  have jl:wt.idxOf m<wt.length:=List.idxOf_lt_length_iff.mpr hm
  have gj:∀i,i<wt.length→wt.getD i (0,0,0)=wt[i]! :=fun i h=>by rw [List.getD_eq_getElem?_getD,List.getElem?_eq_getElem h];simp [h]
  refine⟨_,rfl, .inl ⟨rfl,_,SqL.of hwa⟩,_,rfl,wa,wvs,v,1,_,wt.idxOf m,rfl,rfl,SqL.of hwa,by omega,i6_ hwi hv,by omega, ?_,fun i hi=> ?_, ?_⟩
  ·rw [decide_eq_true_eq,List.getD_eq_getElem?_getD,List.getElem?_eq_getElem jl]
   exact List.getElem_idxOf jl
  ·have hil:i<wt.length:=by omega
   rw [decide_eq_false_iff_not,List.getD_eq_getElem?_getD,List.getElem?_eq_getElem hil]
   intro e
   have:=List.not_of_lt_findIdx (p:=(· ==m)) (xs:=wt) (show i<wt.findIdx (· ==m) from hi)
   simp at e
   simp [e] at this
  generalize hj:wt.idxOf m=j at jl
  refine⟨_,rfl,_,rfl,(j:Int),rfl,wa,_,rfl,SqL.of hwa, ?_⟩
  rw [ea_]
  intro l2 n2
  have s2:al_ H (upd H l2 (.lst (wvs.take j))):=al_.new n2
  have h2:(upd H l2 (.lst (wvs.take j))) l2=some (.lst (wvs.take j)):=ae_
  generalize upd H l2 (.lst (wvs.take j))=H2 at s2 h2⊢
  refine⟨_,rfl,_,rfl,_,_,rfl,rfl,(j:Int)+1,rfl,wa,_,rfl,SqL.of (s2 _ _ hwa), ?_⟩
  rw [show((j:Int)+1)=((j+1:Nat):Int) by omega,eJ_ (by omega)]
  intro l3 n3
  have s3:al_ H2 (upd H2 l3 (.lst (wvs.drop (j+1)))):=al_.new n3
  have h3:(upd H2 l3 (.lst (wvs.drop (j+1)))) l3=some (.lst (wvs.drop (j+1))):=ae_
  generalize upd H2 l3 (.lst (wvs.drop (j+1)))=H3 at s3 h3⊢
  have s03:al_ H H3:=s2.trans s3
  have i2:Is H3 (lfs (wt.take j)) (.ref l2):=bJ_ (s3 _ _ h2) (by rw [List.map_take];exact(hwi.take j).mono s03)
  have i3:Is H3 (lfs (wt.drop (j+1))) (.ref l3):=bJ_ h3 (by rw [List.map_drop];exact(hwi.drop (j+1)).mono s03)
  refine⟨_,_,i2,i3,Nat.le_of_lt (ak_ (by rw [List.length_map,List.length_map,List.length_take,List.length_drop];omega)),fun q4 H4 n4 s4 h4=> ?_⟩
  rw [←List.map_append,←hj,←ke_] at h4
  exact kk q4 H4 (s03.trans s4) (s03.free n4) h4
theorem gp_:∀n:Nat,FnOk P w K mg base CX0 (n+2) T.f_orders T.d_orders ["floor","waiting"] (oz_ n K)
 |0=>⟨fun vs H Q E h=>(by obtain⟨_,_,_,_,_,h,_⟩:=h;exact absurd h (Nat.not_lt_zero _)),fun A outer s H args us vs Q E _ _ _ _ h=>(by obtain⟨_,_,_,_,_,h,_⟩:=h;exact absurd h (Nat.not_lt_zero _))⟩
 |n+1=>by
  have ih:=gp_ n
  refine T.X_orders.F.ok cu_ (fun vs H Q E h=> ?_) (fun cdv A outer s H vs Q E hr h=> ?_)
  ·obtain⟨_,_,_,rfl,_⟩:=h
   rfl
  ·obtain⟨u,f,wt,rfl,hu,hwl,hn,hlen,kk⟩:=h
   refine⟨_,(ac_ (a8_ (cC_ (kR_ (pv 1) (fun _=>rfl))) (af_ (au_ (aI_ (aa_ (aI_ ab_) ab_)))) aE_)
   (ac_ (ap_ (i:=2) cu_.nd rfl (by trivial) (aI_ ab_))
   (ac_ (aX_ PassesOwn.never rfl (aN_ (l5_ (nP_ hr) hr.hd (by rfl) T.n_sorted (by rfl) T.n_set (aa_ (pv 1) ab_))) (am_ (i:=3) cu_.nd rfl (by trivial)) (af_ (a8_ (cZ_ (ai_ (dS_ T) (hr.mono (by omega)) (by rfl) T.X_may_stand.m T.X_may_stand.F.kp T.X_may_stand.B .nil aw_ (aa_ (pv 3) (aa_ (pv 0) (aa_ (pv 1) ab_))))) (ac_ (ap_ (i:=4) cu_.nd rfl (by trivial) (kU_ (aq_ ce_ (aK_ aD_ (pv 3) ad_ (fun _ _=>rfl)) (aK_ aD_ (pv 3) ad_ (fun _ _=>rfl)) (ax_ _)) (ao_ aO_ (pv 0) ad_) (pv 0)))
   (af_ (aX_ PassesOwn.never rfl (aN_ (ai_ ih hr (by rfl) T.X_orders.m T.X_orders.F.kp T.X_orders.B .nil aw_ (aa_ (pv 4) (aa_ (ai_ (co_ T) (hr.mono (by omega)) (by rfl) T.X_without_first.m T.X_without_first.F.kp T.X_without_first.B .nil aw_ (aa_ (pv 1) (aa_ (pv 3) ab_))) ab_)))) (am_ (i:=5) cu_.nd rfl (by trivial)) (af_ (aM_ (dE_ PySem.F.plainAttrs_list PySem.F.slot_list_append PySem.F.type_list_append by_ (pv 2) (aa_ (ao_ cf_ (aI_ (aa_ (pv 3) ab_)) (pv 5)) ab_))))))) aE_)))
   (af_ (au_ (pv 2)))))), ?_⟩
   obtain⟨wa,wvs,rfl,hwa,hwi⟩:=bm_ hu
   have wlen:wvs.length=wt.length:=by rw [hwi.length,List.length_map]
   refine⟨_,rfl, !wvs.isEmpty,Or.inl ⟨wvs,SqL.of hwa,rfl⟩, ?_⟩
   cases wvs with
   |nil=>
    refine cV_ ?_
    have hw:wt=[]:=List.length_eq_zero_iff.mp (by rw [←wlen];rfl)
    subst hw
    refine⟨Nat.zero_le _,fun e0 H1 ne s1 he=>⟨(by show 1≤sizeLine;decide),fun fo H2 nf s2 hfo=> ?_⟩⟩
    exact kk fo H2 (s1.trans s2) (s1.free nf) (bJ_ (by rw [cp_ (s1.free nf)];exact hfo) (ag_ (bJ_ (vs:=[]) (by rw [cp_ ne];exact s2 _ _ he) aj_) aj_))
   |cons w0 wr=>
   refine cW_ ?_
   have hk:wt.length=wr.length+1:=by rw [←wlen];rfl
   generalize w0::wr=wvs at*
   generalize wr.length=k at hk
   rw [hk] at hlen kk
   rw [show d6_ (k+1) f wt=(i2_ wt).flatMap fun m=>if dU_ m f wt then(d6_ k (nxt m f) (wt.erase m)).map (m:: ·) else [] from rfl] at hlen kk
   refine⟨Nat.zero_le _,fun fo H1 nfH s1 hfo=> ?_⟩
   refine⟨_,rfl, .ref wa,wt.map bG_,3,rfl,by rw [←bc_];exact hu.mono s1,by decide,cb_,by rw [List.length_map];omega,fun yss l0 H2 nd mem so nl0 s2 hq=> ?_⟩
   have ey:=lQ_ nd mem so
   subst ey
   rw [←bc_] at hq
   have hS:∀m∈i2_ wt,m∈wt:=fun m hm=>dj_.mp hm
   clear nd mem so
   generalize i2_ wt=S at hlen kk hq hS
   obtain⟨_,lvs,e,hl2,hli⟩:=bm_ hq
   cases e
   have s02:=s1.trans s2
   have hfo2:=s2 _ _ hfo
   have l0fo:l0≠fo:=by rintro rfl;rw [hfo] at nl0;cases nl0
   have llen:lvs.length=S.length:=by rw [hli.length,List.length_map]
   refine⟨l0,rfl,⟨_,SqL.of hl2⟩,aY_ (xs:=lvs) (fun i σ H3=>(∃v3 v4 v5,σ=[some (.int f),some (.ref wa),some (.ref fo),v3,v4,v5])∧al_ H H3∧But fo H2 H3∧Acc H H3 fo (((S.take i).flatMap fun m=>if dU_ m f wt then(d6_ k (nxt m f) (wt.erase m)).map (m:: ·) else []).map lfs)) ⟨⟨none,none,none,rfl⟩,s02,fun _ _ e _=>e,Acc.start hfo2⟩ (fun i σ H3 _ h=>SqL.of (h.2.2.1 _ _ hl2 l0fo)) ?_ ?_⟩
   ·rintro i y σ H3 hi ⟨⟨v3,v4,v5,rfl⟩,s3,but3,hacc3⟩
    obtain⟨dd,hdd,hy⟩:=hli.of_get hi
    rw [List.getElem?_map] at hdd
    obtain⟨x,hx',rfl⟩:=Option.map_eq_some_iff.mp hdd
    have hx3:Is H3 (lf x) y:=by
     obtain⟨t,rfl,ht⟩:=dq_ hy
     exact cj_ (but3 _ _ ht (by rintro rfl;rw [hfo2] at ht;cases ht))
    have hxm:x∈wt:=hS x (List.mem_of_getElem? hx')
    have tk:((S.take (i+1)).flatMap fun m=>if dU_ m f wt then(d6_ k (nxt m f) (wt.erase m)).map (m:: ·) else [])=((S.take i).flatMap fun m=>if dU_ m f wt then(d6_ k (nxt m f) (wt.erase m)).map (m:: ·) else [])++(if dU_ x f wt then(d6_ k (nxt x f) (wt.erase x)).map (x:: ·) else []):=by
     rw [List.take_add_one,hx',List.flatMap_append]
     simp
    have pre:((S.take i).flatMap fun m=>if dU_ m f wt then(d6_ k (nxt m f) (wt.erase m)).map (m:: ·) else []).length+(if dU_ x f wt then(d6_ k (nxt x f) (wt.erase x)).map (x:: ·) else []).length≤900:=by
     have:((S.take (i+1)).flatMap fun m=>if dU_ m f wt then(d6_ k (nxt m f) (wt.erase m)).map (m:: ·) else []).length≤(S.flatMap fun m=>if dU_ m f wt then(d6_ k (nxt m f) (wt.erase m)).map (m:: ·) else []).length:=by
      conv=>rhs;rw [←List.take_append_drop (i+1) S]
      rw [List.flatMap_append,List.length_append]
      omega
     rw [tk,List.length_append] at this
     omega
    rw [tk]
    generalize ((S.take i).flatMap fun m=>if dU_ m f wt then(d6_ k (nxt m f) (wt.erase m)).map (m:: ·) else [])=pr at hacc3 pre⊢
    refine⟨_,rfl,_,rfl,_,rfl,y, .ref wa,x,f,wt,rfl,hx3,hu.mono s3,by omega,fun H4 s4=>⟨_,rfl, ?_⟩⟩
    have s04:=s3.trans s4
    have but4:But fo H2 H4:=but3.trans (But.of_same s4)
    cases hms:dU_ x f wt with
    |false=>
     refine cW_ ⟨⟨_,_,_,rfl⟩,s04,but4, ?_⟩
     rw [if_neg (by simp),List.append_nil]
     exact hacc3.mono s4
    |true=>
     rw [hms,if_pos rfl,List.length_map] at pre
     rw [if_pos rfl]
     have hx4:=hx3.mono s4
     have elen:(wt.erase x).length=k:=by rw [List.length_erase_of_mem hxm];omega
     have items:∀r∈d6_ k (nxt x f) (wt.erase x),r.length≤20:=fun r hr=>by
      have:=(h8_ elen r hr).length_eq
      omega
     refine cV_ ⟨_,rfl,_,0,_,hx4,rfl,rfl,fun u1 hu1=> ?_⟩
     rw [dg_ hu1]
     refine⟨_,rfl,_,1,_,hx4,rfl,rfl,fun u2 hu2=> ?_⟩
     rw [dg_ hu2]
     refine⟨rfl,_,rfl,g9_ (fun ef=>⟨_,rfl,_,_,rfl,rfl, ?_⟩) (fun ef=>⟨_,rfl, ?_⟩)⟩
     ·have hF:nxt x f=f+1:=if_pos ef
      rw [hF] at pre items⊢
      obtain⟨vs3,hfo3,hi3⟩:=id hacc3
      have hfo4:=s4 _ _ hfo3
      refine⟨_,rfl,_,rfl,_,rfl,y, .ref wa,x,wt,rfl,hx4,hu.mono s04,by omega,hxm,fun wl H5 s5 nwl hwl=> ?_⟩
      refine⟨.ref wl,_,wt.erase x,rfl,hwl,by omega,by omega,by rw [elen];omega,fun rl H6 s6 nrl hrl=> ?_⟩
      rw [elen] at hrl
      obtain⟨_,rvs,e,hrl',hri⟩:=bm_ hrl
      cases e
      have hrl6:H6 rl=some (.lst rvs):=aJ_ _ _ hrl'
      have hfo5:=s5 _ _ hfo4
      have hfo6:=s6 _ _ hfo5
      have rlfo:rl≠fo:=by rintro rfl;rw [hfo5] at nrl;cases nrl
      generalize d6_ k (f+1) (wt.erase x)=O at pre items hri hrl⊢
      have rlen:rvs.length=O.length:=by rw [hri.length,List.length_map]
      have hriH:Iss (hid H6 fo) (O.map lfs) rvs:=(hri.mono (c1_ (al_.refl H5) hfo5)).mono (aA_ aJ_)
      have s06:=(s04.trans s5).trans s6
      have but6:But fo H2 H6:=but4.trans (But.of_same (s5.trans s6))
      refine⟨rl,rfl,⟨_,SqL.of hrl6⟩,aY_ (xs:=rvs) (fun j σ H7=>(∃v7,σ=[some (.int f),some (.ref wa),some (.ref fo),some y,some (.int (f+1)),v7])∧al_ H H7∧But fo H6 H7∧Acc H H7 fo ((pr++(O.take j).map (x:: ·)).map lfs)) ⟨⟨_,rfl⟩,s06,fun _ _ e _=>e,by simpa using hacc3.mono ((s4.trans s5).trans s6)⟩ (fun j σ H7 _ h=>SqL.of (h.2.2.1 _ _ hrl6 rlfo)) ?_ ?_⟩
      ·rintro j z σ H7 hj ⟨⟨v7,rfl⟩,s7,but7,vs7,hfo7,hi7⟩
       obtain⟨dd,hdd,hz⟩:=hriH.of_get hj
       rw [List.getElem?_map] at hdd
       obtain⟨r,hr',rfl⟩:=Option.map_eq_some_iff.mp hdd
       have hjl:j<O.length:=(List.getElem?_eq_some_iff.mp hr').1
       have hz7:Is H7 (lfs r) z:=hz.mono (eE_ but7)
       have hx7:Is H7 (lf x) y:=by
        obtain⟨t,rfl,ht⟩:=dq_ hx4
        exact cj_ (but7 _ _ (s6 _ _ (s5 _ _ ht)) (by rintro rfl;rw [hfo4] at ht;cases ht))
       have rl1:=items r (List.mem_of_getElem? hr')
       have vl:vs7.length≤900:=by
        rw [hi7.length,List.length_map,List.length_append,List.length_map,List.length_take]
        omega
       refine⟨_,rfl, .inl ⟨rfl,_,SqL.of hfo7⟩,_,rfl,(by show 1≤sizeLine;decide),fun q1 H8 n8 s8 h8=>⟨_,rfl,[lf x],r.map lf,bJ_ h8 (ag_ (hx7.mono s8) aj_),hz7.mono s8,Nat.le_of_lt (ak_ (by rw [List.length_map];show 1+r.length≤1000;omega)),fun q2 H9 n9 s9 h9=> ?_⟩⟩
       have s79:=s8.trans s9
       refine⟨fo,vs7,_,rfl,rfl,s79 _ _ hfo7,ak_ (by omega),⟨_,rfl⟩,(s7.trans s79).put nfH,but7.trans ((But.of_same s79).trans But.upd), ?_⟩
       rw [List.take_add_one,hr']
       have:=Acc.add s7 s79 hfo7 hi7 (cK_ (ps:=x::r) s79 (s8.free n9) h9)
       simpa using this
      ·rintro σ H7 ⟨⟨v7,rfl⟩,s7,but7,hacc7⟩
       refine⟨⟨_,_,_,rfl⟩,s7,but6.trans but7, ?_⟩
       rw [rlen,List.take_length] at hacc7
       exact hacc7
     ·have hF:nxt x f=f:=if_neg ef
      rw [hF] at pre items⊢
      obtain⟨vs3,hfo3,hi3⟩:=id hacc3
      have hfo4:=s4 _ _ hfo3
      refine⟨_,rfl,_,rfl,_,rfl,y, .ref wa,x,wt,rfl,hx4,hu.mono s04,by omega,hxm,fun wl H5 s5 nwl hwl=> ?_⟩
      refine⟨.ref wl,_,wt.erase x,rfl,hwl,by omega,by omega,by rw [elen];omega,fun rl H6 s6 nrl hrl=> ?_⟩
      rw [elen] at hrl
      obtain⟨_,rvs,e,hrl',hri⟩:=bm_ hrl
      cases e
      have hrl6:H6 rl=some (.lst rvs):=aJ_ _ _ hrl'
      have hfo5:=s5 _ _ hfo4
      have hfo6:=s6 _ _ hfo5
      have rlfo:rl≠fo:=by rintro rfl;rw [hfo5] at nrl;cases nrl
      generalize d6_ k f (wt.erase x)=O at pre items hri hrl⊢
      have rlen:rvs.length=O.length:=by rw [hri.length,List.length_map]
      have hriH:Iss (hid H6 fo) (O.map lfs) rvs:=(hri.mono (c1_ (al_.refl H5) hfo5)).mono (aA_ aJ_)
      have s06:=(s04.trans s5).trans s6
      have but6:But fo H2 H6:=but4.trans (But.of_same (s5.trans s6))
      refine⟨rl,rfl,⟨_,SqL.of hrl6⟩,aY_ (xs:=rvs) (fun j σ H7=>(∃v7,σ=[some (.int f),some (.ref wa),some (.ref fo),some y,some (.int f),v7])∧al_ H H7∧But fo H6 H7∧Acc H H7 fo ((pr++(O.take j).map (x:: ·)).map lfs)) ⟨⟨_,rfl⟩,s06,fun _ _ e _=>e,by simpa using hacc3.mono ((s4.trans s5).trans s6)⟩ (fun j σ H7 _ h=>SqL.of (h.2.2.1 _ _ hrl6 rlfo)) ?_ ?_⟩
      ·rintro j z σ H7 hj ⟨⟨v7,rfl⟩,s7,but7,vs7,hfo7,hi7⟩
       obtain⟨dd,hdd,hz⟩:=hriH.of_get hj
       rw [List.getElem?_map] at hdd
       obtain⟨r,hr',rfl⟩:=Option.map_eq_some_iff.mp hdd
       have hjl:j<O.length:=(List.getElem?_eq_some_iff.mp hr').1
       have hz7:Is H7 (lfs r) z:=hz.mono (eE_ but7)
       have hx7:Is H7 (lf x) y:=by
        obtain⟨t,rfl,ht⟩:=dq_ hx4
        exact cj_ (but7 _ _ (s6 _ _ (s5 _ _ ht)) (by rintro rfl;rw [hfo4] at ht;cases ht))
       have rl1:=items r (List.mem_of_getElem? hr')
       have vl:vs7.length≤900:=by
        rw [hi7.length,List.length_map,List.length_append,List.length_map,List.length_take]
        omega
       refine⟨_,rfl, .inl ⟨rfl,_,SqL.of hfo7⟩,_,rfl,(by show 1≤sizeLine;decide),fun q1 H8 n8 s8 h8=>⟨_,rfl,[lf x],r.map lf,bJ_ h8 (ag_ (hx7.mono s8) aj_),hz7.mono s8,Nat.le_of_lt (ak_ (by rw [List.length_map];show 1+r.length≤1000;omega)),fun q2 H9 n9 s9 h9=> ?_⟩⟩
       have s79:=s8.trans s9
       refine⟨fo,vs7,_,rfl,rfl,s79 _ _ hfo7,ak_ (by omega),⟨_,rfl⟩,(s7.trans s79).put nfH,but7.trans ((But.of_same s79).trans But.upd), ?_⟩
       rw [List.take_add_one,hr']
       have:=Acc.add s7 s79 hfo7 hi7 (cK_ (ps:=x::r) s79 (s8.free n9) h9)
       simpa using this
      ·rintro σ H7 ⟨⟨v7,rfl⟩,s7,but7,hacc7⟩
       refine⟨⟨_,_,_,rfl⟩,s7,but6.trans but7, ?_⟩
       rw [rlen,List.take_length] at hacc7
       exact hacc7
   ·rintro σ H3 ⟨⟨v3,v4,v5,rfl⟩,s3,_,hacc⟩
    rw [llen,List.take_length] at hacc
    exact⟨_,rfl,kk fo H3 s3 nfH (hacc.is nfH)⟩
theorem dT_:FnOk P w K mg base CX0 6 T.f_all_marks T.d_all_marks ["d","drawing"] (oM_ K):=by
 refine T.X_all_marks.F.ok gi_ (fun vs H Q E h=> ?_) (fun cdv A outer s H vs Q E hr h=> ?_)
 ·obtain⟨_,_,_,rfl,_⟩:=h
  rfl
 ·obtain⟨n,dv,ps,rfl,n1,n5,hd,hs,hlen,kk⟩:=h
  refine⟨_,(af_ (au_ (ao_ cf_ (ao_ cf_ (bH_ (XN:=["d","drawing"]) (sc:=ah_ ca_) (N:=["floor"]) (own:=1) (js:=[]) rfl (by decide+kernel) rfl rfl (b3_ (by rfl) T.n_range (aa_ ad_ (aa_ (ao_ aO_ (pv 0) ad_) ab_))) (fun _ _ _ _=>(am_ (i:=0) (show List.Nodup (["floor"]:List Str) by decide+kernel) rfl (Or.inl rfl) (.inr rfl))) (a0_ (by decide)) (fun _ _ _ _=>bR_) (fun _ _ _ _=>(aH_ (aa_ (pv 0) (aa_ (pv 0) (aa_ ad_ ab_)))))) (pv 1)) (ai_ (gq_ T) (hr.mono (by decide)) (by rfl) T.X_end_marks.m T.X_end_marks.F.kp T.X_end_marks.B .nil aw_ (aa_ (pv 0) (aa_ (pv 1) ab_)))))), ?_⟩
  rw [ga_] at hlen
  refine⟨_,rfl,_,_,rfl,rfl,1,_,rfl,⟨by omega,by omega,by omega,by omega⟩,fun acc na=> ?_⟩
  rw [show((n:Int)+1-1).toNat=n by omega]
  refine ff_ (lo:=1) (n:=n) (own:=1) (js:=[]) (fun i H4=>al_ H H4∧∃vs,H4 acc=some (.lst vs)∧Iss H4 ((f0_ i).map lf) vs) ⟨al_.new na,[],ae_,aj_⟩ ?_ ?_ a1_ bS_ ?_
  ·rintro i H4 hi ⟨s4,vs,hacc,hi4⟩
   have vl:vs.length≤10:=by rw [hi4.length];unfold f0_;simp;omega
   refine lk_ ?_
   refine⟨_,rfl,_,rfl,(by show 3≤sizeLine;decide),fun t H5 nt s5 ht=> ?_⟩
   refine⟨acc,vs,_,rfl,rfl,s5 _ _ hacc,ak_ (by omega),(s4.trans s5).put na,_,ae_, ?_⟩
   have:f0_ (i+1)=f0_ i++[(1+(i:Int),1+(i:Int),0)]:=by unfold f0_;rw [List.range_succ,List.map_append];rfl
   rw [this,List.map_append]
   exact(dW_ s5 hacc hi4).append (dW_ (qs:=[(1+(i:Int),1+(i:Int),0)]) (al_.refl H5) (s5 _ _ hacc) (ag_ (cj_ ht) aj_))
  ·rintro H1 ⟨s1,vs1,hacc,hi1⟩
   refine⟨_,rfl,_,_,bJ_ hacc hi1,hd.mono s1,Nat.le_of_lt (ak_ (by rw [List.length_map,List.length_map];unfold f0_;simp;omega)),fun l2 H2 n2 s2 h2=> ?_⟩
   rw [←List.map_append] at h2
   refine⟨_,rfl,_,rfl,n,dv,ps,rfl,n1,n5,(hd.mono s1).mono s2,hs,by omega,fun l3 H3 s3 n3 h3=> ?_⟩
   refine⟨_,_,h2.mono s3,h3,Nat.le_of_lt (ak_ (by rw [List.length_map,List.length_map];unfold f0_;simp;omega)),fun l4 H4 n4 s4 h4=> ?_⟩
   rw [←List.map_append] at h4
   exact kk l4 H4 (((s1.trans s2).trans s3).trans s4) (((s1.trans s2).trans s3).free n4) h4
  ·rintro σ H R R' k ⟨v1,e1,v2,e2,h1,h⟩
   exact⟨v1,e1,v2,e2,h1,fun t H2 nt s2 ht=>k _ _ (h t H2 nt s2 ht)⟩
theorem hr_:FnOk P w K mg base CX0 24 T.f_markings T.d_markings ["d","drawing"] (oC_ K):=by
 refine T.X_markings.F.ok hf_ (fun vs H Q E h=> ?_) (fun cdv A outer s H vs Q E hr h=> ?_)
 ·obtain⟨_,_,_,rfl,_⟩:=h
  rfl
 ·obtain⟨n,dv,ps,rfl,n1,n5,hd,hs,cl,ca,kk⟩:=h
  refine⟨_,(ac_ (aM_ (ai_ (fx_ T) (hr.mono (by decide)) (by rfl) T.X_need_sound.m T.X_need_sound.F.kp T.X_need_sound.B .nil aw_ (aa_ (pv 0) (aa_ (pv 1) ab_))))
   (af_ (au_ (ai_ (gp_ T 21) (hr.mono (by decide)) (by rfl) T.X_orders.m T.X_orders.F.kp T.X_orders.B .nil aw_ (aa_ ad_ (aa_ (ai_ (dT_ T) (hr.mono (by decide)) (by rfl) T.X_all_marks.m T.X_all_marks.F.kp T.X_all_marks.B .nil aw_ (aa_ (pv 0) (aa_ (pv 1) ab_))) ab_)))))), ?_⟩
  refine⟨_,rfl,_,rfl,n,dv,ps,rfl,n1,n5,hd,hs,fun H1 s1=> ?_⟩
  refine⟨_,rfl,_,rfl,n,dv,ps,rfl,n1,n5,hd.mono s1,hs,ca,fun l H2 s2 nl hl=> ?_⟩
  refine⟨.ref l,0,dy_ n ps,rfl,hl,by omega,by decide,cl,fun l3 H3 s3 n3 h3=> ?_⟩
  exact kk l3 H3 ((s1.trans s2).trans s3) ((s1.trans s2).free n3) (h3.mono (fD_ (s1.trans s2)))
theorem kZ_:FnOk P w K mg base CX0 1 T.f_worth T.d_worth ["drawing"] (lS_ K):=by
 refine T.X_worth.F.ok d4_ (fun vs H Q E h=> ?_) (fun cdv A outer s H vs Q E hr h=> ?_)
 ·obtain⟨_,_,_,rfl,_⟩:=h
  rfl
 ·obtain⟨dv,ps,d,rfl,hd,hok,kk⟩:=h
  refine⟨_,(ac_ (ap_ (i:=1) d4_.nd rfl (by trivial) ad_)
   (ac_ (aX_ PassesOwn.never rfl (aN_ (pv 0)) (am_ (i:=2) d4_.nd rfl (by trivial)) (af_ (jp_ (i:=1) d4_.nd rfl (by trivial) (ao_ jB_ (aK_ aD_ (pv 2) ad_ (fun _ _=>rfl)) ad_) mw_)))
   (af_ (au_ (pv 1))))), ?_⟩
  obtain⟨da,dvs,rfl,hda,hdi⟩:=bm_ hd
  have dlen:dvs.length=ps.length:=by rw [hdi.length,List.length_map]
  refine⟨_,rfl,da,rfl,⟨_,SqL.of hda⟩,aY_ (xs:=dvs) (fun i σ H2=>(∃v2,σ=[some (.ref da),some (.int (ct_ (ps.take i))),v2])∧H2=H) ⟨⟨none,rfl⟩,rfl⟩ (fun i σ H2 _ h=>by rw [h.2];exact SqL.of hda) ?_ ?_⟩
  ·rintro i x σ H2 hi ⟨⟨v2,rfl⟩,rfl⟩
   obtain⟨dd,hdd,hy⟩:=hdi.of_get hi
   rw [List.getElem?_map] at hdd
   obtain⟨p,hp',rfl⟩:=Option.map_eq_some_iff.mp hdd
   obtain⟨_,w1,w2⟩:=hok p (List.mem_of_getElem? hp')
   have b1:p.2.2.natAbs<2^64:=by omega
   have b2:p.2.2^(2:Int).toNat<2^64:=by
    show p.2.2^2<2^64
    have:p.2.2*p.2.2≤2^20*2^20:=Int.mul_le_mul w2 w2 (by omega) (by decide)
    rw [Int.pow_succ,Int.pow_succ,Int.pow_zero,Int.one_mul]
    omega
   have b3: -(2^64)<p.2.2^(2:Int).toNat:=by
    show _<p.2.2^2
    have h0:0≤p.2.2*p.2.2:=Int.mul_nonneg (by omega) (by omega)
    have h1:p.2.2^2=p.2.2*p.2.2:=by rw [Int.pow_succ,Int.pow_succ,Int.pow_zero,Int.one_mul]
    rw [h1]
    omega
   refine⟨_,rfl,_,rfl,_,2,_,hy,rfl,rfl,fun u hu=> ?_⟩
   rw [dg_ hu]
   refine⟨_,_,rfl,rfl,⟨by decide,by decide,b1⟩,_,_,rfl,rfl, .inr ⟨b3,b2⟩,⟨some x, ?_⟩,rfl⟩
   rw [List.take_add_one,hp']
   unfold ct_
   rw [List.foldl_append]
   rfl
  ·rintro σ H2 ⟨⟨v2,rfl⟩,rfl⟩
   rw [dlen,List.take_length]
   exact⟨_,rfl,kk⟩
theorem k0_:FnOk P w K mg base CX0 25 T.f_paper T.d_paper ["d","k"] (oy_ K):=by
 refine T.X_paper.F.ok fi_ (fun vs H Q E h=> ?_) (fun cdv A outer s H vs Q E hr h=> ?_)
 ·obtain⟨_,_,rfl,_⟩:=h
  rfl
 ·obtain⟨d,k,rfl,hP,kk⟩:=h
  refine⟨_,(ac_ (aM_ (ai_ (cH_ T) (hr.mono (by decide)) (by rfl) T.X_need_wide.m T.X_need_wide.F.kp T.X_need_wide.B .nil aw_ (aa_ (pv 0) (aa_ (pv 1) ab_))))
   (ac_ (a8_ (aq_ ce_ (pv 0) ad_ (ax_ _)) (af_ (aM_ (ai_ (bl_ T) (hr.mono (by decide)) (by rfl) T.X_need_between.m T.X_need_between.F.kp T.X_need_between.B .nil aw_ (aa_ (pv 1) (aa_ ad_ (aa_ ad_ ab_)))))) aE_)
   (ac_ (ap_ (i:=2) fi_.nd rfl (by trivial) (aI_ ab_))
   (ac_ (aX_ PassesOwn.never rfl (aN_ (ai_ (ht_ T) (hr.mono (by decide)) (by rfl) T.X_drawings.m T.X_drawings.F.kp T.X_drawings.B .nil aw_ (aa_ (pv 0) (aa_ (pv 1) ab_)))) (am_ (i:=3) fi_.nd rfl (by trivial)) (af_ (aM_ (dE_ PySem.F.plainAttrs_list PySem.F.slot_list_extend PySem.F.type_list_extend ex_ (pv 2) (aa_ (bH_ (XN:=["d","k","found","drawing"]) (sc:=ah_ fm_) (N:=["marking","drawing"]) (own:=1) (js:=[3]) rfl (by decide+kernel) rfl rfl (aN_ (ai_ (hr_ T) (hr.mono (by decide)) (by rfl) T.X_markings.m T.X_markings.F.kp T.X_markings.B .nil aw_ (aa_ (pv 0) (aa_ (pv 3) ab_)))) (fun _ _ _ _=>(am_ (i:=0) (show List.Nodup (["marking","drawing"]:List Str) by decide+kernel) rfl (Or.inl rfl) (.inr rfl))) (a0_ (by decide)) (fun _ _ _ _=>bR_) (fun _ _ _ _=>(aH_ (aa_ (aR_ aG_ (by rfl) T.n_list boot_list (aa_ (pv 1) ab_)) (aa_ (pv 0) ab_))))) ab_)))))
   (af_ (au_ (pv 2))))))), ?_⟩
  have hW:=hP.wide
  have bt:=iG_ hP
  have d15:1≤d∧d≤5:=by unfold Wide at hW;omega
  refine⟨_,rfl,_,rfl,d,k,rfl,hW, ?_⟩
  refine⟨_,rfl,rfl,_,rfl,g9_ (fun e=>⟨_,rfl,(k:Int),0,1,rfl,by omega,by unfold P94 at hP;omega, ?r1⟩) (fun e=> ?r2)⟩
  case r1|r2=>
   refine⟨Nat.zero_le _,fun fo H1 nfo s1 hfo=> ?_⟩
   refine⟨_,rfl,_,rfl,d,k,rfl,hP,fun L l H2 hp s2 nl hl=> ?_⟩
   have tot:=jv_ bt hp
   obtain⟨_,lvs,e,hl',hli⟩:=bm_ hl
   cases e
   have hl2:H2 l=some (.lst lvs):=aJ_ _ _ hl'
   have llen:lvs.length=L.length:=by rw [hli.length,List.length_map]
   have lfo:l≠fo:=by rintro rfl;rw [hfo] at nl;cases nl
   have hliH:Iss (hid H2 fo) (L.map lfs) lvs:=(hli.mono (c1_ (al_.refl H1) hfo)).mono (aA_ aJ_)
   refine⟨l,rfl,⟨_,SqL.of hl2⟩,aY_ (xs:=lvs) (fun i σ H5=>(∃v3,σ=[some (.int d),some (.int k),some (.ref fo),v3])∧al_ H H5∧But fo H2 H5∧Acc H H5 fo ((hn_ d (L.take i)).map a2_)) ⟨⟨none,rfl⟩,s1.trans s2,fun _ _ e _=>e,Acc.start (s2 _ _ hfo)⟩ (fun i σ H5 _ h=>SqL.of (h.2.2.1 _ _ hl2 lfo)) ?_ ?_⟩
   ·rintro i y σ H5 hi ⟨⟨v3,rfl⟩,s5,but5,vs5,hfo5,hi5⟩
    obtain⟨dd,hdd,hy⟩:=hliH.of_get hi
    rw [List.getElem?_map] at hdd
    obtain⟨x,hx,rfl⟩:=Option.map_eq_some_iff.mp hdd
    have hy5:Is H5 (lfs x) y:=hy.mono (eE_ but5)
    obtain⟨o1,q2⟩:=bt.one x (hp.mem_iff.mp (List.mem_of_getElem? hx))
    have q3:=(dz_ o1 d15.1 d15.2).1
    have tk:hn_ d (L.take (i+1))=hn_ d (L.take i)++(ie_ d x).map fun m=>(x,m):=by
     unfold hn_
     rw [List.take_add_one,hx,List.flatMap_append]
     simp
    have tl:(hn_ d (L.take (i+1))).length≤900:=by
     refine Nat.le_trans ?_ tot
     unfold hn_
     conv=>rhs;rw [←List.take_append_drop (i+1) L]
     rw [List.flatMap_append,List.length_append]
     omega
    rw [tk,List.length_append,List.length_map] at tl
    refine⟨_,rfl, .inl ⟨rfl,_,SqL.of hfo5⟩,_,rfl,_,rfl,d,y,x,rfl,d15.1,d15.2,hy5,o1,q2,q3,fun ml H6 s6 nml hml=> ?_⟩
    obtain⟨_,mvs,e,hml',hmi⟩:=bm_ hml
    cases e
    have hml6:H6 ml=some (.lst mvs):=aJ_ _ _ hml'
    have mlen:mvs.length=(ie_ d x).length:=by rw [hmi.length,List.length_map]
    refine⟨ml,rfl,⟨_,SqL.of hml6⟩,fun ac na=> ?_⟩
    refine bb_ (xs:=mvs) (own:=1) (js:=[3]) (fun j H7=>al_ H6 H7∧Acc H5 H7 ac ((((ie_ d x).take j).map fun m=>(x,m)).map a2_)) ⟨al_.new na,Acc.start ae_⟩ (fun j H7 _ h=>SqL.of (h.1 _ _ hml6)) ?_ ?_ a1_ bS_ ?_
    ·rintro j z H7 hj ⟨s7,vs7,hac7,hi7⟩
     obtain⟨dd,hdd,hz⟩:=hmi.of_get hj
     rw [List.getElem?_map] at hdd
     obtain⟨m,hm,rfl⟩:=Option.map_eq_some_iff.mp hdd
     have hjl:j<(ie_ d x).length:=(List.getElem?_eq_some_iff.mp hm).1
     have s57:=s6.trans s7
     have vl:vs7.length≤900:=by
      rw [hi7.length,List.length_map,List.length_map,List.length_take]
      omega
     refine lk_ ?_
     refine⟨_,rfl,y,x.map lf,rfl, .inl (hy5.mono s57),fun q H8 nq s8 hq=>⟨_,rfl,(by show 2≤sizeLine;decide),fun t H9 nt s9 ht=> ?_⟩⟩
     have s79:=s8.trans s9
     refine⟨ac,vs7,_,rfl,rfl,s79 _ _ hac7,ak_ (by omega),(s7.trans s79).put na,vs7++[.ref t],ae_, ?_⟩
     rw [b5_,List.take_add_one,hm,List.map_append,List.map_append]
     have tac:t≠ac:=by
      rintro rfl
      rw [s8 _ _ hac7] at nt
      cases nt
     refine(hi7.mono (aA_ (dc_ s79))).append (ag_ (iY_ (by rw [br_ tac,gt_ (s57.trans s79) ht]) (ag_ ((cK_ s79 nq (hq.mono s9)).mono (c1_ s57 hac7)) (ag_ (hz.mono (nB_ (s7.trans s79) na)) aj_))) aj_)
    ·rintro H7 ⟨s7,vs7,hac7,hi7⟩
     rw [mlen,List.take_length] at hi7
     have v7l:vs7.length=(ie_ d x).length:=by rw [hi7.length,List.length_map,List.length_map]
     have v5l:vs5.length=(hn_ d (L.take i)).length:=by rw [hi5.length,List.length_map]
     have s57:=s6.trans s7
     refine⟨fo,ac,vs5,vs7,rfl,rfl,s57 _ _ hfo5,hac7,Nat.le_of_lt (ak_ (by omega)),⟨_,rfl⟩,(s5.trans s57).put nfo,but5.trans ((But.of_same s57).trans But.upd), ?_⟩
     rw [tk,List.map_append]
     exact Acc.adds s5 s57 hfo5 hi5 (hi7.mono as_)
    ·rintro σ H R R' k' ⟨v1,e1,v2,xs2,e2,h2,kk2⟩
     refine⟨v1,e1,v2,xs2,e2,h2,fun q H8 nq s8 hq=> ?_⟩
     obtain⟨v3,e3,z3,kk3⟩:=kk2 q H8 nq s8 hq
     exact⟨v3,e3,z3,fun t H9 nt s9 ht=>k' _ _ (kk3 t H9 nt s9 ht)⟩
   ·rintro σ H5 ⟨⟨v3,rfl⟩,s5,but5,hacc⟩
    rw [llen,List.take_length] at hacc
    exact⟨_,rfl,kk L fo H5 hp s5 nfo (hacc.is nfo)⟩
theorem iR_:FnOk P w K mg base CX0 1 T.f_is_lift T.d_is_lift ["d","lift"] (oF_ K):=by
 refine T.X_is_lift.F.ok iO_ (fun vs H Q E h=> ?_) (fun cdv A outer s H vs Q E hr h=> ?_)
 ·obtain⟨_,_,_,rfl,_⟩:=h
  rfl
 ·obtain⟨d,v,p,rfl,hv,kk⟩:=h
  refine⟨_,(af_ (au_ (ep_ (ju_ fu_ go_ fu_ ad_ (aK_ aD_ (pv 1) ad_ (fun _ _=>rfl)) (aK_ aD_ (pv 1) ad_ (fun _ _=>rfl)) (pv 0)) (dR_ (bX_ md_ (aK_ aD_ (pv 1) ad_ (fun _ _=>rfl)) ad_ (ax_ _)))))), ?_⟩
  unfold n6_ at kk
  refine⟨_,rfl,_,0,_,hv,rfl,rfl,fun u1 h1=> ?_⟩
  rw [dg_ h1]
  refine⟨_,_,rfl,rfl,_,rfl,eS_ (fun a1=> ?_) (fun c=>⟨_,rfl,cW_ (by rw [decide_eq_false c] at kk;exact kk)⟩)⟩
  rw [decide_eq_true a1] at kk
  refine⟨_,rfl,_,1,_,hv,rfl,rfl,fun u2 h2=> ?_⟩
  rw [dg_ h2]
  refine⟨_,_,rfl,rfl,_,rfl,eS_ (fun a2=> ?_) (fun c=>⟨_,rfl,cW_ (by rw [decide_eq_false c] at kk;exact kk)⟩)⟩
  rw [decide_eq_true a2] at kk
  refine⟨_,rfl,_,_,rfl,rfl,_,rfl,eS_ (fun a3=> ?_) (fun c=>by rw [decide_eq_false c] at kk;exact kk)⟩
  rw [decide_eq_true a3] at kk
  refine⟨_,rfl,_,2,_,hv,rfl,rfl,fun u3 h3=> ?_⟩
  rw [dg_ h3]
  exact⟨_,_,rfl,rfl,kk⟩
theorem fB_:FnOk P w K mg base CX0 6 T.f_is_drawing T.d_is_drawing ["d","k","lifts"] (oG_ K):=by
 refine T.X_is_drawing.F.ok fk_ (fun vs H Q E h=> ?_) (fun cdv A outer s H vs Q E hr h=> ?_)
 ·obtain⟨_,_,_,_,rfl,_⟩:=h
  rfl
 ·obtain⟨d,k,v,x,rfl,d1,d5,k6,hv,x40,kk⟩:=h
  refine⟨_,(ac_ (a8_ (dY_ (aq_ kW_ (av_ b6_ (by rfl) T.n_len boot_len (aa_ (pv 2) ab_)) (ao_ a6_ (ao_ fv_ (ao_ cG_ (pv 0) (ao_ a6_ (pv 0) ad_)) ad_) (pv 1)) (ax_ _)) (dl_ (aq_ (gn_ hr) (pv 2) (av_ cT_ (by rfl) T.n_sorted boot_sorted (aa_ (pv 2) ab_)) (ax_ _)))).pt (af_ (au_ eo_)) aE_)
   (af_ (au_ (ep_ (av_ (lh_ rfl) (by rfl) T.n_all boot_all (aa_ (bH_ (XN:=["d","k","lifts"]) (sc:=ah_ bP_) (N:=["lift","d"]) (own:=1) (js:=[0]) rfl (by decide+kernel) rfl rfl (aN_ (pv 2)) (fun _ _ _ _=>(am_ (i:=0) (show List.Nodup (["lift","d"]:List Str) by decide+kernel) rfl (Or.inl rfl) (.inr rfl))) (a0_ (by decide)) (fun _ _ _ _=>bR_) (fun _ _ _ _=>(ai_ (iR_ T) (hr.mono (by decide)) (by rfl) T.X_is_lift.m T.X_is_lift.F.kp T.X_is_lift.B .nil aw_ (aa_ (pv 1) (aa_ (pv 0) ab_))))) ab_)) (dR_ (ai_ (ia_ T) (hr.mono (by decide)) (by rfl) T.X_sound.m T.X_sound.F.kp T.X_sound.B .nil aw_ (aa_ (pv 0) (aa_ (pv 2) ab_)))))))), ?_⟩
  have hh:=kb_ d1 d5
  have d20:d*(d-1)/2≤10:=by
   have:d=1∨d=2∨d=3∨d=4∨d=5:=by omega
   rcases this with rfl|rfl|rfl|rfl|rfl<;>decide
  obtain⟨da,dvs,rfl,hda,hdi⟩:=bm_ hv
  have dlen:dvs.length=x.length:=by rw [hdi.length,List.length_map]
  refine⟨_,rfl,_,_,rfl, .inl hv,_,rfl,_,rfl,_,_,rfl,rfl,_,_,rfl,rfl, .inr ⟨by omega,by omega⟩,_,_,rfl,rfl,⟨by decide,by decide⟩,_,rfl,_,_,rfl,rfl,rfl,_,rfl,la_ (fun h=> ?_) (fun h=> ?_)⟩
  ·refine cV_ (kk false H (al_.refl H) ⟨fun z=>(nomatch z),fun z=>absurd ?_ h⟩)
   rw [hh,List.length_map]
   omega
  have hx:x.length+k=d*(d-1)/2:=by
   rw [hh,List.length_map] at h
   omega
  refine⟨_,rfl,_,rfl,_,x.map bG_,3,rfl,by rw [←bc_];exact hv,by decide,cb_,by rw [List.length_map];omega,fun yss q H1 hp hasc nq s1 hq=> ?_⟩
  obtain⟨b,eb,hb⟩:=m7_ hp hasc (hv.mono s1) hq
  refine⟨2,b,eb,by decide,_,rfl, ?_⟩
  cases b with
  |false=>exact cV_ (kk false H1 s1 ⟨fun z=>(nomatch z),fun z=>hb.mpr z.2.so⟩)
  |true=>
  have so:Srt x:=hb.mp rfl
  refine cW_ ?_
  refine⟨_,rfl,da,rfl,⟨_,SqL.of (s1 _ _ hda)⟩,fun acc na=> ?_⟩
  refine bb_ (xs:=dvs) (own:=1) (js:=[0]) (fun j H5=>al_ H1 H5∧H5 acc=some (.lst (((x.take j).map (n6_ d)).map V.bl))) ⟨al_.new na,ae_⟩ (fun j H5 _ h=>SqL.of (h.1 _ _ (s1 _ _ hda))) ?_ ?_ a1_ bS_ ?_
  ·rintro j y H5 hj ⟨s5,hacc⟩
   obtain⟨dd,hdd,hy⟩:=hdi.of_get hj
   rw [List.getElem?_map] at hdd
   obtain⟨p,hp',rfl⟩:=Option.map_eq_some_iff.mp hdd
   refine lk_ ?_
   refine⟨_,rfl,_,rfl,d,y,p,rfl,(hy.mono s1).mono s5,acc,_,_,rfl,rfl,hacc,ak_ (by rw [List.length_map,List.length_map,List.length_take];omega),s5.put na, ?_⟩
   rw [ae_,List.take_add_one,hp',List.map_append,List.map_append]
   rfl
  ·rintro H5 ⟨s5,hacc⟩
   rw [dlen,List.take_length] at hacc
   refine⟨acc,x.map (n6_ d),rfl,SqL.of hacc,me_ d x, ?_, ?_⟩
   ·rw [List.all_map]
    rfl
   by_cases c:me_ d x=true
   ·rw [c]
    refine cV_ ⟨_,rfl,_,rfl,d, .ref da,x,rfl,d1,d5,(hv.mono s1).mono s5,fun p hp=> ?_,fun H6 s6=>kk _ H6 ((s1.trans s5).trans s6) ?_⟩
    ·have:=ch_.mp c p hp
     exact⟨by omega,by omega,by omega,by omega⟩
    ·rw [decide_eq_true_eq,←jd_ c so]
     exact⟨fun z=>⟨hx,z⟩,fun z=>z.2⟩
   ·rw [Bool.not_eq_true] at c
    rw [c]
    exact cW_ (kk false H5 (s1.trans s5) ⟨fun z=>(nomatch z),fun z=>by rw [ch_.mpr z.2.ok] at c;exact c.symm⟩)
  ·rintro σ H R R' k' ⟨v1,e1,v2,e2,n,u,p,e3,i1,h⟩
   exact⟨v1,e1,v2,e2,n,u,p,e3,i1,k' _ _ h⟩
theorem fA_:FnOk P w K mg base CX0 7 T.f_is_marking T.d_is_marking ["d","drawing","marks"] (nd_ K):=by
 refine T.X_is_marking.F.ok a4_ (fun vs H Q E h=> ?_) (fun cdv A outer s H vs Q E hr h=> ?_)
 ·obtain⟨_,_,_,_,_,rfl,_⟩:=h
  rfl
 ·obtain⟨d,v,u,x,m,rfl,d1,d5,hv,hu,hs,kk⟩:=h
  refine⟨_,(ac_ (ap_ (i:=3) a4_.nd rfl (by trivial) (ai_ (dT_ T) (hr.mono (by decide)) (by rfl) T.X_all_marks.m T.X_all_marks.F.kp T.X_all_marks.B .nil aw_ (aa_ (pv 0) (aa_ (pv 1) ab_))))
   (ac_ (ap_ (i:=4) a4_.nd rfl (by trivial) ad_)
   (ac_ (aX_ PassesOwn.never rfl (aN_ (pv 2)) (am_ (i:=5) a4_.nd rfl (by trivial)) (ac_ (a8_ (dY_ (aq_ (jC_ hr) (pv 5) (pv 3) rfl) (dl_ (cC_ (cZ_ (ai_ (dS_ T) (hr.mono (by decide)) (by rfl) T.X_may_stand.m T.X_may_stand.F.kp T.X_may_stand.B .nil aw_ (aa_ (pv 5) (aa_ (pv 4) (aa_ (pv 3) ab_)))))))).pt (af_ (au_ eo_)) aE_)
   (ac_ (a8_ (aq_ ce_ (aK_ aD_ (pv 5) ad_ (fun _ _=>rfl)) (aK_ aD_ (pv 5) ad_ (fun _ _=>rfl)) (ax_ _)) (af_ (jp_ (i:=4) a4_.nd rfl (by trivial) ad_ j5_)) aE_)
   (af_ (ap_ (i:=3) a4_.nd rfl (by trivial) (ai_ (co_ T) (hr.mono (by decide)) (by rfl) T.X_without_first.m T.X_without_first.F.kp T.X_without_first.B .nil aw_ (aa_ (pv 3) (aa_ (pv 5) ab_))))))))
   (af_ (au_ (l7_ (pv 3))))))), ?_⟩
  have al:=(dz_ hs d1 d5).1
  refine⟨_,rfl,_,rfl,d,v,x,rfl,d1,d5,hv,hs,al,fun w0 H1 s1 nw0 hw0=> ?_⟩
  obtain⟨ua,uvs,rfl,hua,hui⟩:=bm_ hu
  have ulen:uvs.length=m.length:=by rw [hui.length,List.length_map]
  refine⟨_,rfl,ua,rfl,⟨_,SqL.of (s1 _ _ hua)⟩,aY_ (xs:=uvs) (fun i σ H2=>∃wl f wt v5,σ=[some (.int d),some v,some (.ref ua),some (.ref wl),some (.int f),v5]∧al_ H H2∧Is H2 (lfs wt) (.ref wl)∧wt.length≤20∧mkW f wt (m.drop i)=mkW 0 (dy_ d x) m) ⟨w0,0,dy_ d x,none,rfl,s1,hw0,al,rfl⟩ (fun i σ H2 _ h=>by obtain⟨_,_,_,_,_,s2,_⟩:=h;exact SqL.of (s2 _ _ hua)) ?_ ?_⟩
  ·rintro i z σ H2 hi ⟨wl,f,wt,v5,rfl,s2,hwl,wl20,hk⟩
   obtain⟨dd,hdd,hz⟩:=hui.of_get hi
   rw [List.getElem?_map] at hdd
   obtain⟨mk,hm,rfl⟩:=Option.map_eq_some_iff.mp hdd
   have il:i<m.length:=(List.getElem?_eq_some_iff.mp hm).1
   have ed:m.drop i=mk::m.drop (i+1):=by
    rw [List.drop_eq_getElem_cons il,(List.getElem?_eq_some_iff.mp hm).2]
   rw [ed] at hk
   rw [show mkW f wt (mk::m.drop (i+1))=(decide (mk∈wt)&&dU_ mk f wt&&mkW (nxt mk f) (wt.erase mk) (m.drop (i+1))) from rfl] at hk
   have hz2:=hz.mono s2
   obtain⟨_,wvs,e,hwa,hwi⟩:=bm_ hwl
   cases e
   have wlen:wvs.length=wt.length:=by rw [hwi.length,List.length_map]
   have ea:(List.range wvs.length).any (fun j=>decide (wt.getD j (0,0,0)=mk))=decide (mk∈wt):=by
    by_cases hin:mk∈wt
    ·rw [decide_eq_true hin]
     obtain⟨j,hj,e⟩:=List.mem_iff_getElem.mp hin
     refine List.any_eq_true.mpr ⟨j,List.mem_range.mpr (by omega),decide_eq_true ?_⟩
     rw [List.getD_eq_getElem?_getD,List.getElem?_eq_getElem hj,e]
     rfl
    ·rw [decide_eq_false hin]
     refine List.any_eq_false.mpr fun j hj z=>hin ?_
     have hj:=List.mem_range.mp hj
     rw [decide_eq_true_eq,List.getD_eq_getElem?_getD,List.getElem?_eq_getElem (by omega)] at z
     exact z▸List.getElem_mem _
   refine⟨_,rfl,_,rfl,wl,wvs,1,_,rfl,SqL.of hwa,i6_ hwi hz2,_,rfl, ?_⟩
   rw [ea]
   by_cases hin:mk∈wt
   case neg=>
    rw [decide_eq_false hin] at hk⊢
    refine cV_ (cV_ ?_)
    have:=kk H2 s2
    rw [←hk] at this
    exact this
   rw [decide_eq_true hin] at hk⊢
   refine cW_ ⟨_,rfl,_,rfl,_,rfl,z, .ref wl,mk,f,wt,rfl,hz2,hwl,wl20,fun H3 s3=>⟨_,rfl, ?_⟩⟩
   by_cases hmay:dU_ mk f wt=true
   case neg=>
    rw [Bool.not_eq_true] at hmay
    rw [hmay] at hk⊢
    refine cV_ ?_
    have:=kk H3 (s2.trans s3)
    rw [←hk] at this
    exact this
   rw [hmay] at hk⊢
   have hk:mkW (nxt mk f) (wt.erase mk) (m.drop (i+1))=mkW 0 (dy_ d x) m:=hk
   refine cW_ ?_
   have hz3:=hz2.mono s3
   have el:(wt.erase mk).length≤20:=Nat.le_trans (List.length_erase_le ..) wl20
   refine⟨_,rfl,_,0,_,hz3,rfl,rfl,fun y1 hy1=>⟨_,rfl,_,1,_,hz3,rfl,rfl,fun y2 hy2=> ?_⟩⟩
   rw [dg_ hy1,dg_ hy2]
   refine⟨rfl,_,rfl,g9_ (fun c=> ?_) (fun c=> ?_)⟩
   ·rw [show nxt mk f=f+1 from if_pos c] at hk
    exact⟨_,rfl,_,_,rfl,rfl,_,rfl,_,rfl,z, .ref wl,mk,wt,rfl,hz3,hwl.mono s3,wl20,hin,fun l4 H4 s4 nl4 hl4=>⟨l4,f+1,wt.erase mk,_,rfl,(s2.trans s3).trans s4,hl4,el,hk⟩⟩
   ·rw [show nxt mk f=f from if_neg c] at hk
    exact⟨_,rfl,_,rfl,z, .ref wl,mk,wt,rfl,hz3,hwl.mono s3,wl20,hin,fun l4 H4 s4 nl4 hl4=>⟨l4,f,wt.erase mk,_,rfl,(s2.trans s3).trans s4,hl4,el,hk⟩⟩
  ·rintro σ H2 ⟨wl,f,wt,v5,rfl,s2,hwl,wl20,hk⟩
   rw [ulen,List.drop_length] at hk
   have hk:wt.isEmpty=mkW 0 (dy_ d x) m:=hk
   obtain⟨_,wvs,e,hwa,hwi⟩:=bm_ hwl
   cases e
   refine⟨_,rfl,wl,wvs,rfl,SqL.of hwa, ?_⟩
   have wlen:wvs.length=wt.length:=by rw [hwi.length,List.length_map]
   have:wvs.isEmpty=wt.isEmpty:=by
    cases wvs<;>cases wt<;>first|rfl|(simp at wlen)
   rw [this,hk]
   exact kk H2 s2
theorem e2_:FnOk P w K mg base CX0 8 T.f_weighed T.d_weighed ["d","k","paper"] (ov_ K):=by
 refine T.X_weighed.F.ok bs_ (fun vs H Q E h=> ?_) (fun cdv A outer s H vs Q E hr h=> ?_)
 ·obtain⟨_,_,_,_,rfl,_⟩:=h
  rfl
 ·obtain⟨d,k,v,B,rfl,hP,⟨hv,B1,mem⟩,kk,kn⟩:=h
  refine⟨_,(ac_ (aM_ (ai_ (cH_ T) (hr.mono (by decide)) (by rfl) T.X_need_wide.m T.X_need_wide.F.kp T.X_need_wide.B .nil aw_ (aa_ (pv 0) (aa_ (pv 1) ab_))))
   (ac_ (ap_ (i:=3) bs_.nd rfl (by trivial) l6_)
   (ac_ (ap_ (i:=4) bs_.nd rfl (by trivial) ad_)
   (ac_ (aX_ PassesOwn.never rfl (aN_ (pv 2)) (cF_ rfl (az_ (am_ (i:=5) bs_.nd rfl (by trivial)) (az_ (am_ (i:=6) bs_.nd rfl (by trivial)) bL_))) (ac_ (ap_ (i:=7) bs_.nd rfl (by trivial) (aH_ (aa_ (aR_ c3_ (by rfl) T.n_tuple boot_tuple (aa_ (pv 5) ab_)) (aa_ (aR_ c3_ (by rfl) T.n_tuple boot_tuple (aa_ (pv 6) ab_)) ab_))))
   (ac_ (a8_ (dY_ (nl_ (nq_ (ly_ hr) (pv 7) (pv 3)) rfl) (dY_ (cC_ (cZ_ (ai_ (fB_ T) (hr.mono (by decide)) (by rfl) T.X_is_drawing.m T.X_is_drawing.F.kp T.X_is_drawing.B .nil aw_ (aa_ (pv 0) (aa_ (pv 1) (aa_ (pv 5) ab_)))))) (dl_ (cC_ (cZ_ (ai_ (fA_ T) (hr.mono (by decide)) (by rfl) T.X_is_marking.m T.X_is_marking.F.kp T.X_is_marking.B .nil aw_ (aa_ (pv 0) (aa_ (pv 5) (aa_ (pv 6) ab_))))))))).pt (af_ (au_ h6_)) aE_)
   (ac_ (l3_ (ly_ hr) (pv 3) (pv 7) eo_ rfl)
   (af_ (jp_ (i:=4) bs_.nd rfl (by trivial) (ai_ (kZ_ T) (hr.mono (by decide)) (by rfl) T.X_worth.m T.X_worth.F.kp T.X_worth.B .nil aw_ (aa_ (pv 5) ab_)) j5_))))))
   (af_ (au_ (pv 4))))))), ?_⟩
  have hW:=hP.wide
  have d15:1≤d∧d≤5:=by unfold Wide at hW;omega
  have k6:k≤6:=by unfold P94 at hP;omega
  refine⟨_,rfl,_,rfl,d,k,rfl,hW, ?_⟩
  intro se H1 nse hD1 k1
  have s1:al_ H H1:=fun b o e=>by rw [k1 b (by rintro rfl;rw [nse] at e;cases e)];exact e
  obtain⟨va,vvs,rfl,hva,hvi⟩:=bm_ hv
  have vlen:vvs.length=B.length:=by rw [hvi.length,List.length_map]
  refine⟨_,rfl,va,rfl,⟨_,SqL.of (s1 _ _ hva)⟩,aY_ (xs:=vvs) (fun j σ H5=>(∃v5 v6 v7,σ=[some (.int d),some (.int k),some (.ref va),some (.ref se),some (.int (hc_ (B.take j))),v5,v6,v7])∧al_ H H5∧DO P w H5 se (he_ (B.take j))∧eM_ d k (B.take j)) ⟨⟨none,none,none,rfl⟩,s1,hD1,fX_⟩ (fun j σ H5 _ h=>SqL.of (h.2.1 _ _ hva)) ?_ ?_⟩
  ·rintro j y σ H5 hj ⟨⟨v5,v6,v7,rfl⟩,s5,hD5,nd5⟩
   obtain⟨dd,hdd,hy⟩:=hvi.of_get hj
   rw [List.getElem?_map] at hdd
   obtain⟨e,he,rfl⟩:=Option.map_eq_some_iff.mp hdd
   have jl:j<B.length:=(List.getElem?_eq_some_iff.mp he).1
   obtain⟨m1,m2⟩:=mem e (List.mem_of_getElem? he)
   obtain⟨t,u1,u2,rfl,ht,hu1,hu2⟩:=gs_ hy
   have tk:B.take (j+1)=B.take j++[e]:=by rw [List.take_add_one,he];rfl
   have bad:¬(Rgt d k e∧e∉B.take j)→∀H',al_ H H'→Q .non H':=fun z=>kn fun g=>z (kc_ g he)
   refine⟨t,_,rfl,SqT.of (s5 _ _ ht),rfl,_,_,rfl,_,_,rfl,rfl, ?_⟩
   refine⟨_,rfl,u1,e.1.map lf,rfl,hu1.mono s5,fun p1 H6 np1 s6 hp1=>⟨_,rfl,u2,e.2.map lf,rfl,(hu2.mono s5).mono s6,fun p2 H7 np2 s7 hp2=>⟨(by show 2≤sizeLine;decide),fun en H8 nen s8 hen=> ?_⟩⟩⟩
   have s58:=(s6.trans s7).trans s8
   have ken:Is H8 (oK (kE e)) (.ref en):=by
    rw [mC_]
    exact iY_ hen (ag_ ((hp1.mono s7).mono s8) (ag_ (hp2.mono s8) aj_))
   have hD8:=hD5.mono s58
   have s08:=s5.trans s58
   refine⟨_,rfl,_,rfl,se,_,kE e,rfl,hD8,ken,_,rfl, ?_⟩
   rw [h2_]
   by_cases hm:e∈B.take j
   ·rw [decide_eq_true hm]
    exact cV_ (cV_ (bad (fun z=>z.2 hm) H8 s08))
   ·rw [decide_eq_false hm]
    refine cW_ ⟨_,rfl,_,rfl,_,rfl,d,k,u1,e.1,rfl,d15.1,d15.2,k6,hu1.mono s08,m1,fun b1 H9 s9 hb1=>⟨b1,rfl, ?_⟩⟩
    cases b1 with
    |false=>exact cV_ (cV_ (bad (fun z=>nomatch hb1.mpr z.1.1) H9 (s08.trans s9)))
    |true=>
    obtain⟨r1,r2⟩:=hb1.mp rfl
    refine cW_ ⟨_,rfl,_,rfl,_,rfl,d,u1,u2,e.1,e.2,rfl,d15.1,d15.2,(hu1.mono s08).mono s9,(hu2.mono s08).mono s9,r2,fun HA sA=>⟨_,rfl, ?_⟩⟩
    have s8A:=s9.trans sA
    by_cases r3:mkW 0 (dy_ d e.1) e.2=true
    case neg=>
     rw [Bool.not_eq_true] at r3
     rw [r3]
     refine cV_ (bad (fun z=> ?_) HA (s08.trans s8A))
     have:=z.1.2
     rw [r3] at this
     cases this
    rw [r3]
    refine cW_ ?_
    have hDA:=hD8.mono s8A
    refine⟨_,rfl,_,rfl,se,_,kE e,rfl,hDA,ken.mono s8A,ak_ (by unfold he_;rw [List.length_map,List.length_take];omega),fun HB hDB kB=> ?_⟩
    rw [kJ_ hm,←tk] at hDB
    have s0B:al_ H HB:=fun b o eb=>by
     rw [kB b (by rintro rfl;rw [nse] at eb;cases eb)]
     exact(s08.trans s8A) _ _ eb
    have o2:=(dz_ r2 d15.1 d15.2).2.2
    refine⟨_,rfl,_,rfl,u1,e.1,d,rfl,hu1.mono s0B,(fun p hp=>⟨trivial,o2 p hp⟩),_,_,rfl,rfl,⟨some u1,some u2,some (.ref en), ?_⟩,s0B,hDB, ?_⟩
    ·rw [tk,hX_,show hc_ [e]=ct_ e.1 by simp [hc_]]
     rfl
    ·rw [tk]
     exact iw_ nd5 hm ⟨⟨r1,r2⟩,r3⟩
  ·rintro σ H5 ⟨⟨v5,v6,v7,rfl⟩,s5,_,nd5⟩
   rw [vlen,List.take_length] at nd5
   rw [vlen,List.take_length]
   exact⟨_,rfl,kk nd5 H5 s5⟩
theorem fC_:FnOk P w K mg base CX0 1 T.f__law_marks T.d__law_marks ["_law_d","_law_drawing"] (lV_ K):=by
 refine T.X__law_marks.F.ok a5_ (fun vs H Q E h=> ?_) (fun cdv A outer s H vs Q E hr h=> ?_)
 ·obtain⟨_,_,_,rfl,_⟩:=h
  rfl
 ·obtain⟨d,dv,ps,rfl,d1,d5,hd,hs,hlen,kk⟩:=h
  refine⟨_,(ac_ (ap_ (i:=2) a5_.nd rfl (by trivial) (aR_ aG_ (by rfl) T.n_list boot_list (aa_ (pv 1) ab_)))
   (ac_ (aX_ PassesOwn.never rfl (b3_ (by rfl) T.n_range (aa_ ad_ (aa_ (ao_ aO_ (pv 0) ad_) ab_))) (am_ (i:=3) a5_.nd rfl (by trivial)) (ac_ (ap_ (i:=4) a5_.nd rfl (by trivial) (ao_ aO_ ad_ (av_ (eb_ rfl) (by rfl) T.n_sum boot_sum (aa_ (bH_ (XN:=["_law_d","_law_drawing","_law_found","_law_floor","_law_many","_law_turn"]) (sc:=ah_ bx_) (N:=["_law_lift","_law_floor"]) (own:=1) (js:=[3]) rfl (by decide+kernel) rfl rfl (aN_ (pv 1)) (fun _ _ _ _=>(am_ (i:=0) (show List.Nodup (["_law_lift","_law_floor"]:List Str) by decide+kernel) rfl (Or.inl rfl) (.inr rfl))) (a0_ (by decide)) (fun _ _ _ _=>(d5_ (aq_ ce_ (aK_ aD_ (pv 0) ad_ (fun _ _=>rfl)) (pv 1) (ax_ _)))) (fun _ _ _ _=>(aK_ aD_ (pv 0) ad_ (fun _ _=>rfl)))) ab_))))
   (ac_ (ap_ (i:=4) a5_.nd rfl (by trivial) (ao_ a6_ (pv 4) (av_ (eb_ rfl) (by rfl) T.n_sum boot_sum (aa_ (bH_ (XN:=["_law_d","_law_drawing","_law_found","_law_floor","_law_many","_law_turn"]) (sc:=ah_ bx_) (N:=["_law_lift","_law_floor"]) (own:=1) (js:=[3]) rfl (by decide+kernel) rfl rfl (aN_ (pv 1)) (fun _ _ _ _=>(am_ (i:=0) (show List.Nodup (["_law_lift","_law_floor"]:List Str) by decide+kernel) rfl (Or.inl rfl) (.inr rfl))) (a0_ (by decide)) (fun _ _ _ _=>(d5_ (aq_ ce_ (aK_ aD_ (pv 0) ad_ (fun _ _=>rfl)) (pv 1) (ax_ _)))) (fun _ _ _ _=>(aK_ aD_ (pv 0) ad_ (fun _ _=>rfl)))) ab_))))
   (af_ (aX_ PassesOwn.never rfl (dm_ (by rfl) T.n_range (aa_ (pv 4) ab_)) (am_ (i:=5) a5_.nd rfl (by trivial)) (af_ (aM_ (dE_ PySem.F.plainAttrs_list PySem.F.slot_list_append PySem.F.type_list_append by_ (pv 2) (aa_ (aH_ (aa_ (pv 3) (aa_ (ao_ aO_ (pv 0) ad_) (aa_ ad_ ab_)))) ab_)))))))))
   (af_ (au_ (pv 2))))), ?_⟩
  obtain⟨da,dvs,rfl,hda,hdi⟩:=bm_ hd
  have dlen:dvs.length=ps.length:=by rw [hdi.length,List.length_map]
  rw [List.length_append] at hlen
  refine⟨_,rfl,_,_,rfl, .inl hd,fun fo H1 nf s1 hfo=> ?_⟩
  obtain⟨_,vs1,e,hf1,hi1⟩:=bm_ hfo
  cases e
  refine⟨_,rfl,_,_,rfl,rfl,1,_,rfl,⟨by omega,by omega,by omega,by omega⟩, ?_⟩
  rw [show((d:Int)+1-1).toNat=d by omega]
  refine bz_ (lo:=1) (n:=d) (fun i σ H2=>(∃v3 v4 v5,σ=[some (.int d),some (.ref da),some (.ref fo),v3,v4,v5])∧al_ H H2∧∃vs,H2 fo=some (.lst vs)∧Iss H2 ((ps++(List.range i).flatMap (fd_ d (aZ_ d ps))).map lf) vs) ⟨⟨none,none,none,rfl⟩,s1,vs1,hf1,by simpa using hi1⟩ ?_ ?_
  ·rintro i σ H2 hi ⟨⟨v3,v4,v5,rfl⟩,hS2,vs2,hf2,hi2⟩
   have ei:=dM_ hs.okl hi
   have e0:0≤eF ps i:=hs.nn i hi
   have pre:((List.range i).flatMap (fd_ d (aZ_ d ps))).length+(eF ps i).toNat≤(dN_ d (aZ_ d ps)).length:=by
    have:=fr_ (fd_ d (aZ_ d ps)) hi
    have e2:(fd_ d (aZ_ d ps) i).length=(eF ps i).toNat:=by unfold fd_;rw [List.length_replicate,ei]
    unfold dN_
    omega
   have vl:=hi2.length
   rw [List.length_map,List.length_append] at vl
   refine⟨_,rfl,da,rfl,⟨_,SqL.of (hS2 _ _ hda)⟩,fun acc2 na2=> ?_⟩
   refine bb_ (xs:=dvs) (own:=1) (js:=[3]) (fun j H4=>al_ H2 H4∧H4 acc2=some (.lst ((((ps.take j).filter fun p=>decide (p.2.1=1+(i:Int))).map (·.2.2)).map V.int))) ⟨al_.new na2,ae_⟩ (fun j H4 _ h=>SqL.of (h.1 _ _ (hS2 _ _ hda))) ?_ ?_ a1_ ?_ ?_
   ·rintro j x H4 hj ⟨s4,hacc⟩
    obtain⟨dd,hdd,hy⟩:=hdi.of_get hj
    rw [List.getElem?_map] at hdd
    obtain⟨p,hp',rfl⟩:=Option.map_eq_some_iff.mp hdd
    have hjl:j<ps.length:=(List.getElem?_eq_some_iff.mp hp').1
    have hlf:Is H4 (lf p) x:=hy.mono (hS2.trans s4)
    refine⟨_,rfl,_,1,_,hlf,rfl,rfl,fun u hu=> ?_⟩
    rw [dg_ hu]
    refine⟨_,rfl,rfl,_,rfl,g9_ (fun e=> ?_) (fun e=> ?_)⟩
    ·refine⟨_,rfl,_,2,_,hlf,rfl,rfl,fun u2 hu2=> ?_⟩
     rw [dg_ hu2]
     refine⟨acc2,_,_,rfl,rfl,hacc,ak_ ?_,s4.put na2, ?_⟩
     ·rw [List.length_map,List.length_map]
      have:=List.length_filter_le (fun p:Lf=>decide (p.2.1=1+(i:Int))) (ps.take j)
      rw [List.length_take] at this
      omega
     ·have e':p.2.1=1+(i:Int):=e
      rw [ae_,List.take_add_one,hp',List.filter_append,List.map_append,List.map_append]
      simp [List.filter_cons,e']
    ·have e':¬p.2.1=1+(i:Int):=e
     refine⟨s4, ?_⟩
     rw [hacc,List.take_add_one,hp',List.filter_append,List.map_append,List.map_append]
     simp [List.filter_cons,e']
   ·rintro H3 ⟨s3,hacc⟩
    rw [dlen,List.take_length] at hacc
    refine⟨acc2,_,rfl,SqL.of hacc,_,_,rfl,rfl, ?_⟩
    have hS3:al_ H H3:=hS2.trans s3
    refine⟨_,rfl,_,rfl,da,rfl,⟨_,SqL.of (hS3 _ _ hda)⟩,fun acc3 na3=> ?_⟩
    refine bb_ (xs:=dvs) (own:=1) (js:=[3]) (fun j H4=>al_ H3 H4∧H4 acc3=some (.lst ((((ps.take j).filter fun p=>decide (p.1=1+(i:Int))).map (·.2.2)).map V.int))) ⟨al_.new na3,ae_⟩ (fun j H4 _ h=>SqL.of (h.1 _ _ (hS3 _ _ hda))) ?_ ?_ a1_ ?_ ?_
    ·rintro j x H4 hj ⟨s4,hacc⟩
     obtain⟨dd,hdd,hy⟩:=hdi.of_get hj
     rw [List.getElem?_map] at hdd
     obtain⟨p,hp',rfl⟩:=Option.map_eq_some_iff.mp hdd
     have hjl:j<ps.length:=(List.getElem?_eq_some_iff.mp hp').1
     have hlf:Is H4 (lf p) x:=hy.mono (hS3.trans s4)
     refine⟨_,rfl,_,0,_,hlf,rfl,rfl,fun u hu=> ?_⟩
     rw [dg_ hu]
     refine⟨_,rfl,rfl,_,rfl,g9_ (fun e=> ?_) (fun e=> ?_)⟩
     ·refine⟨_,rfl,_,2,_,hlf,rfl,rfl,fun u2 hu2=> ?_⟩
      rw [dg_ hu2]
      refine⟨acc3,_,_,rfl,rfl,hacc,ak_ ?_,s4.put na3, ?_⟩
      ·rw [List.length_map,List.length_map]
       have:=List.length_filter_le (fun p:Lf=>decide (p.1=1+(i:Int))) (ps.take j)
       rw [List.length_take] at this
       omega
      ·have e':p.1=1+(i:Int):=e
       rw [ae_,List.take_add_one,hp',List.filter_append,List.map_append,List.map_append]
       simp [List.filter_cons,e']
     ·have e':¬p.1=1+(i:Int):=e
      refine⟨s4, ?_⟩
      rw [hacc,List.take_add_one,hp',List.filter_append,List.map_append,List.map_append]
      simp [List.filter_cons,e']
    ·rintro H5 ⟨s5,hacc5⟩
     rw [dlen,List.take_length] at hacc5
     refine⟨acc3,_,rfl,SqL.of hacc5,_,_,rfl,rfl, ?_⟩
     show _
     have s25:=s3.trans s5
     refine⟨_,rfl,eF ps i,rfl,by omega,by omega,bz_ (lo:=0) (n:=(eF ps i).toNat) (fun k σ H6=>(∃v5,σ=[some (.int d),some (.ref da),some (.ref fo),some (.int (1+(i:Int))),some (.int (eF ps i)),v5])∧al_ H H6∧∃vs,H6 fo=some (.lst vs)∧Iss H6 (((ps++(List.range i).flatMap (fd_ d (aZ_ d ps)))++List.replicate k (1+(i:Int),(d:Int)+1,1)).map lf) vs) ⟨⟨_,rfl⟩,hS2.trans s25,vs2,s25 _ _ hf2,by simpa using hi2.mono s25⟩ ?_ ?_⟩
     ·rintro k σ H6 hk ⟨⟨v5,rfl⟩,s6,vs6,hf6,hi6⟩
      have vl6:=hi6.length
      rw [List.length_map,List.length_append,List.length_replicate,List.length_append] at vl6
      refine⟨_,rfl, .inl ⟨rfl,_,SqL.of hf6⟩,_,rfl,_,rfl,_,_,rfl,rfl,(by show 3≤sizeLine;decide),fun t H7 nt s7 ht=> ?_⟩
      refine⟨fo,vs6,_,rfl,rfl,s7 _ _ hf6,ak_ (by omega),⟨_,rfl⟩,(s6.trans s7).put nf,_,ae_, ?_⟩
      rw [List.replicate_succ',←List.append_assoc,List.map_append]
      exact(dW_ s7 hf6 hi6).append (dW_ (qs:=[(1+(i:Int),(d:Int)+1,1)]) (al_.refl H7) (s7 _ _ hf6) (ag_ (cj_ ht) aj_))
     ·rintro σ H6 ⟨⟨v5,rfl⟩,s6,vs6,hf6,hi6⟩
      refine⟨⟨_,_,_,rfl⟩,s6,vs6,hf6, ?_⟩
      rw [cM_,←List.append_assoc]
      have:fd_ d (aZ_ d ps) i=List.replicate (eF ps i).toNat (1+(i:Int),(d:Int)+1,1):=by unfold fd_;rw [ei]
      rw [this]
      exact hi6
    ·rintro σ H R R' k ⟨v1,e1,xs,i,d,h1,e2,e3,h⟩
     refine⟨v1,e1,xs,i,d,h1,e2,e3,fun u hu=> ?_⟩
     obtain⟨v2,e4,e5,b,e6,h⟩:=h u hu
     exact⟨v2,e4,e5,b,e6,k _ _ h⟩
    ·rintro σ H R R' k ⟨v1,e1,xs,i,d,h1,e2,e3,h⟩
     exact⟨v1,e1,xs,i,d,h1,e2,e3,fun u hu=>k _ _ (h u hu)⟩
   ·rintro σ H R R' k ⟨v1,e1,xs,i,d,h1,e2,e3,h⟩
    refine⟨v1,e1,xs,i,d,h1,e2,e3,fun u hu=> ?_⟩
    obtain⟨v2,e4,e5,b,e6,h⟩:=h u hu
    exact⟨v2,e4,e5,b,e6,k _ _ h⟩
   ·rintro σ H R R' k ⟨v1,e1,xs,i,d,h1,e2,e3,h⟩
    exact⟨v1,e1,xs,i,d,h1,e2,e3,fun u hu=>k _ _ (h u hu)⟩
  ·rintro σ H2 ⟨⟨v3,v4,v5,rfl⟩,hS2,vs2,hf2,hi2⟩
   exact⟨_,rfl,kk fo H2 hS2 nf (bJ_ hf2 hi2)⟩
theorem dZ_:FnOk P w K mg base CX0 2 T.f__law_is_right T.d__law_is_right ["_law_one","_law_d","_law_k"] (lT_ K):=by
 refine T.X__law_is_right.F.ok an_ (fun vs H Q E h=> ?_) (fun cdv A outer s H vs Q E hr h=> ?_)
 ·obtain⟨_,_,_,_,rfl,_⟩:=h
  rfl
 ·obtain⟨d,k,v,⟨x,m⟩,rfl,d1,d5,k6,hv,x40,m40,kk⟩:=h
  refine⟨_,(ac_ (cD_ (pv 0) (cF_ rfl (az_ (am_ (i:=3) an_.nd rfl (by trivial)) (az_ (am_ (i:=4) an_.nd rfl (by trivial)) bL_))))
   (ac_ (ap_ (i:=5) an_.nd rfl (by trivial) (ao_ ho_ (aI_ (aa_ ad_ ab_)) (pv 1)))
   (ac_ (aX_ PassesOwn.never rfl (aN_ (pv 3)) (cF_ rfl (az_ (am_ (i:=6) an_.nd rfl (by trivial)) (az_ (am_ (i:=7) an_.nd rfl (by trivial)) (az_ (am_ (i:=8) an_.nd rfl (by trivial)) bL_)))) (ac_ (a8_ (dY_ (cC_ (jn_ fu_ go_ fu_ ad_ (pv 6) (pv 7) (pv 1))) (dl_ (aq_ go_ (pv 8) ad_ (ax_ _)))).pt (af_ (au_ eo_)) aE_)
   (ac_ (cD_ (ao_ a6_ (aK_ a9_ (pv 5) (ao_ a6_ (pv 6) ad_) (fun _ _=>rfl)) (pv 8)) (dn_ (pv 5) (ao_ a6_ (pv 6) ad_) bh_))
   (af_ (cD_ (ao_ aO_ (aK_ a9_ (pv 5) (ao_ a6_ (pv 7) ad_) (fun _ _=>rfl)) (pv 8)) (dn_ (pv 5) (ao_ a6_ (pv 7) ad_) bh_))))))
   (ac_ (a8_ (dY_ (aq_ go_ (av_ (gU_ rfl) (by rfl) T.n_min boot_min (aa_ (pv 5) ab_)) ad_ (ax_ _)) (dY_ (aq_ kW_ (av_ b6_ (by rfl) T.n_len boot_len (aa_ (pv 3) ab_)) (ao_ a6_ (ao_ fv_ (ao_ cG_ (pv 1) (ao_ a6_ (pv 1) ad_)) ad_) (pv 2)) (ax_ _)) (dl_ (aq_ (gn_ hr) (av_ cT_ (by rfl) T.n_sorted boot_sorted (aa_ (pv 3) ab_)) (pv 3) (ax_ _))))).pt (af_ (au_ eo_)) aE_)
   (ac_ (fq_ (i:=9) an_.nd rfl (by trivial) (.inl rfl) (XN:=["_law_one","_law_d","_law_k","_law_drawing","_law_marking","_law_ends","_law_low","_law_high","_law_weight","_law_floors","_law_passed"]) (sc:=ah_ bk_) (N:=["_law_floor"]) (own:=1) (js:=[]) rfl (by decide+kernel) rfl rfl (b3_ (by rfl) T.n_range (aa_ ad_ (aa_ (ao_ aO_ (pv 1) ad_) ab_))) (fun _ _ _ _=>(am_ (i:=0) (show List.Nodup (["_law_floor"]:List Str) by decide+kernel) rfl (Or.inl rfl) (.inr rfl))) (a0_ (by decide)) (fun _ _ _ _=>bR_) (fun _ _ _ _=>(aH_ (aa_ (pv 0) (aa_ (pv 0) (aa_ ad_ ab_))))))
   (ac_ (a8_ (aq_ (gn_ hr) (av_ cT_ (by rfl) T.n_sorted boot_sorted (aa_ (pv 4) ab_)) (av_ cT_ (by rfl) T.n_sorted boot_sorted (aa_ (ao_ cf_ (pv 9) (ai_ (fC_ T) (hr.mono (by decide)) (by rfl) T.X__law_marks.m T.X__law_marks.F.kp T.X__law_marks.B .nil aw_ (aa_ (pv 1) (aa_ (pv 3) ab_)))) ab_)) (ax_ _)) (af_ (au_ eo_)) aE_)
   (ac_ (ap_ (i:=10) an_.nd rfl (by trivial) ad_)
   (ac_ (aX_ PassesOwn.never rfl (aN_ (pv 4)) (cF_ rfl (az_ (am_ (i:=6) an_.nd rfl (by trivial)) (az_ (am_ (i:=7) an_.nd rfl (by trivial)) (az_ (am_ (i:=8) an_.nd rfl (by trivial)) bL_)))) (ac_ (a8_ (dY_ (jm_ (aq_ ce_ (pv 8) ad_ (ax_ _)) (hm_ (aq_ kW_ (pv 6) (ao_ aO_ (pv 10) ad_) (ax_ _)))).pt (dl_ (jm_ (aq_ kX_ (pv 8) ad_ (ax_ _)) (hm_ (cC_ (kS_ fu_ go_ (pv 6) (pv 10) (pv 7))))).pt)).pt (af_ (au_ eo_)) aE_)
   (af_ (ap_ (i:=10) an_.nd rfl (by trivial) (ao_ aO_ (pv 10) (aR_ kp_ (by rfl) T.n_int boot_int (aa_ (bX_ ce_ (pv 8) ad_ (ax_ _)) ab_)))))))
   (af_ (au_ eo_)))))))))), ?_⟩
  have x40:x.length≤40:=x40
  have m40:m.length≤40:=m40
  have hh:=kb_ d1 d5
  have d20:d*(d-1)/2≤10:=by
   have:d=1∨d=2∨d=3∨d=4∨d=5:=by omega
   rcases this with rfl|rfl|rfl|rfl|rfl<;>decide
  have bad:¬(x.length+k=d*(d-1)/2∧Snd d x)→∀H',al_ H H'→Q (.bl false) H':=fun z H' s'=>kk false H' s' ⟨fun h=>(nomatch h),fun r=>absurd r.1 z⟩
  obtain⟨t0,u1,u2,rfl,ht0,hu1,hu2⟩:=gs_ hv
  have hu1:Is H (lfs x) u1:=hu1
  have hu2:Is H (lfs m) u2:=hu2
  obtain⟨da,dvs,rfl,hda,hdi⟩:=bm_ hu1
  obtain⟨ma,mvs,rfl,hma,hmi⟩:=bm_ hu2
  have dlen:dvs.length=x.length:=by rw [hdi.length,List.length_map]
  have mlen:mvs.length=m.length:=by rw [hmi.length,List.length_map]
  refine⟨_,rfl,t0,_,rfl,SqT.of ht0,rfl,_,_,rfl,_,_,rfl,rfl, ?_⟩
  refine⟨(by show 1≤sizeLine;decide),fun l1 H1 n1 s1 h1=> ?_⟩
  refine⟨_,rfl, .i 1,d,bJ_ h1 (ag_ mv_ aj_),rfl,by omega,by omega,Nat.le_of_lt (ak_ (by omega)),fun l H3 n3 s3 h3=> ?_⟩
  rw [Int.toNat_natCast] at h3
  obtain⟨_,vs3,e3,hl3,hi3⟩:=bm_ h3
  cases e3
  rw [←List.map_replicate] at hi3
  rw [d7_ hi3] at hl3
  have nl:H l=none:=s1.free n3
  have s03:=s1.trans s3
  refine⟨_,rfl,da,rfl,⟨_,SqL.of (s03 _ _ hda)⟩,aY_ (xs:=dvs) (fun i σ H4=>(∃v6 v7 v8,σ=[some (.ref t0),some (.int d),some (.int k),some (.ref da),some (.ref ma),some (.ref l),v6,v7,v8,none,none])∧al_ H H4∧H4 l=some (.lst (((x.take i).foldl cs_ (List.replicate d 1)).map V.int))∧me_ d (x.take i)=true)
   ⟨⟨none,none,none,rfl⟩,s03,hl3,rfl⟩ (fun i σ H4 _ h=>SqL.of (h.2.1 _ _ hda)) ?_ ?_⟩
  ·rintro i y σ H4 hi ⟨⟨v6,v7,v8,rfl⟩,s4,hl4,ok4⟩
   obtain⟨dd,hdd,hy⟩:=hdi.of_get hi
   rw [List.getElem?_map] at hdd
   obtain⟨p,hp',rfl⟩:=Option.map_eq_some_iff.mp hdd
   obtain⟨t,rfl,ht⟩:=dq_ (hy.mono s4)
   have el:=(eF_ (n:=d) (x.take i) (List.replicate d 1) (by simp) fun q hq=>by have:=ch_.mp ok4 q hq;exact⟨by omega,by omega,by omega,by omega⟩).1
   have en:(x.take (i+1)).foldl cs_ (List.replicate d 1)=cs_ ((x.take i).foldl cs_ (List.replicate d 1)) p:=by
    rw [List.take_add_one,hp',List.foldl_append];rfl
   have okn:1≤p.1→p.1<p.2.1→p.2.1≤(d:Int)→1≤p.2.2→me_ d (x.take (i+1))=true:=fun c1 c2 c3 c4=>by
    refine ch_.mpr fun q hq=> ?_
    rw [List.take_add_one,hp'] at hq
    rcases List.mem_append.mp hq with hq|hq
    ·exact ch_.mp ok4 q hq
    ·rw [List.mem_singleton.mp hq]
     exact⟨c1,c2,c3,c4⟩
   have nok:¬(1≤p.1∧p.1<p.2.1∧p.2.1≤(d:Int)∧1≤p.2.2)→Q (.bl false) H4:=fun z=>bad (fun r=>z (r.2.ok p (List.mem_of_getElem? hp'))) H4 s4
   rw [en]
   generalize (x.take i).foldl cs_ (List.replicate d 1)=e at hl4 el⊢
   refine⟨t,_,rfl,SqT.of ht,rfl,_,_,rfl,_,_,rfl,_,_,rfl,rfl, ?_⟩
   refine⟨_,rfl,_,_,rfl,rfl,_,rfl,eS_ (fun c1=> ?_) (fun c=> ?b1)⟩
   case b1=>exact⟨_,rfl,cV_ (cV_ (nok fun z=>c z.1))⟩
   refine⟨_,rfl,_,_,rfl,rfl,_,rfl,eS_ (fun c2=> ?_) (fun c=> ?b2)⟩
   case b2=>exact⟨_,rfl,cV_ (cV_ (nok fun z=>c z.2.1))⟩
   refine⟨_,rfl,_,_,rfl,rfl,_,rfl,j2_ (fun c=> ?b3) (fun c3=> ?_)⟩
   case b3=>exact cV_ (nok fun z=>c z.2.2.1)
   refine⟨_,rfl,_,_,rfl,rfl,_,rfl,eS_ (fun c=> ?b4) (fun c4=> ?_)⟩
   case b4=>exact nok fun z=>by have:=z.2.2.2;have c:p.2.2<1:=c;omega
   have c1:1≤p.1:=c1
   have c2:p.1<p.2.1:=c2
   have c3:p.2.1≤(d:Int):=c3
   have c4:¬p.2.2<1:=c4
   have j1:(p.1-1).toNat<e.length:=by omega
   have j2:(p.2.1-1).toNat<e.length:=by omega
   have k1:p.1-1=((p.1-1).toNat:Int):=by omega
   have kq:p.2.1-1=((p.2.1-1).toNat:Int):=by omega
   refine⟨_,rfl,_,rfl,_,_,rfl,rfl,l,_,_,_,rfl,rfl,SqL.of hl4,by rw [k1];exact kr_ j1,_,rfl,_,_,rfl,rfl, ?_⟩
   refine⟨_,rfl,_,rfl,_,_,rfl,rfl,l,_,_,(p.1-1).toNat,rfl,rfl,hl4,by rw [k1,List.length_map];exact ci_ j1, ?_⟩
   rw [←map_set]
   have j2':(p.2.1-1).toNat<(e.set (p.1-1).toNat (e.getD (p.1-1).toNat 0-p.2.2)).length:=by rw [List.length_set];exact j2
   refine⟨_,rfl,_,rfl,_,_,rfl,rfl,l,_,_,_,rfl,rfl,SqL.of ae_,by rw [kq];exact kr_ j2',_,rfl,_,_,rfl,rfl, ?_⟩
   refine⟨_,rfl,_,rfl,_,_,rfl,rfl,l,_,_,(p.2.1-1).toNat,rfl,rfl,ae_,by rw [kq,List.length_map];exact ci_ j2', ?_⟩
   rw [←map_set,fg_]
   exact⟨⟨_,_,_,rfl⟩,s4.put nl,ae_,okn c1 c2 c3 (by omega)⟩
  ·rintro σ H4 ⟨⟨v6,v7,v8,rfl⟩,s4,hl4,ok4⟩
   rw [dlen,List.take_length] at hl4 ok4
   have hl4:H4 l=some (.lst ((aZ_ d x).map V.int)):=hl4
   have okl:∀p∈x,Okl d p:=fun q hq=>by have:=ch_.mp ok4 q hq;exact⟨by omega,by omega,by omega,by omega⟩
   refine⟨_,rfl,l,_,rfl,SqL.of hl4,by rw [cS_ d x okl];omega,_,_,rfl,rfl,_,rfl,eS_ (fun c=> ?b1) (fun c0=> ?_)⟩
   case b1=>exact cV_ (bad (fun r=>absurd (hF_ r.2.ends) (Int.not_le.mpr c)) H4 s4)
   refine⟨_,rfl,_,_,rfl, .inl (hu1.mono s4),_,rfl,_,rfl,_,_,rfl,rfl,_,_,rfl,rfl, .inr ⟨by omega,by omega⟩,_,_,rfl,rfl,⟨by decide,by decide⟩,_,rfl,_,_,rfl,rfl,rfl,_,rfl,la_ (fun h=> ?b2) (fun h=> ?_)⟩
   case b2=>
    refine cV_ (bad (fun z=>h ?_) H4 s4)
    rw [hh,List.length_map]
    have:=z.1
    omega
   have hx:x.length+k=d*(d-1)/2:=by
    rw [hh,List.length_map] at h
    omega
   refine⟨_,rfl,_,x.map bG_,3,rfl,by rw [←bc_];exact hu1.mono s4,by decide,cb_,by rw [List.length_map];omega,fun yss q H5 hp hasc nq s5 hq=> ?_⟩
   obtain⟨b,eb,hb⟩:=lR_ hp hasc ((hu1.mono s4).mono s5) hq
   have s05:=s4.trans s5
   refine⟨_,rfl,2,b,eb,by decide,_,rfl, ?_⟩
   cases b with
   |false=>exact cV_ (bad (fun z=>nomatch hb.mpr z.2.so) H5 s05)
   |true=>
   have so:Srt x:=hb.mp rfl
   have hs:Snd d x:=(jd_ ok4 so).mpr (Int.not_lt.mp c0)
   have hal:=(dz_ hs d1 d5).1
   have al:=hal
   rw [ga_] at al
   refine cW_ ?_
   refine⟨_,rfl,_,_,rfl,rfl,1,_,rfl,⟨by omega,by omega,by omega,by omega⟩,fun acc na=> ?_⟩
   rw [show((d:Int)+1-1).toNat=d by omega]
   refine ff_ (lo:=1) (n:=d) (own:=1) (js:=[]) (fun i H4=>al_ H5 H4∧∃vs,H4 acc=some (.lst vs)∧Iss H4 ((f0_ i).map lf) vs) ⟨al_.new na,[],ae_,aj_⟩ ?_ ?_ a1_ bS_ ?_
   ·rintro i H4 hi ⟨s4,vs,hacc,hi4⟩
    have vl:vs.length≤10:=by rw [hi4.length];unfold f0_;simp;omega
    refine lk_ ?_
    refine⟨_,rfl,_,rfl,(by show 3≤sizeLine;decide),fun t H5 nt s5 ht=> ?_⟩
    refine⟨acc,vs,_,rfl,rfl,s5 _ _ hacc,ak_ (by omega),(s4.trans s5).put na,_,ae_, ?_⟩
    have:f0_ (i+1)=f0_ i++[(1+(i:Int),1+(i:Int),0)]:=by unfold f0_;rw [List.range_succ,List.map_append];rfl
    rw [this,List.map_append]
    exact(dW_ s5 hacc hi4).append (dW_ (qs:=[(1+(i:Int),1+(i:Int),0)]) (al_.refl H5) (s5 _ _ hacc) (ag_ (cj_ ht) aj_))
   ·rintro H6 ⟨s6,vs6,hacc,hi6⟩
    have s06:=s05.trans s6
    have hfl:Is H6 (lfs (f0_ d)) (.ref acc):=bJ_ hacc hi6
    refine⟨_,rfl,_,m.map bG_,3,rfl,by rw [←bc_];exact hu2.mono s06,by decide,cb_,by rw [List.length_map];omega,fun yss q7 H7 hp7 hasc7 nq7 s7 hq7=> ?_⟩
    obtain⟨qs,hqs,rfl⟩:=dk_ hp7
    rw [←bc_] at hq7
    refine⟨_,rfl,_,rfl,_,rfl,d, .ref da,x,rfl,d1,d5,hu1.mono (s06.trans s7),hs,by rw [List.length_append];omega,fun l8 H8 s8 n8 h8=> ?_⟩
    refine⟨_,_,(hfl.mono s7).mono s8,h8,Nat.le_of_lt (ak_ (by rw [List.length_map,List.length_map,List.length_append];unfold f0_;simp;omega)),fun l9 H9 n9 s9 h9=> ?_⟩
    rw [←List.map_append,←List.append_assoc] at h9
    have h9:Is H9 (lfs (dy_ d x)) (.ref l9):=h9
    refine⟨_,(dy_ d x).map bG_,3,rfl,by rw [←bc_];exact h9,by decide,cb_,by rw [List.length_map];omega,fun zss qA HA hpA hascA nqA sA hqA=> ?_⟩
    obtain⟨ws,hws,rfl⟩:=dk_ hpA
    rw [←bc_] at hqA
    have s7A:=(s8.trans s9).trans sA
    have s0A:=(s06.trans s7).trans s7A
    have bad2:¬(m.Perm (dy_ d x)∧cr_ 0 m=true)→∀H',al_ H H'→Q (.bl false) H':=fun z H' s'=>kk false H' s' ⟨fun h=>(nomatch h),fun r=>absurd ((lq_ hs).mp r.2) z⟩
    refine⟨2,_,hH_ qs ws (hq7.mono s7A) hqA,by decide,_,rfl,j2_ (fun h=> ?b3) (fun h=> ?_)⟩
    case b3=>exact bad2 (fun z=>h (eX_ ((hqs.trans z.1).trans hws.symm) (d3_ hasc7) (d3_ hascA))) HA s0A
    have h:qs=ws:=h
    have hperm:m.Perm (dy_ d x):=(hqs.symm.trans (h▸List.Perm.refl _)).trans hws
    refine⟨_,rfl,ma,rfl,⟨_,SqL.of (s0A _ _ hma)⟩,aY_ (xs:=mvs) (fun i σ H7=>(∃f v6 v7 v8,σ=[some (.ref t0),some (.int d),some (.int k),some (.ref da),some (.ref ma),some (.ref l),v6,v7,v8,some (.ref acc),some (.int f)]∧cr_ f (m.drop i)=cr_ 0 m)∧al_ H H7) ⟨⟨0,v6,v7,v8,rfl,rfl⟩,s0A⟩ (fun i σ H7 _ h=>SqL.of (h.2 _ _ hma)) ?_ ?_⟩
    ·rintro i y σ HB hi ⟨⟨f,v6,v7,v8,rfl,hf⟩,sB⟩
     obtain⟨dd,hdd,hy⟩:=hmi.of_get hi
     rw [List.getElem?_map] at hdd
     obtain⟨p,hp',rfl⟩:=Option.map_eq_some_iff.mp hdd
     obtain⟨t,rfl,ht⟩:=dq_ (hy.mono sB)
     have hil:i<m.length:=(List.getElem?_eq_some_iff.mp hp').1
     have er:m[i]=p:=(List.getElem?_eq_some_iff.mp hp').2
     rw [List.drop_eq_getElem_cons hil,er] at hf
     have bad3:cr_ f (p::m.drop (i+1))=false→Q (.bl false) HB:=fun z=>bad2 (fun r=>by rw [←hf,z] at r;exact nomatch r.2) HB sB
     rw [show cr_ f (p::m.drop (i+1))=(!(decide (p.2.2=0)&&decide (p.1≠f+1))&& !(decide (p.2.2>0)&& !(decide (p.1≤f)&&decide (f<p.2.1)))&&cr_ (f+if p.2.2=0 then 1 else 0) (m.drop (i+1))) from rfl] at hf bad3
     refine⟨t,_,rfl,SqT.of ht,rfl,_,_,rfl,_,_,rfl,_,_,rfl,rfl, ?_⟩
     by_cases z:p.2.2=0
     ·refine⟨_,rfl,rfl,_,rfl,g9_ (fun _=> ?_) (fun h=>absurd z h)⟩
      refine⟨_,rfl,_,rfl,_,_,rfl,rfl,rfl,_,rfl,la_ (fun h=> ?b4) (fun h=> ?_)⟩
      case b4=>exact cV_ (bad3 (by have h:¬p.1=f+1:=h;simp [z,h]))
      have h:p.1=f+1:=h
      refine⟨_,rfl,_,_,rfl,rfl,_,rfl,eS_ (fun h=>absurd h (by omega)) (fun _=>cW_ ?_)⟩
      refine⟨_,rfl,_,rfl,rfl, .inr ⟨_,rfl,_,_,rfl,rfl, ?_⟩⟩
      refine⟨⟨_,_,_,_,rfl, ?_⟩,sB⟩
      show cr_ (f+if decide (V.int p.2.2=V.int 0)=true then 1 else 0) _=_
      rw [if_pos (by simp [z])]
      rw [←hf]
      simp [z,h]
     ·have last:(p.2.2>0→p.1≤f∧f<p.2.1)→∀σ,σ=[some (.ref t0),some (.int d),some (.int k),some (.ref da),some (.ref ma),some (.ref l),some (V.int p.1),some (.int p.2.1),some (.int p.2.2),some (.ref acc),some (.int f)]→∃f' v6 v7 v8,σ.set 10 (some (V.int (f+if decide (V.int p.2.2=V.int 0)=true then 1 else 0)))=[some (.ref t0),some (.int d),some (.int k),some (.ref da),some (.ref ma),some (.ref l),v6,v7,v8,some (.ref acc),some (.int f')]∧cr_ f' (m.drop (i+1))=cr_ 0 m:=by
       rintro g σ rfl
       refine⟨_,_,_,_,rfl, ?_⟩
       rw [if_neg (by simp [z])]
       rw [if_neg z] at hf
       rw [←hf]
       by_cases w:p.2.2>0
       ·simp [z,w,g w]
       ·simp [z,w]
      refine⟨_,rfl,rfl,_,rfl,g9_ (fun h=>absurd h z) (fun _=>cW_ ?_)⟩
      refine⟨_,rfl,_,_,rfl,rfl,_,rfl,eS_ (fun hpos=> ?_) (fun hneg=>cW_ ?_)⟩
      ·have hpos:0<p.2.2:=hpos
       refine⟨_,rfl,_,rfl,_,_,rfl,rfl,_,rfl,eS_ (fun g1=>⟨_,rfl,_,_,rfl,rfl,_,rfl,j2_ (fun h=> ?b5) (fun g2=> ?_)⟩) (fun h=> ?b6)⟩
       case b5=>exact bad3 (by have h:¬f<p.2.1:=h;simp [z,hpos,h])
       case b6=>exact⟨_,rfl,cV_ (bad3 (by have h:¬p.1≤f:=h;simp [z,hpos,h]))⟩
       refine⟨_,rfl,_,rfl,rfl, .inr ⟨_,rfl,_,_,rfl,rfl, ?_⟩⟩
       exact⟨last (fun _=>⟨g1,g2⟩) _ rfl,sB⟩
      ·refine⟨_,rfl,_,rfl,rfl, .inr ⟨_,rfl,_,_,rfl,rfl, ?_⟩⟩
       exact⟨last (fun h=>absurd h hneg) _ rfl,sB⟩
    ·rintro σ HB ⟨⟨f,v6,v7,v8,rfl,hf⟩,sB⟩
     rw [mlen,List.drop_length] at hf
     exact kk true HB sB ⟨fun _=>⟨⟨hx,hs⟩,(lq_ hs).mpr ⟨hperm,hf.symm⟩⟩,fun _=>rfl⟩
   ·rintro σ H R R' k ⟨v1,e1,v2,e2,h1,h⟩
    exact⟨v1,e1,v2,e2,h1,fun t H2 nt s2 ht=>k _ _ (h t H2 nt s2 ht)⟩
theorem hu_:FnOk P w K mg base CX0 3 T.f__law_due T.d__law_due ["_law_some","_law_d","_law_k"] (oI_ K):=by
 refine T.X__law_due.F.ok aT_ (fun vs H Q E h=> ?_) (fun cdv A outer s H vs Q E hr h=> ?_)
 ·obtain⟨_,_,_,_,rfl,_⟩:=h
  rfl
 ·obtain⟨d,k,v,B,rfl,hP,⟨hv,B1,mem⟩,kk,kn⟩:=h
  refine⟨_,(ac_ (ap_ (i:=3) aT_.nd rfl (by trivial) ad_)
   (ac_ (aX_ PassesOwn.never rfl (dm_ (by rfl) T.n_range (aa_ (av_ b6_ (by rfl) T.n_len boot_len (aa_ (pv 0) ab_)) ab_)) (am_ (i:=4) aT_.nd rfl (by trivial)) (ac_ (a8_ (dY_ (cC_ (cZ_ (ai_ (dZ_ T) (hr.mono (by decide)) (by rfl) T.X__law_is_right.m T.X__law_is_right.F.kp T.X__law_is_right.B .nil aw_ (aa_ (aK_ cR_ (pv 0) (pv 4) (fun _ _=>rfl)) (aa_ (pv 1) (aa_ (pv 2) ab_)))))) (dl_ (aq_ (nt_ hr) (aK_ cR_ (pv 0) (pv 4) (fun _ _=>rfl)) (cd_ c6_ (pv 0) db_ (cE_ (pv 4))) rfl))).pt (af_ (au_ h6_)) aE_)
   (ac_ (ap_ (i:=5) aT_.nd rfl (by trivial) ad_)
   (ac_ (aX_ PassesOwn.never rfl (aN_ (aK_ aD_ (aK_ cR_ (pv 0) (pv 4) (fun _ _=>rfl)) ad_ (fun _ _=>rfl))) (cF_ rfl (az_ (am_ (i:=6) aT_.nd rfl (by trivial)) (az_ (am_ (i:=7) aT_.nd rfl (by trivial)) (az_ (am_ (i:=8) aT_.nd rfl (by trivial)) bL_)))) (af_ (ap_ (i:=5) aT_.nd rfl (by trivial) (ao_ cG_ (ao_ cG_ (pv 5) (pv 8)) (pv 8)))))
   (af_ (ap_ (i:=3) aT_.nd rfl (by trivial) (ao_ aO_ (pv 3) (pv 5))))))))
   (af_ (au_ (pv 3))))), ?_⟩
  have d15:1≤d∧d≤5:=by have:=hP.wide;unfold Wide at this;omega
  have k6:k≤6:=by unfold P94 at hP;omega
  obtain⟨l,lvs,rfl,hl,hli⟩:=bm_ hv
  have llen:lvs.length=B.length:=by rw [hli.length,List.length_map]
  refine⟨_,rfl,_,_,rfl, .inl hv,_,rfl,by rw [List.length_map];omega,by rw [List.length_map];omega, ?_⟩
  rw [show(((B.map a2_).length:Nat):Int).toNat=B.length by rw [List.length_map];omega]
  refine bz_ (lo:=0) (n:=B.length) (fun j σ H2=>(∃v4 v5 v6 v7 v8,σ=[some (.ref l),some (.int d),some (.int k),some (.int (hc_ (B.take j))),v4,v5,v6,v7,v8])∧al_ H H2∧eM_ d k (B.take j)) ⟨⟨none,none,none,none,none,rfl⟩,al_.refl _,fX_⟩ ?_ ?_
  ·rintro j σ H2 hj ⟨⟨v4,v5,v6,v7,v8,rfl⟩,s2,g2⟩
   rw [Int.zero_add]
   obtain⟨e,he⟩:∃e,B[j]? =some e:=⟨B[j],List.getElem?_eq_getElem hj⟩
   have hat:atI (B.map a2_) (j:Int)=some (a2_ e):=b0_ (by rw [List.getElem?_map,he];rfl)
   have bad:¬(Rgt d k e∧e∉B.take j)→∀H',al_ H H'→Q .non H':=fun z=>kn fun g=>z (kc_ g he)
   have tk:B.take (j+1)=B.take j++[e]:=by rw [List.take_add_one,he];rfl
   obtain⟨m1,m2⟩:=mem e (List.mem_of_getElem? he)
   refine⟨_,rfl,_,rfl,B.map a2_,(j:Int),_,hv.mono s2,rfl,hat,fun y hy=> ?_⟩
   refine⟨_,rfl,_,rfl,d,k,y,e,rfl,d15.1,d15.2,k6,hy,m1,m2,fun b H3 s3 hb=>⟨b,rfl, ?_⟩⟩
   have s03:=s2.trans s3
   cases b with
   |false=>exact cV_ (cV_ (bad (fun z=>nomatch hb.mpr z.1) H3 s03))
   |true=>
   have r:=hb.mp rfl
   refine cW_ ?_
   refine⟨_,rfl,_,rfl,B.map a2_,(j:Int),_,hv.mono s03,rfl,hat,fun y hy=> ?_⟩
   refine⟨_,rfl,_,rfl,(j:Int),rfl,l,_,rfl,SqL.of (s03 _ _ hl), ?_⟩
   rw [ea_]
   intro q1 n1
   have sB:al_ H3 (upd H3 q1 (.lst (lvs.take j))):=al_.new n1
   have h1:upd H3 q1 (.lst (lvs.take j)) q1=some (.lst (lvs.take j)):=ae_
   generalize upd H3 q1 (.lst (lvs.take j))=H4 at sB h1⊢
   have s04:=s03.trans sB
   have hti:Iss H4 ((B.take j).map a2_) (lvs.take j):=by rw [List.map_take];exact(hli.take j).mono s04
   have ea:(List.range (lvs.take j).length).any (fun i=>decide ((B.take j).getD i ([],[])=e))=decide (e∈B.take j):=by
    have ll:(lvs.take j).length=(B.take j).length:=by rw [List.length_take,List.length_take,llen]
    by_cases hin:e∈B.take j
    ·rw [decide_eq_true hin]
     obtain⟨i,hi,e⟩:=List.mem_iff_getElem.mp hin
     refine List.any_eq_true.mpr ⟨i,List.mem_range.mpr (by omega),decide_eq_true ?_⟩
     rw [List.getD_eq_getElem?_getD,List.getElem?_eq_getElem hi,e]
     rfl
    ·rw [decide_eq_false hin]
     refine List.any_eq_false.mpr fun i hi z=>hin ?_
     have hi:=List.mem_range.mp hi
     rw [decide_eq_true_eq,List.getD_eq_getElem?_getD,List.getElem?_eq_getElem (by omega)] at z
     exact z▸List.getElem_mem _
   refine⟨q1,_,4,_,rfl,SqL.of h1,m2_ hti (hy.mono sB),_,rfl, ?_⟩
   rw [ea]
   by_cases hin:e∈B.take j
   ·rw [decide_eq_true hin]
    exact cV_ (bad (fun z=>z.2 hin) H4 s04)
   rw [decide_eq_false hin]
   refine cW_ ?_
   have o2:=(dz_ r.1.2 d15.1 d15.2).2.2
   refine⟨_,rfl,_,rfl,B.map a2_,(j:Int),_,hv.mono s04,rfl,hat,fun y hy=> ?_⟩
   refine⟨_,0,_,hy,rfl,rfl,fun u1 hu1=> ?_⟩
   obtain⟨a,vs,rfl,ha,hi⟩:=bm_ hu1
   have vlen:vs.length=e.1.length:=by rw [hi.length,List.length_map]
   refine⟨a,rfl,⟨_,SqL.of ha⟩,aY_ (xs:=vs) (fun i σ H5=>(∃v2 v3 v4,σ=[some (.ref l),some (.int d),some (.int k),some (.int (hc_ (B.take j))),some (.int j),some (.int (ct_ (e.1.take i))),v2,v3,v4])∧H5=H4) ⟨⟨v6,v7,v8,rfl⟩,rfl⟩ (fun i σ H6 _ h=>by rw [h.2];exact SqL.of ha) ?_ ?_⟩
   ·rintro i y σ H5 hj ⟨⟨v2,v3,v4,rfl⟩,rfl⟩
    obtain⟨dd,hdd,hy⟩:=hi.of_get hj
    rw [List.getElem?_map] at hdd
    obtain⟨p,hp,rfl⟩:=Option.map_eq_some_iff.mp hdd
    obtain⟨w1,w2⟩:=o2 p (List.mem_of_getElem? hp)
    obtain⟨t,rfl,ht⟩:=dq_ hy
    refine⟨t,_,rfl,SqT.of ht,rfl,_,_,rfl,_,_,rfl,_,_,rfl,rfl, ?_⟩
    refine⟨_,rfl,_,rfl,_,_,rfl,rfl, .inr ⟨by omega,by omega⟩,_,rfl,_,_,rfl,rfl, .inr ⟨by omega,by omega⟩,⟨some (.int p.1),some (.int p.2.1),some (.int p.2.2), ?_⟩,rfl⟩
    rw [iI_ hp]
    rfl
   ·rintro σ H5 ⟨⟨v2,v3,v4,rfl⟩,rfl⟩
    rw [vlen,List.take_length]
    refine⟨_,rfl,_,rfl,_,_,rfl,rfl,⟨some (.int j),some (.int (ct_ e.1)),v2,v3,v4, ?_⟩,s04, ?_⟩
    ·rw [tk,hX_,show hc_ [e]=ct_ e.1 by simp [hc_]]
     rfl
    ·rw [tk]
     exact iw_ g2 hin r
  ·rintro σ H2 ⟨⟨v4,v5,v6,v7,v8,rfl⟩,s2,g2⟩
   rw [List.take_length] at g2⊢
   exact⟨_,rfl,kk g2 H2 s2⟩
theorem cg_:FnOk P w K mg base CX0 9 T.f__law_asked T.d__law_asked ["_law_d","_law_k","_law_some"] (oL_ K):=by
 refine T.X__law_asked.F.ok bE_ (fun vs H Q E h=> ?_) (fun cdv A outer s H vs Q E hr h=> ?_)
 ·obtain⟨_,_,_,_,rfl,_⟩:=h
  rfl
 ·obtain⟨d,k,v,F,rfl,hP,⟨hv,B1,mem⟩,kk⟩:=h
  refine⟨_,(ac_ (fq_ (i:=3) bE_.nd rfl (by trivial) (.inl rfl) (XN:=["_law_d","_law_k","_law_some","_law_handed","_law_found","_law_due_here"]) (sc:=ah_ bQ_) (N:=["_law_one"]) (own:=1) (js:=[]) rfl (by decide+kernel) rfl rfl (aN_ (pv 2)) (fun _ _ _ _=>(am_ (i:=0) (show List.Nodup (["_law_one"]:List Str) by decide+kernel) rfl (Or.inl rfl) (.inr rfl))) (a0_ (by decide)) (fun _ _ _ _=>bR_) (fun _ _ _ _=>(aH_ (aa_ (aR_ aG_ (by rfl) T.n_list boot_list (aa_ (aK_ aD_ (pv 0) ad_ (fun _ _=>rfl)) ab_)) (aa_ (aR_ aG_ (by rfl) T.n_list boot_list (aa_ (aK_ aD_ (pv 0) ad_ (fun _ _=>rfl)) ab_)) ab_)))))
   (ac_ (ap_ (i:=4) bE_.nd rfl (by trivial) (ai_ (e2_ T) (hr.mono (by decide)) (by rfl) T.X_weighed.m T.X_weighed.F.kp T.X_weighed.B .nil aw_ (aa_ (pv 0) (aa_ (pv 1) (aa_ (pv 3) ab_)))))
   (ac_ (a8_ (dY_ (aq_ (gn_ hr) (pv 3) (pv 2) (ax_ _)) (dl_ (cZ_ (av_ ec_ (by rfl) T.n_isinstance boot_isinstance (aa_ (pv 4) (aa_ (fs_ (v:= .ty "bool") (by rfl) T.n_bool boot_bool (by rfl)) ab_)))))).pt (af_ (au_ eo_)) aE_)
   (ac_ (ap_ (i:=5) bE_.nd rfl (by trivial) (ai_ (hu_ T) (hr.mono (by decide)) (by rfl) T.X__law_due.m T.X__law_due.F.kp T.X__law_due.B .nil aw_ (aa_ (pv 2) (aa_ (pv 0) (aa_ (pv 1) ab_)))))
   (af_ (au_ (oW_ (ep_ (bX_ lp_ (pv 4) h6_ (ax_ _)) (dR_ (bX_ lp_ (pv 5) h6_ (ax_ _)))) (dR_ (ep_ (av_ ec_ (by rfl) T.n_isinstance boot_isinstance (aa_ (pv 4) (aa_ (fs_ (v:= .ty "int") (by rfl) T.n_int boot_int (by rfl)) ab_))) (dR_ (bX_ ce_ (pv 4) (pv 5) (ax_ _)))))))))))), ?_⟩
  obtain⟨l,lvs,rfl,hl,hli⟩:=bm_ hv
  have llen:lvs.length=F.length:=by rw [hli.length,List.length_map]
  refine⟨_,rfl,l,rfl,⟨_,SqL.of hl⟩,fun acc na=> ?_⟩
  refine bb_ (xs:=lvs) (own:=1) (js:=[]) (fun j HC=>al_ H HC∧Acc H HC acc ((F.take j).map a2_)) ⟨al_.new na,Acc.start ae_⟩ (fun j HC _ h=>SqL.of (h.1 _ _ hl)) ?_ ?_ a1_ bS_ ?_
  ·rintro j y HC hj ⟨sC,vsC,haccC,hiC⟩
   obtain⟨dd,hdd,hy⟩:=hli.of_get hj
   rw [List.getElem?_map] at hdd
   obtain⟨e,he,rfl⟩:=Option.map_eq_some_iff.mp hdd
   have jl:j<F.length:=(List.getElem?_eq_some_iff.mp he).1
   have vl:vsC.length≤900:=by rw [hiC.length,List.length_map,List.length_take];omega
   refine lk_ ?_
   refine⟨_,rfl,_,0,_,hy.mono sC,rfl,rfl,fun u1 hu1=>⟨u1,e.1.map lf,rfl, .inl hu1,fun p1 HD np1 sD' hp1=> ?_⟩⟩
   refine⟨_,rfl,_,1,_,(hy.mono sC).mono sD',rfl,rfl,fun u2 hu2=>⟨u2,e.2.map lf,rfl, .inl hu2,fun p2 HE np2 sE hp2=>⟨(by show 2≤sizeLine;decide),fun tt HF ntt sF htt=> ?_⟩⟩⟩
   have sCF:=(sD'.trans sE).trans sF
   refine⟨acc,vsC,_,rfl,rfl,sCF _ _ haccC,ak_ (by omega),(sC.trans sCF).put na, ?_⟩
   rw [List.take_add_one,he,List.map_append]
   exact Acc.add sC sCF haccC hiC (iY_ (gt_ sCF htt) (ag_ (cK_ sCF np1 ((hp1.mono sE).mono sF)) (ag_ (cK_ sCF (sD'.free np2) (hp2.mono sF)) aj_)))
  ·rintro HC ⟨sC,haccC⟩
   rw [llen,List.take_length] at haccC
   have hkp:Is HC (.l (F.map a2_)) (.ref acc):=(haccC.is na).mono aJ_
   by_cases g:eM_ d k F
   ·refine⟨_,rfl,_,rfl,_,rfl,d,k, .ref acc,F,rfl,hP,⟨hkp,B1,mem⟩,fun _ HD sD=> ?_,fun z=>absurd g z⟩
    have sHD:=sC.trans sD
    refine⟨_,rfl,_,rfl,5,true,kh_ (hkp.mono sD) (hv.mono sHD),by decide,_,rfl,cW_ ?_⟩
    refine⟨_,rfl,_,"bool",_,false,rfl, .int _,dV_,false,rfl,cW_ ?_⟩
    refine⟨_,rfl,_,rfl,_,rfl,d,k, .ref l,F,rfl,hP,⟨hv.mono sHD,B1,mem⟩,fun _ HE sE=> ?_,fun z=>absurd g z⟩
    refine⟨_,rfl,rfl,_,rfl, ?_⟩
    rw [decide_eq_false (by simp)]
    refine cW_ ⟨_,rfl,cW_ ?_⟩
    refine⟨_,rfl,_,"int",_,true,rfl, .int _,fR_,_,rfl,cV_ ?_⟩
    refine⟨_,rfl,_,rfl,rfl, ?_⟩
    rw [decide_eq_true rfl]
    exact kk HE (sHD.trans sE)
   ·refine⟨_,rfl,_,rfl,_,rfl,d,k, .ref acc,F,rfl,hP,⟨hkp,B1,mem⟩,fun z=>absurd z g,fun _ HD sD=> ?_⟩
    have sHD:=sC.trans sD
    refine⟨_,rfl,_,rfl,5,true,kh_ (hkp.mono sD) (hv.mono sHD),by decide,_,rfl,cW_ ?_⟩
    refine⟨_,rfl,_,"bool",_,false,rfl, .non,fS_,false,rfl,cW_ ?_⟩
    refine⟨_,rfl,_,rfl,_,rfl,d,k, .ref l,F,rfl,hP,⟨hv.mono sHD,B1,mem⟩,fun z=>absurd z g,fun _ HE sE=> ?_⟩
    refine⟨_,rfl,rfl,_,rfl, ?_⟩
    rw [decide_eq_true rfl]
    refine cV_ ⟨_,rfl,rfl,_,rfl, ?_⟩
    rw [decide_eq_true rfl]
    exact cV_ (kk HE (sHD.trans sE))
  ·rintro σ H R R' k' ⟨v1,e1,xs,i,d,h1,e2,e3,h⟩
   refine⟨v1,e1,xs,i,d,h1,e2,e3,fun u hu=> ?_⟩
   obtain⟨v2,xs2,e4,h4,h⟩:=h u hu
   refine⟨v2,xs2,e4,h4,fun p H2 np s2 hp=> ?_⟩
   obtain⟨v3,e5,ys,j,d2,h5,e6,e7,h⟩:=h p H2 np s2 hp
   refine⟨v3,e5,ys,j,d2,h5,e6,e7,fun u2 hu2=> ?_⟩
   obtain⟨v4,xs4,e8,h8,h⟩:=h u2 hu2
   refine⟨v4,xs4,e8,h8,fun p2 H3 np2 s3 hp2=> ?_⟩
   obtain⟨z,h⟩:=h p2 H3 np2 s3 hp2
   exact⟨z,fun t H4 nt s4 ht=>k' _ _ (h t H4 nt s4 ht)⟩
theorem gr_:FnOk P w K mg base CX0 3 T.f__law_left T.d__law_left ["_law_bag_here","_law_some"] (nb_ K):=by
 refine T.X__law_left.F.ok bv_ (fun vs H Q E h=> ?_) (fun cdv A outer s H vs Q E hr h=> ?_)
 ·obtain⟨_,_,_,_,_,rfl,_⟩:=h
  rfl
 ·obtain⟨b,far,st,v,F,rfl,hb,hf,hst,hv,f9,mem,kk⟩:=h
  refine⟨_,(ac_ (ap_ (i:=2) bv_.nd rfl (by trivial) (ao_ aO_ ad_ (ai_ (ay_ T) (hr.mono (by decide)) (by rfl) T.X__law_digit.m T.X__law_digit.F.kp T.X__law_digit.B .nil aw_ (aa_ (pv 0) (aa_ ad_ ab_)))))
   (ac_ (ap_ (i:=3) bv_.nd rfl (by trivial) (ai_ (ay_ T) (hr.mono (by decide)) (by rfl) T.X__law_digit.m T.X__law_digit.F.kp T.X__law_digit.B .nil aw_ (aa_ (pv 0) (aa_ (ao_ aO_ (av_ b6_ (by rfl) T.n_len boot_len (aa_ (pv 1) ab_)) ad_) ab_))))
   (ac_ (ap_ (i:=4) bv_.nd rfl (by trivial) (aI_ ab_))
   (ac_ (aX_ PassesOwn.never rfl (oT_ (by rfl) T.n_range (aa_ (pv 3) (aa_ (av_ b6_ (by rfl) T.n_len boot_len (aa_ (pv 1) ab_)) (aa_ (pv 2) ab_)))) (am_ (i:=5) bv_.nd rfl (by trivial)) (af_ (aM_ (dE_ PySem.F.plainAttrs_list PySem.F.slot_list_append PySem.F.type_list_append by_ (pv 4) (aa_ (aH_ (aa_ (aR_ aG_ (by rfl) T.n_list boot_list (aa_ (aK_ aD_ (aK_ cR_ (pv 1) (pv 5) (fun _ _=>rfl)) ad_ (fun _ _=>rfl)) ab_)) (aa_ (aR_ aG_ (by rfl) T.n_list boot_list (aa_ (aK_ aD_ (aK_ cR_ (pv 1) (pv 5) (fun _ _=>rfl)) ad_ (fun _ _=>rfl)) ab_)) ab_))) ab_)))))
   (ac_ (a8_ (aq_ ce_ (ai_ (ay_ T) (hr.mono (by decide)) (by rfl) T.X__law_digit.m T.X__law_digit.F.kp T.X__law_digit.B .nil aw_ (aa_ (pv 0) (aa_ ad_ ab_))) ad_ (ax_ _)) (af_ (aM_ (np_ PySem.F.plainAttrs_list PySem.F.slot_list_reverse PySem.F.type_list_reverse iS_ (pv 4)))) aE_)
   (af_ (au_ (pv 4)))))))), ?_⟩
  refine⟨_,rfl,b,9,far,st,rfl,hb,hf,hst,by decide,by decide,fun y far1 st1 y0 y1 hf1 hst1=>⟨_,_,rfl,rfl, ?_⟩⟩
  have hb1:Bag (upd H b (.lst [.int far1, .int st1])) b far1 st1:=ae_
  have but1:But b H (upd H b (.lst [.int far1, .int st1])):=But.upd
  have hv1:Is (hid (upd H b (.lst [.int far1, .int st1])) b) (.l (F.map a2_)) v:=by rw [bY_];exact hv
  generalize upd H b (.lst [.int far1, .int st1])=H1 at hb1 but1 hv1⊢
  refine⟨_,rfl,_,rfl,_,_,rfl, .inl (hv1.mono as_),_,_,rfl,rfl,b,((F.map a2_).length:Int)+1,far1,st1,rfl,hb1,hf1,hst1,by omega,by rw [List.length_map];omega,fun z far2 st2 z0 z1 hf2 hst2=> ?_⟩
  have hb2:Bag (upd H1 b (.lst [.int far2, .int st2])) b far2 st2:=ae_
  have but2:But b H (upd H1 b (.lst [.int far2, .int st2])):=but1.trans But.upd
  have hv2:Is (hid (upd H1 b (.lst [.int far2, .int st2])) b) (.l (F.map a2_)) v:=by rw [bY_];exact hv1
  generalize upd H1 b (.lst [.int far2, .int st2])=H2 at hb2 but2 hv2⊢
  have hv2:=hv2.mono as_
  rw [List.length_map] at z1
  refine⟨Nat.zero_le _,fun fo H3 nfo s3 hfo=> ?_⟩
  refine⟨_,rfl,_,rfl,_,_,rfl, .inl (hv2.mono s3),_,rfl,_,_,_,rfl,⟨by omega,by omega,by omega,by rw [List.length_map];omega⟩,⟨by omega,by omega⟩, ?_⟩
  have cn:=eK_ (a:=z) (b:=((F.map a2_).length:Int)) (st:=1+y) (by omega)
  have cn9:kw_ z ((F.map a2_).length:Int) (1+y)≤900:=by
   have h1:=cn.1
   have h2:=cn.2
   rw [List.length_map] at h1 h2⊢
   split at h2<;>omega
  refine nS_ (lo:=z) (st:=1+y) (n:=kw_ z ((F.map a2_).length:Int) (1+y)) (fun i σ H4=>(∃v5,σ=[some (.ref b),some v,some (.int (1+y)),some (.int z),some (.ref fo),v5])∧al_ H2 H4∧∃G:List En,Acc H2 H4 fo (G.map a2_)∧G.length=i∧∀e∈G,e∈F) ⟨⟨none,rfl⟩,s3,[],Acc.start hfo,rfl,fun _ h=>nomatch h⟩ ?_ ?_
  ·rintro i σ H4 hi ⟨⟨v5,rfl⟩,s4,G,⟨vs4,hfo4,hi4⟩,gl,hG⟩
   obtain⟨u0,u1⟩:=oh_ (by omega) hi
   rw [List.length_map] at u1
   obtain⟨j,hj⟩:=Int.eq_ofNat_of_zero_le (show 0≤z+(i:Int)*(1+y) by omega)
   rw [hj]
   obtain⟨e,he⟩:∃e,F[j]? =some e:=⟨F[j]'(by omega),List.getElem?_eq_getElem (by omega)⟩
   have hat:atI (F.map a2_) (j:Int)=some (a2_ e):=b0_ (by rw [List.getElem?_map,he];rfl)
   have hv4:=hv2.mono s4
   refine⟨_,rfl, .inl ⟨rfl,_,SqL.of hfo4⟩,_,rfl,_,rfl,F.map a2_,(j:Int),_,hv4,rfl,hat,fun w1 hw1=>⟨_,0,_,hw1,rfl,rfl,fun u1 hu1=>⟨u1,e.1.map lf,rfl, .inl hu1,fun p1 HD np1 sD' hp1=> ?_⟩⟩⟩
   refine⟨_,rfl,_,rfl,F.map a2_,(j:Int),_,hv4.mono sD',rfl,hat,fun w2 hw2=>⟨_,1,_,hw2,rfl,rfl,fun u2 hu2=>⟨u2,e.2.map lf,rfl, .inl hu2,fun p2 HE np2 sE hp2=>⟨(by show 2≤sizeLine;decide),fun tt HF ntt sF htt=> ?_⟩⟩⟩⟩
   have sCF:=(sD'.trans sE).trans sF
   have vl:vs4.length≤900:=by rw [hi4.length,List.length_map,gl];omega
   refine⟨fo,vs4,_,rfl,rfl,sCF _ _ hfo4,ak_ (by omega),⟨_,rfl⟩,(s4.trans sCF).put nfo,G++[e], ?_,by rw [List.length_append,gl];rfl,fun x hx=> ?_⟩
   ·rw [List.map_append]
    exact Acc.add s4 sCF hfo4 hi4 (iY_ (gt_ sCF htt) (ag_ (cK_ sCF np1 ((hp1.mono sE).mono sF)) (ag_ (cK_ sCF (sD'.free np2) (hp2.mono sF)) aj_)))
   ·rcases List.mem_append.mp hx with hx|hx
    ·exact hG x hx
    ·rw [List.mem_singleton.mp hx]
     exact List.mem_of_getElem? he
  ·rintro σ H4 ⟨⟨v5,rfl⟩,s4,G,hacc,gl,hG⟩
   have bfo:b≠fo:=by rintro rfl;rw [show H2 b=_ from hb2] at nfo;cases nfo
   have nfoH:H fo=none:=iF_ but2 nfo bfo
   refine⟨_,rfl,b,2,far2,st2,rfl,s4 _ _ hb2,hf2,hst2,by decide,by decide,fun z3 far3 st3 z30 z31 hf3 hst3=> ?_⟩
   obtain⟨vs4,hfo4,hi4⟩:=hacc
   have hfo5:upd H4 b (.lst [.int far3, .int st3]) fo=some (.lst vs4):=by rw [ar_ bfo.symm];exact hfo4
   have hi5:Iss (hid (nw H2 (upd H4 b (.lst [.int far3, .int st3]))) fo) (G.map a2_) vs4:=hi4.mono (aA_ (mi_ hb2))
   have but5:But b H (upd H4 b (.lst [.int far3, .int st3])):=(but2.trans (But.of_same s4)).trans But.upd
   generalize upd H4 b (.lst [.int far3, .int st3])=H5 at hfo5 hi5 but5⊢
   have out:∀{G':List En}{ws:List V}{H6:Hp},H6 fo=some (.lst ws)→Iss (hid (nw H2 H6) fo) (G'.map a2_) ws→Is (hid H6 b) (.l (G'.map a2_)) (.ref fo):=fun h1 h2=>((Acc.is nfo ⟨_,h1,h2⟩).mono (c1_ (al_.refl H2) hb2)).mono (aA_ aJ_)
   refine⟨rfl,_,rfl,g9_ (fun _=> ?_) (fun _=> ?_)⟩
   ·refine⟨_,rfl, .inl ⟨rfl,_,SqL.of hfo5⟩,fo,vs4,rfl,rfl,hfo5,_,rfl, ?_⟩
    refine kk fo G.reverse _ (fun c o e ne=> ?_) nfoH (out (ws:=vs4.reverse) ae_ (by rw [b5_,List.map_reverse];exact hC_ hi5)) (by rw [List.length_reverse];omega) (fun e he=>hG e (List.mem_reverse.mp he))
    rw [ar_ (by rintro rfl;rw [nfoH] at e;cases e)]
    exact but5 _ _ e ne
   ·exact⟨_,rfl,kk fo G H5 but5 nfoH (out hfo5 hi5) (by omega) hG⟩
theorem cI_:FnOk P w K mg base CX0 3 T.f__law_odd_row T.d__law_odd_row ["_law_bag_here","_law_row","_law_d"] (oA_ K):=by
 refine T.X__law_odd_row.F.ok bi_ (fun vs H Q E h=> ?_) (fun cdv A outer s H vs Q E hr h=> ?_)
 ·obtain⟨_,_,_,_,_,_,rfl,_⟩:=h
  rfl
 ·obtain⟨b,far,st,v,x,d,rfl,hb,hf,hst,d1,d5,hv,x30,kk⟩:=h
  refine⟨_,(ac_ (ap_ (i:=3) bi_.nd rfl (by trivial) (ao_ aO_ ad_ (ai_ (ay_ T) (hr.mono (by decide)) (by rfl) T.X__law_digit.m T.X__law_digit.F.kp T.X__law_digit.B .nil aw_ (aa_ (pv 0) (aa_ (ao_ jB_ ad_ ad_) ab_)))))
   (ac_ (ap_ (i:=4) bi_.nd rfl (by trivial) (aI_ (aa_ (aH_ (aa_ ad_ (aa_ (ao_ aO_ (pv 2) ad_) (aa_ ad_ ab_)))) (aa_ (aH_ (aa_ ad_ (aa_ ad_ (aa_ ad_ ab_)))) (aa_ (aH_ (aa_ ad_ (aa_ ad_ (aa_ ad_ ab_)))) (aa_ (aH_ (aa_ ad_ (aa_ ad_ (aa_ ad_ ab_)))) (aa_ (aH_ (aa_ ad_ (aa_ ad_ (aa_ (ao_ a6_ ad_ (pv 3)) ab_)))) (aa_ (aH_ (aa_ ad_ (aa_ ad_ (aa_ ad_ ab_)))) (aa_ (aH_ (aa_ (pv 3) (aa_ (pv 3) (aa_ ad_ ab_)))) (aa_ (aH_ (aa_ ad_ (aa_ ad_ (aa_ (pv 3) ab_)))) ab_))))))))))
   (ac_ (ap_ (i:=5) bi_.nd rfl (by trivial) (ai_ (ay_ T) (hr.mono (by decide)) (by rfl) T.X__law_digit.m T.X__law_digit.F.kp T.X__law_digit.B .nil aw_ (aa_ (pv 0) (aa_ (ao_ aO_ (av_ b6_ (by rfl) T.n_len boot_len (aa_ (pv 1) ab_)) ad_) ab_))))
   (af_ (au_ (ao_ cf_ (ao_ cf_ (cd_ c6_ (pv 1) db_ (cE_ (pv 5))) (aI_ (aa_ (aK_ cR_ (pv 4) (ai_ (ay_ T) (hr.mono (by decide)) (by rfl) T.X__law_digit.m T.X__law_digit.F.kp T.X__law_digit.B .nil aw_ (aa_ (pv 0) (aa_ ad_ ab_))) (fun _ _=>rfl)) ab_))) (cd_ c6_ (pv 1) (cE_ (ao_ aO_ (pv 5) (ai_ (ay_ T) (hr.mono (by decide)) (by rfl) T.X__law_digit.m T.X__law_digit.F.kp T.X__law_digit.B .nil aw_ (aa_ (pv 0) (aa_ ad_ ab_))))) db_))))))), ?_⟩
  refine⟨_,rfl,10,20,rfl,rfl,⟨by decide,by decide,by decide⟩,b,10^20,far,st,rfl,hb,hf,hst,by decide,by decide,fun z far1 st1 z0 z1 hf1 hst1=>⟨_,_,rfl,rfl, ?_⟩⟩
  have hb1:Bag (upd H b (.lst [.int far1, .int st1])) b far1 st1:=ae_
  have but1:But b H (upd H b (.lst [.int far1, .int st1])):=But.upd
  have hv1:Is (hid (upd H b (.lst [.int far1, .int st1])) b) (lfs x) v:=by rw [bY_];exact hv
  generalize upd H b (.lst [.int far1, .int st1])=H1 at hb1 but1 hv1⊢
  have b3:3≤sizeLine:=by decide
  refine⟨_,rfl,_,_,rfl,rfl,b3,fun t1 G1 n1 s1 h1=>⟨b3,fun t2 G2 n2 s2 h2=>⟨b3,fun t3 G3 n3 s3 h3=>⟨b3,fun t4 G4 n4 s4 h4=>⟨_,rfl,_,_,rfl,rfl,b3,fun t5 G5 n5 s5 h5=>⟨b3,fun t6 G6 n6 s6 h6=>⟨_,rfl,_,rfl,b3,fun t7 G7 n7 s7 h7=>⟨_,rfl,b3,fun t8 G8 n8 s8 h8=>⟨(by show 8≤sizeLine;decide),fun od G9 n9 s9 h9=> ?_⟩⟩⟩⟩⟩⟩⟩⟩⟩
  obtain⟨O,ol,hod⟩:∃O:List Lf,O.length=8∧Is G9 (lfs O) (.ref od):=by
   refine⟨[(1,(d:Int)+1,1),(2,1,1),(1,1,1),(1,2,0),(1,2,0-(61+z)),(0,1,1),(61+z,61+z,0),(1,2,61+z)],rfl, ?_⟩
   exact bJ_ h9 (ag_ (cj_ (s9 _ _ (s8 _ _ (s7 _ _ (s6 _ _ (s5 _ _ (s4 _ _ (s3 _ _ (s2 _ _ h1))))))))) (ag_ (cj_ (s9 _ _ (s8 _ _ (s7 _ _ (s6 _ _ (s5 _ _ (s4 _ _ (s3 _ _ h2)))))))) (ag_ (cj_ (s9 _ _ (s8 _ _ (s7 _ _ (s6 _ _ (s5 _ _ (s4 _ _ h3))))))) (ag_ (cj_ (s9 _ _ (s8 _ _ (s7 _ _ (s6 _ _ (s5 _ _ h4)))))) (ag_ (cj_ (s9 _ _ (s8 _ _ (s7 _ _ (s6 _ _ h5))))) (ag_ (cj_ (s9 _ _ (s8 _ _ (s7 _ _ h6)))) (ag_ (cj_ (s9 _ _ (s8 _ _ h7))) (ag_ (cj_ (s9 _ _ h8)) aj_))))))))
  have s19:=(((((((s1.trans s2).trans s3).trans s4).trans s5).trans s6).trans s7).trans s8).trans s9
  have hb9:Bag G9 b far1 st1:=s19 _ _ hb1
  have but9:But b H G9:=but1.trans (But.of_same s19)
  have nod:od≠b:=by rintro rfl;rw [(((((((s1.trans s2).trans s3).trans s4).trans s5).trans s6).trans s7).trans s8) _ _ hb1] at n9;cases n9
  have hod9:=bt_ hb9 nod hod
  have hv9:=hv1.mono (aA_ s19)
  clear h1 h2 h3 h4 h5 h6 h7 h8 h9 hod n1 n2 n3 n4 n5 n6 n7 n8 n9 s1 s2 s3 s4 s5 s6 s7 s8 s9 s19
  refine⟨_,rfl,_,rfl,_,_,rfl, .inl (hv9.mono as_),_,_,rfl,rfl,b,((x.map lf).length:Int)+1,far1,st1,rfl,hb9,hf1,hst1,by omega,by rw [List.length_map];omega,fun a far2 st2 a0 a1 hf2 hst2=> ?_⟩
  rw [List.length_map] at a1
  obtain⟨j,rfl⟩:=Int.eq_ofNat_of_zero_le a0
  have hb2:Bag (upd G9 b (.lst [.int far2, .int st2])) b far2 st2:=ae_
  have but2:But b H (upd G9 b (.lst [.int far2, .int st2])):=but9.trans But.upd
  have hv2:Is (hid (upd G9 b (.lst [.int far2, .int st2])) b) (lfs x) v:=by rw [bY_];exact hv9
  have hod2:Is (hid (upd G9 b (.lst [.int far2, .int st2])) b) (lfs O) (.ref od):=by rw [bY_];exact hod9
  generalize upd G9 b (.lst [.int far2, .int st2])=H2 at hb2 but2 hv2 hod2⊢
  clear hb9 but9 hod9 hv9
  obtain⟨xa,xvs,rfl,hxa,hxi⟩:=bm_ hv2
  have nxa:xa≠b:=by rintro rfl;rw [dv_] at hxa;cases hxa
  have xl:xvs.length=x.length:=by rw [hxi.length,List.length_map]
  refine⟨_,rfl,_,rfl,(j:Int),rfl,xa,_,rfl,SqL.of (as_ _ _ hxa), ?_⟩
  rw [ea_]
  intro q1 n1
  have s3:al_ H2 (upd H2 q1 (.lst (xvs.take j))):=al_.new n1
  have hq1:upd H2 q1 (.lst (xvs.take j)) q1=some (.lst (xvs.take j)):=ae_
  have nq1:q1≠b:=by rintro rfl;rw [show H2 q1=_ from hb2] at n1;cases n1
  generalize upd H2 q1 (.lst (xvs.take j))=H3 at s3 hq1⊢
  have hb3:Bag H3 b far2 st2:=s3 _ _ hb2
  have but3:=but2.trans (But.of_same s3)
  have iq1:Is (hid H3 b) (lfs (x.take j)) (.ref q1):=bJ_ (by rw [br_ nq1];exact hq1) (by rw [List.map_take];exact(hxi.take j).mono (aA_ s3))
  have hv3:=hv2.mono (aA_ s3)
  have hod3:=hod2.mono (aA_ s3)
  refine⟨_,rfl,_,rfl,b,8,far2,st2,rfl,hb3,hf2,hst2,by decide,by decide,fun i far4 st4 i0 i1 hf4 hst4=> ?_⟩
  obtain⟨i,rfl⟩:=Int.eq_ofNat_of_zero_le i0
  have hb4:Bag (upd H3 b (.lst [.int far4, .int st4])) b far4 st4:=ae_
  have but4:But b H (upd H3 b (.lst [.int far4, .int st4])):=but3.trans But.upd
  have hv4:Is (hid (upd H3 b (.lst [.int far4, .int st4])) b) (lfs x) (.ref xa):=by rw [bY_];exact hv3
  have iq4:Is (hid (upd H3 b (.lst [.int far4, .int st4])) b) (lfs (x.take j)) (.ref q1):=by rw [bY_];exact iq1
  have hod4:Is (hid (upd H3 b (.lst [.int far4, .int st4])) b) (lfs O) (.ref od):=by rw [bY_];exact hod3
  generalize upd H3 b (.lst [.int far4, .int st4])=H4 at hb4 but4 hv4 iq4 hod4⊢
  obtain⟨o,ho⟩:∃o,O[i]? =some o:=⟨O[i]'(by omega),List.getElem?_eq_getElem (by omega)⟩
  refine⟨O.map lf,(i:Int),_,hod4.mono as_,rfl,b0_ (by rw [List.getElem?_map,ho];rfl),fun u hu=>⟨(by show 1≤sizeLine;decide),fun q2 H5 n2 s5 h5=> ?_⟩⟩
  refine⟨_,_,(iq4.mono as_).mono s5,bJ_ h5 (ag_ (hu.mono s5) aj_),Nat.le_of_lt (ak_ (by rw [List.length_map,List.length_take];simp only [List.length_cons,List.length_nil];omega)),fun q3 H6 n3 s6 h6=> ?_⟩
  have h6:Is H6 (lfs (x.take j++[o])) (.ref q3):=by unfold lfs;rw [List.map_append];exact h6
  have s46:=s5.trans s6
  have hb6:Bag H6 b far4 st4:=s46 _ _ hb4
  have but6:=but4.trans (But.of_same s46)
  have nq3:q3≠b:=by rintro rfl;rw [show H5 q3=_ from s5 _ _ hb4] at n3;cases n3
  have iq6:=bt_ hb6 nq3 h6
  have hv6:=hv4.mono (aA_ s46)
  refine⟨_,rfl,_,rfl,_,rfl,b,2,far4,st4,rfl,hb6,hf4,hst4,by decide,by decide,fun c far7 st7 c0 c1 hf7 hst7=> ?_⟩
  obtain⟨c,rfl⟩:=Int.eq_ofNat_of_zero_le c0
  have hb7:Bag (upd H6 b (.lst [.int far7, .int st7])) b far7 st7:=ae_
  have but7:But b H (upd H6 b (.lst [.int far7, .int st7])):=but6.trans But.upd
  have hv7:Is (hid (upd H6 b (.lst [.int far7, .int st7])) b) (lfs x) (.ref xa):=by rw [bY_];exact hv6
  have iq7:Is (hid (upd H6 b (.lst [.int far7, .int st7])) b) (lfs (x.take j++[o])) (.ref q3):=by rw [bY_];exact iq6
  generalize upd H6 b (.lst [.int far7, .int st7])=H7 at hb7 but7 hv7 iq7⊢
  obtain⟨_,yvs,e,hya,hyi⟩:=bm_ hv7
  cases e
  refine⟨_,_,rfl,rfl,(j:Int)+(c:Int),rfl,xa,_,rfl,SqL.of (as_ _ _ hya), ?_⟩
  rw [show((j:Int)+(c:Int))=((j+c:Nat):Int) by omega,km_]
  intro q4 n4
  have s8:al_ H7 (upd H7 q4 (.lst (yvs.drop (j+c)))):=al_.new n4
  have hq4:upd H7 q4 (.lst (yvs.drop (j+c))) q4=some (.lst (yvs.drop (j+c))):=ae_
  generalize upd H7 q4 (.lst (yvs.drop (j+c)))=H8 at s8 hq4⊢
  refine⟨_,_,(iq7.mono as_).mono s8,bJ_ (xs:=(x.drop (j+c)).map lf) hq4 (by rw [List.map_drop];exact((hyi.drop (j+c)).mono as_).mono s8),Nat.le_of_lt (ak_ (by simp only [List.length_map,List.length_append,List.length_take,List.length_drop,List.length_cons,List.length_nil];omega)),fun q5 H9 n5 s9 h9=> ?_⟩
  have s79:=s8.trans s9
  have h9:Is H9 (lfs ((x.take j++[o])++x.drop (j+c))) (.ref q5):=by unfold lfs;rw [List.map_append];exact h9
  have nq5:q5≠b:=by rintro rfl;rw [show H8 q5=_ from s8 _ _ hb7] at n5;cases n5
  refine kk q5 _ H9 (but7.trans (But.of_same s79)) (iF_ but7 (s8.free n5) nq5.symm) (bt_ (s79 _ _ hb7) nq5 h9) ?_
  simp only [List.length_append,List.length_take,List.length_drop,List.length_cons,List.length_nil]
  omega
theorem eR_:FnOk P w K mg base CX0 4 T.f__law_spoilt T.d__law_spoilt ["_law_bag_here","_law_some","_law_d"] (ow_ K):=by
 refine T.X__law_spoilt.F.ok aF_ (fun vs H Q E h=> ?_) (fun cdv A outer s H vs Q E hr h=> ?_)
 ·obtain⟨_,_,_,_,_,_,rfl,_⟩:=h
  rfl
 ·obtain⟨b,far,st,v,F,d,rfl,hb,hf,hst,d1,d5,hv,f4,mem,kk⟩:=h
  refine⟨_,(ac_ (fq_ (i:=3) aF_.nd rfl (by trivial) (.inl rfl) (XN:=["_law_bag_here","_law_some","_law_d","_law_found","_law_at","_law_drawing","_law_marking","_law_way","_law_spot","_law_other","_law_mark"]) (sc:=ah_ bF_) (N:=["_law_one"]) (own:=1) (js:=[]) rfl (by decide+kernel) rfl rfl (aN_ (pv 1)) (fun _ _ _ _=>(am_ (i:=0) (show List.Nodup (["_law_one"]:List Str) by decide+kernel) rfl (Or.inl rfl) (.inr rfl))) (a0_ (by decide)) (fun _ _ _ _=>bR_) (fun _ _ _ _=>(aH_ (aa_ (aR_ aG_ (by rfl) T.n_list boot_list (aa_ (aK_ aD_ (pv 0) ad_ (fun _ _=>rfl)) ab_)) (aa_ (aR_ aG_ (by rfl) T.n_list boot_list (aa_ (aK_ aD_ (pv 0) ad_ (fun _ _=>rfl)) ab_)) ab_)))))
   (ac_ (a8_ (aq_ (nu_ hr) (pv 3) (aI_ ab_) (ax_ _)) (af_ (au_ (aI_ (aa_ (aH_ (aa_ (aI_ ab_) (aa_ (aI_ ab_) ab_))) ab_)))) aE_)
   (ac_ (ap_ (i:=4) aF_.nd rfl (by trivial) (ai_ (ay_ T) (hr.mono (by decide)) (by rfl) T.X__law_digit.m T.X__law_digit.F.kp T.X__law_digit.B .nil aw_ (aa_ (pv 0) (aa_ (av_ bA_ (by rfl) T.n_len boot_len (aa_ (pv 3) ab_)) ab_))))
   (ac_ (cD_ (aK_ a9_ (pv 3) (pv 4) (fun _ _=>rfl)) (cF_ rfl (az_ (am_ (i:=5) aF_.nd rfl (by trivial)) (az_ (am_ (i:=6) aF_.nd rfl (by trivial)) bL_))))
   (ac_ (ap_ (i:=7) aF_.nd rfl (by trivial) (ai_ (ay_ T) (hr.mono (by decide)) (by rfl) T.X__law_digit.m T.X__law_digit.F.kp T.X__law_digit.B .nil aw_ (aa_ (pv 0) (aa_ ad_ ab_))))
   (ac_ (ap_ (i:=8) aF_.nd rfl (by trivial) (ai_ (ay_ T) (hr.mono (by decide)) (by rfl) T.X__law_digit.m T.X__law_digit.F.kp T.X__law_digit.B .nil aw_ (aa_ (pv 0) (aa_ (av_ bA_ (by rfl) T.n_len boot_len (aa_ (pv 6) ab_)) ab_))))
   (ac_ (ap_ (i:=9) aF_.nd rfl (by trivial) (ai_ (ay_ T) (hr.mono (by decide)) (by rfl) T.X__law_digit.m T.X__law_digit.F.kp T.X__law_digit.B .nil aw_ (aa_ (pv 0) (aa_ (av_ bA_ (by rfl) T.n_len boot_len (aa_ (pv 6) ab_)) ab_))))
   (ac_ (a8_ (aq_ ce_ (pv 7) ad_ (ax_ _)) (af_ (aM_ (dE_ PySem.F.plainAttrs_list PySem.F.slot_list_append PySem.F.type_list_append by_ (pv 3) (aa_ (aH_ (aa_ (aR_ aG_ (by rfl) T.n_list boot_list (aa_ (pv 5) ab_)) (aa_ (aR_ aG_ (by rfl) T.n_list boot_list (aa_ (pv 6) ab_)) ab_))) ab_)))) (af_ (a8_ (aq_ ce_ (pv 7) ad_ (ax_ _)) (ac_ (ap_ (i:=10) aF_.nd rfl (by trivial) (aK_ a9_ (pv 6) (pv 8) (fun _ _=>rfl)))
   (ac_ (cD_ (aK_ a9_ (pv 6) (pv 9) (fun _ _=>rfl)) (dn_ (pv 6) (pv 8) bh_))
   (af_ (cD_ (pv 10) (dn_ (pv 6) (pv 9) bh_))))) (af_ (a8_ (aq_ ce_ (pv 7) ad_ (ax_ _)) (af_ (aM_ (dE_ PySem.F.plainAttrs_list PySem.F.slot_list_remove PySem.F.type_list_remove (iT_ hr) (pv 6) (aa_ (aK_ a9_ (pv 6) (pv 8) (fun _ _=>rfl)) ab_)))) (af_ (a8_ (aq_ ce_ (pv 7) ad_ (ax_ _)) (af_ (aM_ (dE_ PySem.F.plainAttrs_list PySem.F.slot_list_insert PySem.F.type_list_insert jF_ (pv 6) (aa_ (pv 9) (aa_ (aK_ a9_ (pv 6) (pv 8) (fun _ _=>rfl)) ab_))))) (af_ (a8_ (aq_ ce_ (pv 7) ad_ (ax_ _)) (af_ (cD_ (aH_ (aa_ (ai_ (cI_ T) (hr.mono (by decide)) (by rfl) T.X__law_odd_row.m T.X__law_odd_row.F.kp T.X__law_odd_row.B .nil aw_ (aa_ (pv 0) (aa_ (pv 5) (aa_ (pv 2) ab_)))) (aa_ (pv 6) ab_))) (dn_ (pv 3) (pv 4) bh_))) (af_ (a8_ (aq_ ce_ (pv 7) ad_ (ax_ _)) (af_ (cD_ (aH_ (aa_ (kT_ (pv 5) (cE_ (oV_ mZ_ ad_))) (aa_ (pv 6) ab_))) (dn_ (pv 3) (pv 4) bh_))) (af_ (cD_ (aH_ (aa_ (pv 5) (aa_ (ai_ (cI_ T) (hr.mono (by decide)) (by rfl) T.X__law_odd_row.m T.X__law_odd_row.F.kp T.X__law_odd_row.B .nil aw_ (aa_ (pv 0) (aa_ (pv 6) (aa_ (pv 2) ab_)))) ab_))) (dn_ (pv 3) (pv 4) bh_))))))))))))))
   (af_ (au_ (pv 3))))))))))), ?_⟩
  have hvH:=hv.mono as_
  obtain⟨l,lvs,rfl,hl,hli⟩:=bm_ hvH
  have llen:lvs.length=F.length:=by rw [hli.length,List.length_map]
  refine⟨_,rfl,l,rfl,⟨_,SqL.of hl⟩,fun acc na=> ?_⟩
  refine bb_ (xs:=lvs) (own:=1) (js:=[]) (fun j HC=>al_ H HC∧∃vs,HC acc=some (.lst vs)∧Spt (nw H HC) acc (F.take j) vs) ⟨al_.new na,[],ae_,Spt.nil⟩ (fun j HC _ h=>SqL.of (h.1 _ _ hl)) ?_ ?_ a1_ bS_ ?_
  ·rintro j y HC hj ⟨sC,vsC,haccC,hiC⟩
   obtain⟨dd,hdd,hy⟩:=hli.of_get hj
   rw [List.getElem?_map] at hdd
   obtain⟨e,he,rfl⟩:=Option.map_eq_some_iff.mp hdd
   have jl:j<F.length:=(List.getElem?_eq_some_iff.mp he).1
   have vl:vsC.length≤900:=by rw [hiC.1.length,List.length_map,List.length_take];omega
   refine lk_ ?_
   refine⟨_,rfl,_,0,_,hy.mono sC,rfl,rfl,fun u1 hu1=>⟨u1,e.1.map lf,rfl, .inl hu1,fun p1 HD np1 sD' hp1=> ?_⟩⟩
   refine⟨_,rfl,_,1,_,(hy.mono sC).mono sD',rfl,rfl,fun u2 hu2=>⟨u2,e.2.map lf,rfl, .inl hu2,fun p2 HE np2 sE hp2=>⟨(by show 2≤sizeLine;decide),fun tt HF ntt sF htt=> ?_⟩⟩⟩
   have sCF:=(sD'.trans sE).trans sF
   refine⟨acc,vsC,_,rfl,rfl,sCF _ _ haccC,ak_ (by omega),(sC.trans sCF).put na,_,ae_, ?_⟩
   rw [List.take_add_one,he]
   refine hiC.add sC sCF na ⟨_,haccC⟩ np1 (sD'.free np2) ?_ ((sD'.trans sE).free ntt) htt ((hp1.mono sE).mono sF) (hp2.mono sF)
   rintro rfl
   obtain⟨_,_,e,h,_⟩:=bm_ hp1
   cases e
   rw [h] at np2
   cases np2
  ·rintro HC ⟨sC,vs,hfo,hsp⟩
   rw [llen,List.take_length] at hsp
   have vl:vs.length=F.length:=by rw [hsp.1.length,List.length_map]
   have eqF:Is HC (.l (F.map a2_)) (.ref acc):=bJ_ hfo (hsp.1.mono (al_.trans as_ aJ_))
   refine⟨_,rfl,Nat.zero_le _,fun e0 HD n0 sD h0=>⟨5,_,mA_ (eqF.mono sD) (bJ_ h0 aj_),by decide,_,rfl, ?_⟩⟩
   have sHD:=sC.trans sD
   by_cases F0:F=[]
   ·rw [decide_eq_true F0]
    refine cV_ ?_
    refine⟨Nat.zero_le _,fun e1 H1 n1 s1 h1=>⟨Nat.zero_le _,fun e2 H2 n2 s2 h2=>⟨(by show 2≤sizeLine;decide),fun t H3 n3 s3 h3=>⟨(by show 1≤sizeLine;decide),fun q H4 n4 s4 h4=> ?_⟩⟩⟩⟩
    refine kk q [([],[])] H4 (But.of_same ((((sHD.trans s1).trans s2).trans s3).trans s4)) ⟨bJ_ h4 (ag_ (dK_ (s4 _ _ h3) (bJ_ (s4 _ _ (s3 _ _ (s2 _ _ h1))) aj_) (bJ_ (s4 _ _ (s3 _ _ h2)) aj_)) aj_),by decide,fun e he=> ?_⟩
    rw [List.mem_singleton.mp he]
    exact⟨Nat.zero_le _,Nat.zero_le _⟩
   rw [decide_eq_false F0]
   refine cW_ ?_
   have fp:0<F.length:=List.length_pos_iff.mpr F0
   have hbl:H b=some (.lst [.int far, .int st]):=hb
   have nacc:H acc=none:=na
   generalize hN:nw H HC=N at hsp
   have Nb:N b=none:=by rw [←hN];unfold nw;rw [hbl]
   have Nfo:N acc=some (.lst vs):=by rw [←hN,cp_ na];exact hfo
   have Nnew:∀{c:Addr}{ws:List V},N c=some (.lst ws)→H c=none:=fun h=>by rw [←hN] at h;exact mh_ sC h
   have keep:∀{Hx:Hp}{o:HO},al_ N Hx→al_ N (upd Hx b o):=fun{Hx o} sx c u hc=>by
    rw [ar_ (by rintro rfl;rw [Nb] at hc;cases hc)]
    exact sx _ _ hc
   have SD:al_ N HD:=by rw [←hN];exact al_.trans aJ_ sD
   have hbD:Bag HD b far st:=sHD _ _ hb
   refine⟨_,rfl,_,rfl,acc,vs,rfl, .inl (SqL.of (SD _ _ Nfo)),b,(vs.length:Int),far,st,rfl,hbD,hf,hst,by omega,by omega,fun i far1 st1 i0 i1 hf1 hst1=> ?_⟩
   obtain⟨i,rfl⟩:=Int.eq_ofNat_of_zero_le i0
   have S1:al_ N (upd HD b (.lst [.int far1, .int st1])):=keep SD
   have hb1:Bag (upd HD b (.lst [.int far1, .int st1])) b far1 st1:=ae_
   have but1:But b H (upd HD b (.lst [.int far1, .int st1])):=(But.of_same sHD).trans But.upd
   generalize upd HD b (.lst [.int far1, .int st1])=H1 at S1 hb1 but1⊢
   obtain⟨e,he⟩:∃e,F[i]? =some e:=⟨F[i]'(by omega),List.getElem?_eq_getElem (by omega)⟩
   obtain⟨v,hv⟩:∃v,vs[i]? =some v:=⟨vs[i]'(by omega),List.getElem?_eq_getElem (by omega)⟩
   obtain⟨m,t,a,ws,rfl,q1,q2,q3,q3',q4,q5,q6⟩:=hsp.2 i e v he hv
   obtain⟨m1,m2,m3⟩:=mem e (List.mem_of_getElem? he)
   have wl:ws.length=e.2.length:=by rw [q4.length,List.length_map]
   have vset:vs.set i (.ref t)=vs:=by
    obtain⟨il,ev⟩:=List.getElem?_eq_some_iff.mp hv
    rw [←ev]
    exact List.set_getElem_self il
   have old:∀k e v,k≠i→F[k]? =some e→vs[k]? =some v→Is (hid N acc) (a2_ e) v:=fun k e v nk h1 h2=>(q6 k e v nk h1 h2).mono as_
   have fin:∀(H':Hp) (e':En) (v':V),But b H H'→H' acc=some (.lst (vs.set i v'))→Is H' (a2_ e') v'→(∀k e v,k≠i→F[k]? =some e→vs[k]? =some v→Is H' (a2_ e) v)→e'.1.length≤40→e'.2.length≤40→Q (.ref acc) H':=fun H' e' v' bt ha hi ho l1 l2=>by
    refine kk acc (F.set i e') H' bt ⟨bJ_ ha (j3_ hi vl ho),by rw [List.length_set];omega,fun x hx=> ?_⟩
    rcases List.mem_or_eq_of_mem_set hx with hx|rfl
    ·have:=mem x hx
     omega
    ·exact⟨l1,l2⟩
   refine⟨_,rfl,_,rfl,acc,vs,_,_,rfl,rfl,SqL.of (S1 _ _ Nfo),b0_ hv,t,_,rfl,SqT.of (S1 _ _ q1),rfl,_,_,rfl,_,_,rfl,rfl, ?_⟩
   refine⟨_,rfl,b,7,far1,st1,rfl,hb1,hf1,hst1,by decide,by decide,fun wy far2 st2 w0 w1 hf2 hst2=> ?_⟩
   have S2:al_ N (upd H1 b (.lst [.int far2, .int st2])):=keep S1
   have hb2:Bag (upd H1 b (.lst [.int far2, .int st2])) b far2 st2:=ae_
   have but2:But b H (upd H1 b (.lst [.int far2, .int st2])):=but1.trans But.upd
   generalize upd H1 b (.lst [.int far2, .int st2])=H2 at S2 hb2 but2⊢
   refine⟨_,rfl,_,rfl,m,ws,rfl, .inl (SqL.of (S2 _ _ q2)),b,(ws.length:Int),far2,st2,rfl,hb2,hf2,hst2,by omega,by omega,fun sp far3 st3 p0 p1 hf3 hst3=> ?_⟩
   obtain⟨sp,rfl⟩:=Int.eq_ofNat_of_zero_le p0
   have S3:al_ N (upd H2 b (.lst [.int far3, .int st3])):=keep S2
   have hb3:Bag (upd H2 b (.lst [.int far3, .int st3])) b far3 st3:=ae_
   have but3:But b H (upd H2 b (.lst [.int far3, .int st3])):=but2.trans But.upd
   generalize upd H2 b (.lst [.int far3, .int st3])=H3 at S3 hb3 but3⊢
   refine⟨_,rfl,_,rfl,m,ws,rfl, .inl (SqL.of (S3 _ _ q2)),b,(ws.length:Int),far3,st3,rfl,hb3,hf3,hst3,by omega,by omega,fun ot far4 st4 o0 o1 hf4 hst4=> ?_⟩
   obtain⟨ot,rfl⟩:=Int.eq_ofNat_of_zero_le o0
   have S4:al_ N (upd H3 b (.lst [.int far4, .int st4])):=keep S3
   have hb4:Bag (upd H3 b (.lst [.int far4, .int st4])) b far4 st4:=ae_
   have but4:But b H (upd H3 b (.lst [.int far4, .int st4])):=but3.trans But.upd
   generalize upd H3 b (.lst [.int far4, .int st4])=H4 at S4 hb4 but4⊢
   clear S3 hb3 but3 S2 hb2 but2 S1 hb1 but1
   have nm:H m=none:=Nnew q2
   have tm:t≠m:=by rintro rfl;rw [q1] at q2;cases q2
   have finM:∀(ws':List V) (y:List Lf),Iss (hid (hid N acc) m) (y.map lf) ws'→y.length≤40→Q (.ref acc) (upd H4 m (.lst ws')):=fun ws' y hy yl=>by
    have Sm:al_ (hid (hid N acc) m) (upd H4 m (.lst ws')):=fun c u hc=>by
     have:c≠m:=by rintro rfl;rw [dv_] at hc;cases hc
     rw [ar_ this]
     exact S4 _ _ (as_ _ _ (as_ _ _ hc))
    refine fin _ (e.1,y) (.ref t) (fun c o h ne=> ?_) (by rw [vset,ar_ q3.symm];exact S4 _ _ Nfo) (dK_ (by rw [ar_ tm];exact S4 _ _ q1) (q5.mono Sm) (bJ_ ae_ (hy.mono Sm))) (fun k e v nk h1 h2=>(q6 k e v nk h1 h2).mono Sm) (by show e.1.length≤40;omega) yl
    rw [ar_ (by rintro rfl;rw [nm] at h;cases h)]
    exact but4 _ _ h ne
   have spl:sp<ws.length:=by omega
   have otl:ot<ws.length:=by omega
   obtain⟨p,hp⟩:∃p,e.2[sp]? =some p:=⟨e.2[sp]'(by omega),List.getElem?_eq_getElem (by omega)⟩
   obtain⟨o,ho⟩:∃o,e.2[ot]? =some o:=⟨e.2[ot]'(by omega),List.getElem?_eq_getElem (by omega)⟩
   obtain⟨vp,hvp,ip⟩:=q4.get (show(e.2.map lf)[sp]? =some (lf p) by rw [List.getElem?_map,hp];rfl)
   obtain⟨vo,hvo,io⟩:=q4.get (show(e.2.map lf)[ot]? =some (lf o) by rw [List.getElem?_map,ho];rfl)
   have hm4:H4 m=some (.lst ws):=S4 _ _ q2
   have ha4:H4 acc=some (.lst vs):=S4 _ _ Nfo
   have hdr:Is H4 (lfs e.1) (.ref a):=q5.mono (al_.trans as_ (al_.trans as_ S4))
   have hmk:Is (hid N acc) (lfs e.2) (.ref m):=bJ_ (by rw [br_ q3];exact q2) (q4.mono as_)
   have hda:Is (hid N acc) (lfs e.1) (.ref a):=q5.mono as_
   have ab:∀{c:Addr}{x:List Lf},Is (hid N acc) (lfs x) (.ref c)→Is (hid H4 b) (lfs x) (.ref c):=fun{c x} h=>h.mono fun c u hc=>by
    have hc:=as_ _ _ hc
    rw [br_ (by rintro rfl;rw [Nb] at hc;cases hc)]
    exact S4 _ _ hc
   have finT:∀(H5:Hp) (t':Addr) (u1 u2:V) (e':En),But b H H5→al_ N H5→H5 t'=some (.tup [u1,u2])→Is (hid H5 acc) (lfs e'.1) u1→Is (hid H5 acc) (lfs e'.2) u2→e'.1.length≤40→e'.2.length≤40→Q (.ref acc) (upd H5 acc (.lst (vs.set i (.ref t')))):=fun H5 t' u1 u2 e' bt S5 ht' h1 h2 l1 l2=>by
    have Sa:al_ (hid H5 acc) (upd H5 acc (.lst (vs.set i (.ref t')))):=fun c u hc=>by
     have:c≠acc:=by rintro rfl;rw [dv_] at hc;cases hc
     rw [br_ this] at hc
     rw [ar_ this]
     exact hc
    refine fin _ e' (.ref t') (fun c o h ne=> ?_) ae_ (dK_ (by rw [ar_ (by rintro rfl;rw [S5 _ _ Nfo] at ht';cases ht')];exact ht') (h1.mono Sa) (h2.mono Sa)) (fun k e v nk h1 h2=>(old k e v nk h1 h2).mono (al_.trans (aA_ S5) Sa)) l1 l2
    rw [ar_ (by rintro rfl;rw [nacc] at h;cases h)]
    exact bt _ _ h ne
   refine⟨_,rfl,rfl,_,rfl,g9_ (fun _=> ?_) (fun _=> ?_)⟩
   ·refine⟨_,rfl, .inl ⟨rfl,_,SqL.of ha4⟩,_,rfl, .ref a,e.1.map lf,rfl, .inl hdr,fun p1 H5 n1 s5 h5=>⟨_,rfl, .ref m,e.2.map lf,rfl, .inl ((hmk.mono (al_.trans as_ S4)).mono s5),fun p2 H6 n2 s6 h6=>⟨(by show 2≤sizeLine;decide),fun tt H7 n7 s7 h7=> ?_⟩⟩⟩
    have s47:=(s5.trans s6).trans s7
    have S7:=al_.trans S4 s47
    refine⟨acc,vs,_,rfl,rfl,S7 _ _ Nfo,ak_ (by omega),_,rfl, ?_⟩
    have Sa:al_ (hid H7 acc) (upd H7 acc (.lst (vs++[.ref tt]))):=fun c u hc=>by
     have:c≠acc:=by rintro rfl;rw [dv_] at hc;cases hc
     rw [br_ this] at hc
     rw [ar_ this]
     exact hc
    have nn:∀{c:Addr},H4 c=none→c≠acc:=fun{c} h=>by rintro rfl;rw [ha4] at h;cases h
    refine kk acc (F++[e]) _ (fun c o h ne=> ?_) ⟨bJ_ ae_ ?_,by rw [List.length_append,List.length_singleton];omega,fun x hx=> ?_⟩
    ·rw [ar_ (by rintro rfl;rw [nacc] at h;cases h)]
     exact s47 _ _ (but4 _ _ h ne)
    ·rw [List.map_append]
     exact(hsp.1.mono (al_.trans (aA_ S7) Sa)).append (ag_ (dK_ (by rw [ar_ (nn ((s5.trans s6).free n7))];exact h7) ((bt_ (S7 _ _ Nfo) (nn n1) ((h5.mono s6).mono s7)).mono Sa) ((bt_ (S7 _ _ Nfo) (nn (s5.free n2)) (h6.mono s7)).mono Sa)) aj_)
    ·rcases List.mem_append.mp hx with hx|hx
     ·have:=mem x hx
      omega
     ·rw [List.mem_singleton.mp hx]
      omega
   refine⟨_,rfl,rfl,_,rfl,g9_ (fun _=> ?_) (fun _=> ?_)⟩
   ·refine⟨_,rfl,_,rfl,m,ws,_,vp,rfl,rfl,SqL.of hm4,b0_ hvp, ?_⟩
    refine⟨_,rfl,_,rfl,m,ws,_,vo,rfl,rfl,SqL.of hm4,b0_ hvo,_,rfl,_,rfl,m,ws,_,sp,rfl,rfl,hm4,ci_ spl, ?_⟩
    refine⟨_,rfl,_,rfl,_,rfl,m,_,_,ot,rfl,rfl,ae_,ci_ (by rw [List.length_set];exact otl), ?_⟩
    rw [fg_]
    refine⟨_,rfl,finM _ ((e.2.set sp o).set ot p) ?_ (by rw [List.length_set,List.length_set];omega)⟩
    rw [List.map_set,List.map_set]
    exact fU_ ip _ (fU_ io _ q4)
   refine⟨_,rfl,rfl,_,rfl,g9_ (fun _=> ?_) (fun _=> ?_)⟩
   ·have pin:p∈e.2:=List.mem_of_getElem? hp
    have jl:e.2.idxOf p<e.2.length:=List.idxOf_lt_length_iff.mpr pin
    have SN:al_ (hid (hid N acc) m) H4:=al_.trans as_ (al_.trans as_ S4)
    refine⟨_,rfl, .inl ⟨rfl,_,SqL.of hm4⟩,_,rfl,_,rfl,m,ws,_,vp,rfl,rfl,SqL.of hm4,b0_ hvp,m,ws,vp,1,_,e.2.idxOf p,rfl,rfl,hm4,i6_ (q4.mono SN) (ip.mono SN),by omega, ?_,fun k hk=> ?_, ?_⟩
    ·show decide (e.2.getD (e.2.idxOf p) (0,0,0)=p)=true
     rw [decide_eq_true_eq,List.getD_eq_getElem?_getD,List.getElem?_eq_getElem jl]
     exact List.getElem_idxOf jl
    ·have hil:k<e.2.length:=by omega
     show decide (e.2.getD k (0,0,0)=p)=false
     rw [decide_eq_false_iff_not,List.getD_eq_getElem?_getD,List.getElem?_eq_getElem hil]
     intro ee
     have:=List.not_of_lt_findIdx (p:=(· ==p)) (xs:=e.2) (show k<e.2.findIdx (· ==p) from hk)
     simp at ee
     simp [ee] at this
    ·exact⟨_,rfl,finM _ (e.2.eraseIdx (e.2.idxOf p)) (gL_ _ q4) (Nat.le_trans (List.length_eraseIdx_le ..) (by omega))⟩
   refine⟨_,rfl,rfl,_,rfl,g9_ (fun _=> ?_) (fun _=> ?_)⟩
   ·refine⟨_,rfl, .inl ⟨rfl,_,SqL.of hm4⟩,_,rfl,_,rfl,_,rfl,m,ws,_,vp,rfl,rfl,SqL.of hm4,b0_ hvp,m,ws,vp,(ot:Int),rfl,rfl,hm4,ak_ (by omega),by omega,by omega, ?_⟩
    rw [Int.toNat_natCast]
    refine⟨_,rfl,finM _ (e.2.take ot++p::e.2.drop ot) ?_ (by rw [List.length_append,List.length_cons,List.length_take,List.length_drop];omega)⟩
    rw [List.map_append,List.map_cons,List.map_take,List.map_drop]
    exact(q4.take ot).append (ag_ ip (q4.drop ot))
   refine⟨_,rfl,rfl,_,rfl,g9_ (fun _=> ?_) (fun _=> ?_)⟩
   ·refine⟨_,rfl,_,rfl,_,rfl,b,far4,st4, .ref a,e.1,d,rfl,hb4,hf4,hst4,d1,d5,ab hda,m1,fun l y H5 but5 nl hl yl=> ?_⟩
    have S5:al_ N H5:=fun c u hc=>but5 _ _ (S4 _ _ hc) (by rintro rfl;rw [Nb] at hc;cases hc)
    refine⟨_,rfl,(by show 2≤sizeLine;decide),fun tt H6 nt s6 ht=> ?_⟩
    refine⟨_,rfl,_,rfl,acc,vs,_,i,rfl,rfl,s6 _ _ (S5 _ _ Nfo),ci_ (by omega), ?_⟩
    have S6:=al_.trans S5 s6
    have nla:l≠acc:=by rintro rfl;rw [ha4] at nl;cases nl
    exact⟨_,rfl,finT H6 tt _ _ (y,e.2) ((but4.trans but5).trans (But.of_same s6)) S6 ht (bt_ (S6 _ _ Nfo) nla ((hl.mono as_).mono s6)) (hmk.mono (aA_ S6)) (by show y.length≤40;omega) (by show e.2.length≤40;omega)⟩
   refine⟨_,rfl,rfl,_,rfl,g9_ (fun _=> ?_) (fun _=> ?_)⟩
   ·obtain⟨_,avs,ea,haa,hai⟩:=bm_ hdr
    cases ea
    refine⟨_,rfl,_,rfl,_,rfl,rfl,a,avs,rfl,SqL.of haa,fun q nq=> ?_⟩
    have s5:al_ H4 (upd H4 q (.lst avs.reverse)):=al_.new nq
    have hq:upd H4 q (.lst avs.reverse) q=some (.lst avs.reverse):=ae_
    generalize upd H4 q (.lst avs.reverse)=H5 at s5 hq⊢
    refine⟨_,rfl,(by show 2≤sizeLine;decide),fun tt H6 nt s6 ht=> ?_⟩
    have S6:=al_.trans (al_.trans S4 s5) s6
    refine⟨_,rfl,_,rfl,acc,vs,_,i,rfl,rfl,S6 _ _ Nfo,ci_ (by omega), ?_⟩
    have nqa:q≠acc:=by rintro rfl;rw [ha4] at nq;cases nq
    have iq:Is H6 (lfs e.1.reverse) (.ref q):=bJ_ (s6 _ _ hq) (by rw [List.map_reverse];exact hC_ (hai.mono (s5.trans s6)))
    exact⟨_,rfl,finT H6 tt _ _ (e.1.reverse,e.2) (but4.trans (But.of_same (s5.trans s6))) S6 ht (bt_ (S6 _ _ Nfo) nqa iq) (hmk.mono (aA_ S6)) (by show e.1.reverse.length≤40;rw [List.length_reverse];omega) (by show e.2.length≤40;omega)⟩
   ·refine⟨_,rfl,_,rfl,_,rfl,_,rfl,b,far4,st4, .ref m,e.2,d,rfl,hb4,hf4,hst4,d1,d5,ab hmk,m2,fun l y H5 but5 nl hl yl=> ?_⟩
    have S5:al_ N H5:=fun c u hc=>but5 _ _ (S4 _ _ hc) (by rintro rfl;rw [Nb] at hc;cases hc)
    refine⟨(by show 2≤sizeLine;decide),fun tt H6 nt s6 ht=> ?_⟩
    refine⟨_,rfl,_,rfl,acc,vs,_,i,rfl,rfl,s6 _ _ (S5 _ _ Nfo),ci_ (by omega), ?_⟩
    have S6:=al_.trans S5 s6
    have nla:l≠acc:=by rintro rfl;rw [ha4] at nl;cases nl
    exact⟨_,rfl,finT H6 tt _ _ (e.1,y) ((but4.trans but5).trans (But.of_same s6)) S6 ht (hda.mono (aA_ S6)) (bt_ (S6 _ _ Nfo) nla ((hl.mono as_).mono s6)) (by show e.1.length≤40;omega) (by show y.length≤40;omega)⟩
  ·rintro σ H R R' k' ⟨v1,e1,xs,i,d,h1,e2,e3,h⟩
   refine⟨v1,e1,xs,i,d,h1,e2,e3,fun u hu=> ?_⟩
   obtain⟨v2,xs2,e4,h4,h⟩:=h u hu
   refine⟨v2,xs2,e4,h4,fun p H2 np s2 hp=> ?_⟩
   obtain⟨v3,e5,ys,j,d2,h5,e6,e7,h⟩:=h p H2 np s2 hp
   refine⟨v3,e5,ys,j,d2,h5,e6,e7,fun u2 hu2=> ?_⟩
   obtain⟨v4,xs4,e8,h8,h⟩:=h u2 hu2
   refine⟨v4,xs4,e8,h8,fun p2 H3 np2 s3 hp2=> ?_⟩
   obtain⟨z,h⟩:=h p2 H3 np2 s3 hp2
   exact⟨z,fun t H4 nt s4 ht=>k' _ _ (h t H4 nt s4 ht)⟩
theorem ny_:FnOk P w K mg base CX0 26 T.f_law T.d_law ["_law_script"] (hZ_ K):=by
 refine T.X_law.F.ok dQ_ (fun vs H Q E h=> ?_) (fun cdv A outer s H vs Q E hr h=> ?_)
 ·obtain⟨_,_,rfl,_⟩:=h
  rfl
 ·obtain⟨a,ns,rfl,hS,hl,kk⟩:=h
  refine⟨_,(ac_ (ap_ (i:=1) dQ_.nd rfl (by trivial) (ai_ (et_ T) (hr.mono (by decide)) (by rfl) T.X__law_bag.m T.X__law_bag.F.kp T.X__law_bag.B .nil aw_ (aa_ (ai_ (cJ_ T) (hr.mono (by decide)) (by rfl) T.X__law_cell_at.m T.X__law_cell_at.F.kp T.X__law_cell_at.B .nil aw_ (aa_ (pv 0) (aa_ ad_ ab_))) (aa_ ad_ ab_))))
   (ac_ (ap_ (i:=2) dQ_.nd rfl (by trivial) (ao_ aO_ ad_ (ai_ (ay_ T) (hr.mono (by decide)) (by rfl) T.X__law_digit.m T.X__law_digit.F.kp T.X__law_digit.B .nil aw_ (aa_ (pv 1) (aa_ ad_ ab_)))))
   (ac_ (ap_ (i:=3) dQ_.nd rfl (by trivial) (ai_ (ay_ T) (hr.mono (by decide)) (by rfl) T.X__law_digit.m T.X__law_digit.F.kp T.X__law_digit.B .nil aw_ (aa_ (pv 1) (aa_ (aK_ a9_ (aI_ (aa_ ad_ (aa_ ad_ ab_))) (ao_ fv_ (pv 2) ad_) (fun _ _=>rfl)) ab_))))
   (ac_ (ap_ (i:=4) dQ_.nd rfl (by trivial) (ai_ (k0_ T) (hr.mono (by decide)) (by rfl) T.X_paper.m T.X_paper.F.kp T.X_paper.B .nil aw_ (aa_ (pv 2) (aa_ (pv 3) ab_))))
   (ac_ (ap_ (i:=5) dQ_.nd rfl (by trivial) (cd_ c6_ (ai_ (gr_ T) (hr.mono (by decide)) (by rfl) T.X__law_left.m T.X__law_left.F.kp T.X__law_left.B .nil aw_ (aa_ (pv 1) (aa_ (pv 4) ab_))) db_ (cE_ ad_)))
   (ac_ (a8_ (cC_ (cZ_ (ai_ (cg_ T) (hr.mono (by decide)) (by rfl) T.X__law_asked.m T.X__law_asked.F.kp T.X__law_asked.B .nil aw_ (aa_ (pv 2) (aa_ (pv 3) (aa_ (pv 5) ab_)))))) (af_ (au_ eo_)) aE_)
   (ac_ (aX_ PassesOwn.never rfl (dm_ (by rfl) T.n_range (aa_ ad_ ab_)) (am_ (i:=6) dQ_.nd rfl (by trivial)) (ac_ (ap_ (i:=7) dQ_.nd rfl (by trivial) (ai_ (eR_ T) (hr.mono (by decide)) (by rfl) T.X__law_spoilt.m T.X__law_spoilt.F.kp T.X__law_spoilt.B .nil aw_ (aa_ (ai_ (et_ T) (hr.mono (by decide)) (by rfl) T.X__law_bag.m T.X__law_bag.F.kp T.X__law_bag.B .nil aw_ (aa_ (ai_ (cJ_ T) (hr.mono (by decide)) (by rfl) T.X__law_cell_at.m T.X__law_cell_at.F.kp T.X__law_cell_at.B .nil aw_ (aa_ (pv 0) (aa_ (ao_ aO_ ad_ (pv 6)) ab_))) (aa_ (ao_ aO_ ad_ (pv 6)) ab_))) (aa_ (pv 5) (aa_ (pv 2) ab_)))))
   (af_ (a8_ (cC_ (cZ_ (ai_ (cg_ T) (hr.mono (by decide)) (by rfl) T.X__law_asked.m T.X__law_asked.F.kp T.X__law_asked.B .nil aw_ (aa_ (pv 2) (aa_ (pv 3) (aa_ (pv 7) ab_)))))) (af_ (au_ eo_)) aE_))))
   (af_ (au_ (ep_ (ai_ (cg_ T) (hr.mono (by decide)) (by rfl) T.X__law_asked.m T.X__law_asked.F.kp T.X__law_asked.B .nil aw_ (aa_ (pv 2) (aa_ (pv 3) (aa_ (pv 5) ab_)))) (dR_ (bX_ ce_ (ai_ (e2_ T) (hr.mono (by decide)) (by rfl) T.X_weighed.m T.X_weighed.F.kp T.X_weighed.B .nil aw_ (aa_ (pv 2) (aa_ (pv 3) (aa_ (aI_ ab_) ab_)))) ad_ (ax_ _))))))))))))), ?_⟩
  refine⟨_,rfl,a,ns,0,rfl,hS,by decide,fun z=>⟨z,1,rfl,by decide,by decide,fun b far st H1 s1 nb hb hf hst=> ?_⟩⟩
  refine⟨_,rfl,b,5,far,st,rfl,hb,hf,hst,by decide,by decide,fun y far2 st2 y0 y1 hf2 hst2=>⟨_,_,rfl,rfl, ?_⟩⟩
  obtain⟨m,rfl⟩:=Int.eq_ofNat_of_zero_le y0
  have ed:(1:Int)+(m:Int)=((m+1:Nat):Int):=by omega
  dsimp only
  rw [ed]
  have d1:1≤m+1:=by omega
  have d5:m+1≤5:=by omega
  generalize m+1=d at d1 d5⊢
  have hb2:Bag (upd H1 b (.lst [.int far2, .int st2])) b far2 st2:=ae_
  have s02:al_ H (upd H1 b (.lst [.int far2, .int st2])):=s1.put nb
  generalize upd H1 b (.lst [.int far2, .int st2])=H2 at hb2 s02⊢
  refine⟨_,rfl,(by show 2≤sizeLine;decide),fun ll H3 nll s3 hll=> ?_⟩
  obtain⟨mk,hat,m1,m7,hPd⟩:∃mk:Nat,atI [V.int 7,V.int 2] ((d:Int)/5)=some (.int mk)∧1≤mk∧mk≤7∧∀k:Nat,k<mk→P94 d k:=by
   rcases(show d=1∨d=2∨d=3∨d=4∨d=5 by omega) with rfl|rfl|rfl|rfl|rfl
   ·exact⟨7,rfl,by decide,by decide,fun k hk=>by unfold P94;omega⟩
   ·exact⟨7,rfl,by decide,by decide,fun k hk=>by unfold P94;omega⟩
   ·exact⟨7,rfl,by decide,by decide,fun k hk=>by unfold P94;omega⟩
   ·exact⟨7,rfl,by decide,by decide,fun k hk=>by unfold P94;omega⟩
   ·exact⟨2,rfl,by decide,by decide,fun k hk=>by unfold P94;omega⟩
  refine⟨_,rfl,_,_,rfl,rfl,⟨by decide,by decide⟩,ll,_,_,_,rfl,rfl,SqL.of hll,hat,b,mk,far2,st2,rfl,s3 _ _ hb2,hf2,hst2,by omega,by omega,fun k0 far3 st3 k00 k1 hf3 hst3=> ?_⟩
  obtain⟨k,rfl⟩:=Int.eq_ofNat_of_zero_le k00
  have hP:=hPd k (by omega)
  have bt:=iG_ hP
  have hb4:Bag (upd H3 b (.lst [.int far3, .int st3])) b far3 st3:=ae_
  have s04:al_ H (upd H3 b (.lst [.int far3, .int st3])):=(s02.trans s3).put nb
  generalize upd H3 b (.lst [.int far3, .int st3])=H4 at hb4 s04⊢
  refine⟨_,rfl,_,rfl,d,k,rfl,hP,fun L l H5 hp s5 nl hl5n=> ?_⟩
  have hl5b:Is (hid H5 b) (.l ((hn_ d L).map a2_)) (.ref l):=(hl5n.mono (c1_ (al_.refl H4) hb4)).mono (aA_ aJ_)
  have hl5:=hl5n.mono aJ_
  clear hl5n
  have tot:=jv_ bt hp
  have mem:∀e∈hn_ d L,e.1.length≤30∧e.2.length≤30∧1≤e.2.length:=fun e he=>by
   obtain⟨p1,p2⟩:=ma_ he
   have hs:=(bt.one e.1 (hp.mem_iff.mp p1)).1
   obtain⟨f1,f2,_⟩:=dz_ hs d1 d5
   have f3:=(mm_ p2).2
   have f4:=ga_ (d:=d) (ps:=e.1)
   omega
  generalize hn_ d L=F0 at hl5 hl5b tot mem
  refine⟨_,rfl,_,rfl,b,far3,st3, .ref l,F0,rfl,s5 _ _ hb4,hf3,hst3,hl5b,tot,fun e he=>⟨(mem e he).1,(mem e he).2.1⟩,fun l2 F H6 but6 nl2 hF fl hin=> ?_⟩
  obtain⟨_,fvs,e,hfv,hfi⟩:=bm_ (hF.mono as_)
  cases e
  refine⟨40,rfl,l2,_,rfl,SqL.of hfv, ?_⟩
  rw [show kn_ fvs none (some 40)=fvs.take 40 from ea_ (k:=40)]
  intro q n6
  have hq:upd H6 q (.lst (fvs.take 40)) q=some (.lst (fvs.take 40)):=ae_
  have s7:al_ H6 (upd H6 q (.lst (fvs.take 40))):=al_.new n6
  generalize upd H6 q (.lst (fvs.take 40))=H7 at hq s7⊢
  have hS7:Is H7 (.l ((F.take 40).map a2_)) (.ref q):=bJ_ hq (by rw [List.map_take];exact(hfi.take 40).mono s7)
  have memS:∀e∈F.take 40,e.1.length≤30∧e.2.length≤30∧1≤e.2.length:=fun e he=>mem e (hin e (List.mem_of_mem_take he))
  have lenS:(F.take 40).length≤40:=by rw [List.length_take];omega
  have s07:al_ H H7:=fun c u hc=>s7 _ _ (but6 _ _ (s04.trans s5 _ _ hc) (by rintro rfl;rw [nb] at hc;cases hc))
  have seq7:=s07.seq hS
  generalize F.take 40=S at hS7 memS lenS
  have ents:∀{Hx:Hp},Is Hx (.l (S.map a2_)) (.ref q)→n1_ Hx S (.ref q):=fun h=>⟨h,by omega,fun e he=>by have:=memS e he;omega⟩
  refine⟨_,rfl,_,rfl,_,rfl,d,k, .ref q,S,rfl,hP,ents hS7,fun H8 s8=>⟨true,rfl,cW_ ?_⟩⟩
  refine⟨3,rfl,by decide,by decide,bz_ (lo:=0) (n:=3) (fun i σ H9=>(∃v6 v7,σ=[some (.ref a),some (.ref b),some (.int d),some (.int k),some (.ref l),some (.ref q),v6,v7])∧al_ H7 H9) ⟨⟨none,none,rfl⟩,s8⟩ ?_ ?_⟩
  ·rintro i σ H9 hi ⟨⟨v6,v7,rfl⟩,s9⟩
   rw [Int.zero_add]
   refine⟨_,rfl,_,rfl,_,_,rfl,rfl,a,ns,1+(i:Int),rfl,s9.seq seq7,by omega,fun z=>⟨_,rfl,_,_,rfl,rfl,z,2+(i:Int),rfl,by omega,by omega,fun b9 far9 st9 HA sA nb9 hb9 hf9 hst9=> ?_⟩⟩
   have hSA:=(hS7.mono s9).mono sA
   refine⟨_,rfl,_,rfl,b9,far9,st9, .ref q,S,d,rfl,hb9,hf9,hst9,d1,d5,((hS7.mono s9).mono fun c u hc=> ?_),lenS,memS,fun l9 F' HB butB entB=> ?_⟩
   ·rw [br_ (by rintro rfl;rw [nb9] at hc;cases hc)]
    exact sA _ _ hc
   have s9B:al_ H9 HB:=fun c u hc=>butB _ _ (sA _ _ hc) (by rintro rfl;rw [nb9] at hc;cases hc)
   refine⟨_,rfl,_,rfl,_,rfl,d,k, .ref l9,F',rfl,hP,entB,fun HC' sC=>⟨true,rfl,cW_ ⟨⟨_,_,rfl⟩,(s9.trans s9B).trans sC⟩⟩⟩
  ·rintro σ H9 ⟨⟨v6,v7,rfl⟩,s9⟩
   refine⟨_,rfl,_,rfl,_,rfl,d,k, .ref q,S,rfl,hP,ents (hS7.mono s9),fun HA sA=>⟨true,rfl,cV_ ?_⟩⟩
   refine⟨_,rfl,_,rfl,Nat.zero_le _,fun e0 HB n0 sB h0=>⟨d,k, .ref e0,[],rfl,hP,⟨bJ_ h0 aj_,by decide,fun e he=>nomatch he⟩,fun _ HC sC=>⟨rfl, ?_⟩,fun z=>absurd fX_ z⟩⟩
   show Q (.bl (decide (V.int (hc_ [])=V.int 0))) HC
   rw [show decide (V.int (hc_ [])=V.int 0)=true from decide_eq_true rfl]
   exact kk HC
end
theorem fb1 {K:PySem.W.Frag}{mg:Str→Option Value}{n:Str}{st:Stmt}{ps:List Str}{f:Addr}{d:FuncData} (F:Fun K n n st f d) (e:mg n=some (.ref f)) (hp:ps.length=1) (h:∀(kV dc pm:Value) (an:Option Addr) (cd ct x0:Value),bindArgs (PySem.W.fnOf n n (cl_ st) (bZ_ st) (ah_ st) .none kV dc pm an cd ct) ⟨[x0],[]⟩=pure (ps.zip [x0])):Fb K mg n st ps f d:=by
 refine⟨F,F.binds fun kV dc pm an cd ct us hl=> ?_,e⟩
 rw [hp] at hl
 rcases us with _|⟨x0,us⟩
 ·simp at hl
 rcases us with _|⟨y,us⟩
 ·exact h kV dc pm an cd ct x0
 ·simp at hl
theorem fb2 {K:PySem.W.Frag}{mg:Str→Option Value}{n:Str}{st:Stmt}{ps:List Str}{f:Addr}{d:FuncData} (F:Fun K n n st f d) (e:mg n=some (.ref f)) (hp:ps.length=2) (h:∀(kV dc pm:Value) (an:Option Addr) (cd ct x0 x1:Value),bindArgs (PySem.W.fnOf n n (cl_ st) (bZ_ st) (ah_ st) .none kV dc pm an cd ct) ⟨[x0,x1],[]⟩=pure (ps.zip [x0,x1])):Fb K mg n st ps f d:=by
 refine⟨F,F.binds fun kV dc pm an cd ct us hl=> ?_,e⟩
 rw [hp] at hl
 rcases us with _|⟨x0,us⟩
 ·simp at hl
 rcases us with _|⟨x1,us⟩
 ·simp at hl
 rcases us with _|⟨y,us⟩
 ·exact h kV dc pm an cd ct x0 x1
 ·simp at hl
theorem fb3 {K:PySem.W.Frag}{mg:Str→Option Value}{n:Str}{st:Stmt}{ps:List Str}{f:Addr}{d:FuncData} (F:Fun K n n st f d) (e:mg n=some (.ref f)) (hp:ps.length=3) (h:∀(kV dc pm:Value) (an:Option Addr) (cd ct x0 x1 x2:Value),bindArgs (PySem.W.fnOf n n (cl_ st) (bZ_ st) (ah_ st) .none kV dc pm an cd ct) ⟨[x0,x1,x2],[]⟩=pure (ps.zip [x0,x1,x2])):Fb K mg n st ps f d:=by
 refine⟨F,F.binds fun kV dc pm an cd ct us hl=> ?_,e⟩
 rw [hp] at hl
 rcases us with _|⟨x0,us⟩
 ·simp at hl
 rcases us with _|⟨x1,us⟩
 ·simp at hl
 rcases us with _|⟨x2,us⟩
 ·simp at hl
 rcases us with _|⟨y,us⟩
 ·exact h kV dc pm an cd ct x0 x1 x2
 ·simp at hl
theorem fb4 {K:PySem.W.Frag}{mg:Str→Option Value}{n:Str}{st:Stmt}{ps:List Str}{f:Addr}{d:FuncData} (F:Fun K n n st f d) (e:mg n=some (.ref f)) (hp:ps.length=4) (h:∀(kV dc pm:Value) (an:Option Addr) (cd ct x0 x1 x2 x3:Value),bindArgs (PySem.W.fnOf n n (cl_ st) (bZ_ st) (ah_ st) .none kV dc pm an cd ct) ⟨[x0,x1,x2,x3],[]⟩=pure (ps.zip [x0,x1,x2,x3])):Fb K mg n st ps f d:=by
 refine⟨F,F.binds fun kV dc pm an cd ct us hl=> ?_,e⟩
 rw [hp] at hl
 rcases us with _|⟨x0,us⟩
 ·simp at hl
 rcases us with _|⟨x1,us⟩
 ·simp at hl
 rcases us with _|⟨x2,us⟩
 ·simp at hl
 rcases us with _|⟨x3,us⟩
 ·simp at hl
 rcases us with _|⟨y,us⟩
 ·exact h kV dc pm an cd ct x0 x1 x2 x3
 ·simp at hl
def Hf (K:PySem.W.Frag) (n:Str) (st:Stmt) (f:Addr):Prop:=PySem.W.nsIn K mainGlobals n=some (some (.ref f))∧∃d,Fun K n n st f d
theorem o4_ {K:PySem.W.Frag}{n:Str}{st:Stmt}{f:Addr}{od an:Option Addr}{sl:Array (Option Value)}{oc kV dc pm cd ct:Value} (a:PySem.W.nsIn K mainGlobals n=some (some (.ref f))) (l:K.lookup f=some ⟨oc,od, .func (PySem.W.fnOf n n (cl_ st) (bZ_ st) (ah_ st) .none kV dc pm an cd ct),sl⟩) (c:PySem.W.codeIn K cd n=true) (k:PySem.W.keepIn K (.ref f)=true):Hf K n st f:=⟨a,_,nR_ l c k⟩
theorem nY_ {l:PySem.W.OpenLaw}{w:World}{K:PySem.W.Frag}{h:Heap}{mg:Str→Option Value}{fa:Addr} (X:K.In h) (G:h.Ns mainGlobals mg) (hfa:mg "law"=some (.ref fa))
  {f0 f1 f2 f3 f4 f5 f6 f7 f8 f9 f10 f11 f12 f13 f14 f15 f16 f17 f18 f19 f20 f21 f22 f23 f24 f25 f26 f27 f28 f29 f30 f31 f32 f33 f34 f35:Addr}
  (h0:Hf K "is_whole" dB_ f0)
  (h1:Hf K "need_between" bU_ f1)
  (h2:Hf K "need_wide" c8_ f2)
  (h3:Hf K "need_degree" b8_ f3)
  (h4:Hf K "ends_at" el_ f4)
  (h5:Hf K "sound" hi_ f5)
  (h6:Hf K "lost" ji_ f6)
  (h7:Hf K "lifts_from" cw_ f7)
  (h8:Hf K "leaving" ej_ f8)
  (h9:Hf K "with_floor" bw_ f9)
  (h10:Hf K "drawings" cO_ f10)
  (h11:Hf K "worth" hh_ f11)
  (h12:Hf K "need_sound" cv_ f12)
  (h13:Hf K "end_marks" c9_ f13)
  (h14:Hf K "may_stand" b9_ f14)
  (h15:Hf K "without_first" bK_ f15)
  (h16:Hf K "orders" fn_ f16)
  (h17:Hf K "all_marks" ca_ f17)
  (h18:Hf K "markings" dA_ f18)
  (h19:Hf K "paper" fm_ f19)
  (h20:Hf K "is_lift" ek_ f20)
  (h21:Hf K "is_drawing" bP_ f21)
  (h22:Hf K "is_marking" cx_ f22)
  (h23:Hf K "weighed" ei_ f23)
  (h24:Hf K "_law_cell_at" bW_ f24)
  (h25:Hf K "_law_bag" dD_ f25)
  (h26:Hf K "_law_mixed" cy_ f26)
  (h27:Hf K "_law_digit" cz_ f27)
  (h28:Hf K "_law_marks" bx_ f28)
  (h29:Hf K "_law_is_right" bk_ f29)
  (h30:Hf K "_law_due" dC_ f30)
  (h31:Hf K "_law_left" da_ f31)
  (h32:Hf K "_law_odd_row" bV_ f32)
  (h33:Hf K "_law_spoilt" bF_ f33)
  (h34:Hf K "_law_asked" bQ_ f34)
  (h35:Hf K "law" lY_ f35)
  (zz:∀n∈["isinstance","int","bool","min","range","enumerate","sum","sorted","any","set","list","all","len","tuple","abs"],PySem.W.nsIn K mainGlobals n=some none)
  {A_WIDE:Addr} (da_WIDE:PySem.W.nsIn K mainGlobals "WIDE"=some (some (.ref A_WIDE))) (dt_WIDE:iC_ K A_WIDE [(1,6),(2,6),(3,6),(4,6),(5,3)]=true)
  {C_NoBound:Addr} (ca_NoBound:PySem.W.nsIn K mainGlobals "NoBound"=some (some (.ref C_NoBound)))
  {C_NoDrawing:Addr} (ca_NoDrawing:PySem.W.nsIn K mainGlobals "NoDrawing"=some (some (.ref C_NoDrawing)))
  (cx_NoBound:PySem.W.excIn K C_NoBound bmV "ValueError.__new__"=true) (xc_NoBound:XC K C_NoBound)
  (cx_NoDrawing:PySem.W.excIn K C_NoDrawing bmV "ValueError.__new__"=true) (xc_NoDrawing:XC K C_NoDrawing)
  :∃fd:FuncData,(∀(s:Shared) (v:Value),BindsTo s fd ⟨[v],[]⟩ [("_law_script",v)])∧∀base:Heap,K.In base→base.Ns mainGlobals mg→FnOk l.prog w K mg base CX0 26 fa fd ["_law_script"] (hZ_ K):=by
 obtain⟨a0,d0,F0⟩:=h0
 obtain⟨a1,d1,F1⟩:=h1
 obtain⟨a2,d2,F2⟩:=h2
 obtain⟨a3,d3,F3⟩:=h3
 obtain⟨a4,d4,F4⟩:=h4
 obtain⟨a5,d5,F5⟩:=h5
 obtain⟨a6,d6,F6⟩:=h6
 obtain⟨a7,d7,F7⟩:=h7
 obtain⟨a8,d8,F8⟩:=h8
 obtain⟨a9,d9,F9⟩:=h9
 obtain⟨a10,d10,F10⟩:=h10
 obtain⟨a11,d11,F11⟩:=h11
 obtain⟨a12,d12,F12⟩:=h12
 obtain⟨a13,d13,F13⟩:=h13
 obtain⟨a14,d14,F14⟩:=h14
 obtain⟨a15,d15,F15⟩:=h15
 obtain⟨a16,d16,F16⟩:=h16
 obtain⟨a17,d17,F17⟩:=h17
 obtain⟨a18,d18,F18⟩:=h18
 obtain⟨a19,d19,F19⟩:=h19
 obtain⟨a20,d20,F20⟩:=h20
 obtain⟨a21,d21,F21⟩:=h21
 obtain⟨a22,d22,F22⟩:=h22
 obtain⟨a23,d23,F23⟩:=h23
 obtain⟨a24,d24,F24⟩:=h24
 obtain⟨a25,d25,F25⟩:=h25
 obtain⟨a26,d26,F26⟩:=h26
 obtain⟨a27,d27,F27⟩:=h27
 obtain⟨a28,d28,F28⟩:=h28
 obtain⟨a29,d29,F29⟩:=h29
 obtain⟨a30,d30,F30⟩:=h30
 obtain⟨a31,d31,F31⟩:=h31
 obtain⟨a32,d32,F32⟩:=h32
 obtain⟨a33,d33,F33⟩:=h33
 obtain⟨a34,d34,F34⟩:=h34
 obtain⟨a35,d35,F35⟩:=h35
 cases hfa.symm.trans (PySem.W.mg_of X G a35)
 have W:=F35
 obtain⟨_,_,_,_,_,_,_,_,_,rfl,_⟩:=F35.ex
 have g {n:Str}{v:Value} (e:PySem.W.nsIn K mainGlobals n=some (some v)):mg n=some v:=PySem.W.mg_of X G e
 exact⟨_,fun s v=> .of_eq rfl,fun base _ _=>ny_ (⟨f0,_,f1,_,f2,_,f3,_,f4,_,f5,_,f6,_,f7,_,f8,_,f9,_,f10,_,f11,_,f12,_,f13,_,f14,_,f15,_,f16,_,f17,_,f18,_,f19,_,f20,_,f21,_,f22,_,f23,_,f24,_,f25,_,f26,_,f27,_,f28,_,f29,_,f30,_,f31,_,f32,_,f33,_,f34,_,fa,_,fb1 F0 (g a0) rfl fun _ _ _ _ _ _ _=>rfl,fb3 F1 (g a1) rfl fun _ _ _ _ _ _ _ _ _=>rfl,fb2 F2 (g a2) rfl fun _ _ _ _ _ _ _ _=>rfl,fb1 F3 (g a3) rfl fun _ _ _ _ _ _ _=>rfl,fb2 F4 (g a4) rfl fun _ _ _ _ _ _ _ _=>rfl,fb2 F5 (g a5) rfl fun _ _ _ _ _ _ _ _=>rfl,fb1 F6 (g a6) rfl fun _ _ _ _ _ _ _=>rfl,fb4 F7 (g a7) rfl fun _ _ _ _ _ _ _ _ _ _=>rfl,fb3 F8 (g a8) rfl fun _ _ _ _ _ _ _ _ _=>rfl,fb4 F9 (g a9) rfl fun _ _ _ _ _ _ _ _ _ _=>rfl,fb2 F10 (g a10) rfl fun _ _ _ _ _ _ _ _=>rfl,fb1 F11 (g a11) rfl fun _ _ _ _ _ _ _=>rfl,fb2 F12 (g a12) rfl fun _ _ _ _ _ _ _ _=>rfl,fb2 F13 (g a13) rfl fun _ _ _ _ _ _ _ _=>rfl,fb3 F14 (g a14) rfl fun _ _ _ _ _ _ _ _ _=>rfl,fb2 F15 (g a15) rfl fun _ _ _ _ _ _ _ _=>rfl,fb2 F16 (g a16) rfl fun _ _ _ _ _ _ _ _=>rfl,fb2 F17 (g a17) rfl fun _ _ _ _ _ _ _ _=>rfl,fb2 F18 (g a18) rfl fun _ _ _ _ _ _ _ _=>rfl,fb2 F19 (g a19) rfl fun _ _ _ _ _ _ _ _=>rfl,fb2 F20 (g a20) rfl fun _ _ _ _ _ _ _ _=>rfl,fb3 F21 (g a21) rfl fun _ _ _ _ _ _ _ _ _=>rfl,fb3 F22 (g a22) rfl fun _ _ _ _ _ _ _ _ _=>rfl,fb3 F23 (g a23) rfl fun _ _ _ _ _ _ _ _ _=>rfl,fb2 F24 (g a24) rfl fun _ _ _ _ _ _ _ _=>rfl,fb2 F25 (g a25) rfl fun _ _ _ _ _ _ _ _=>rfl,fb1 F26 (g a26) rfl fun _ _ _ _ _ _ _=>rfl,fb2 F27 (g a27) rfl fun _ _ _ _ _ _ _ _=>rfl,fb2 F28 (g a28) rfl fun _ _ _ _ _ _ _ _=>rfl,fb3 F29 (g a29) rfl fun _ _ _ _ _ _ _ _ _=>rfl,fb3 F30 (g a30) rfl fun _ _ _ _ _ _ _ _ _=>rfl,fb2 F31 (g a31) rfl fun _ _ _ _ _ _ _ _=>rfl,fb3 F32 (g a32) rfl fun _ _ _ _ _ _ _ _ _=>rfl,fb3 F33 (g a33) rfl fun _ _ _ _ _ _ _ _ _=>rfl,fb3 F34 (g a34) rfl fun _ _ _ _ _ _ _ _ _=>rfl,fb1 W (g a35) rfl fun _ _ _ _ _ _ _=>rfl,PySem.W.mg_none_of X G (zz _ (by decide)),PySem.W.mg_none_of X G (zz _ (by decide)),PySem.W.mg_none_of X G (zz _ (by decide)),PySem.W.mg_none_of X G (zz _ (by decide)),PySem.W.mg_none_of X G (zz _ (by decide)),PySem.W.mg_none_of X G (zz _ (by decide)),PySem.W.mg_none_of X G (zz _ (by decide)),PySem.W.mg_none_of X G (zz _ (by decide)),PySem.W.mg_none_of X G (zz _ (by decide)),PySem.W.mg_none_of X G (zz _ (by decide)),PySem.W.mg_none_of X G (zz _ (by decide)),PySem.W.mg_none_of X G (zz _ (by decide)),PySem.W.mg_none_of X G (zz _ (by decide)),PySem.W.mg_none_of X G (zz _ (by decide)),PySem.W.mg_none_of X G (zz _ (by decide)),A_WIDE,g da_WIDE,dt_WIDE,C_NoBound,g ca_NoBound,C_NoDrawing,g ca_NoDrawing,cx_NoBound,xc_NoBound,cx_NoDrawing,xc_NoDrawing⟩:Fns K mg)⟩
theorem walk {l:PySem.W.OpenLaw}{q:Program}{loose:List Str}{XP:(Str→Option Value)→Heap→Prop}{YP:World→Heap→Prop}{d:DefRec}{K:Params→PySem.W.Frag} (hn:l.most=some 63) (hdf:d.params.defaults=[])
  (hY:∀(w:World) (h:Heap),YP w h→(K w.params).In h)
  (F:∀(w:World) (mg:Str→Option Value) (fa:Addr) (h:Heap),(K w.params).In h→h.Ns mainGlobals mg→mg d.name=some (.ref fa)→
   ∃fd:FuncData,(∀(s:Shared) (u:Value),BindsTo s fd ⟨[u],[]⟩ [("_law_script",u)])∧∀base:Heap,(K w.params).In base→base.Ns mainGlobals mg→FnOk l.prog w (K w.params) mg base CX0 26 fa fd ["_law_script"] (hZ_ (K w.params))):
  PySem.W.WalkO q loose XP YP l.row.toRowW d [] (fun f vs=>PySem.call f vs):=
 L2.lJ_ (n:=63) (k:=26) (x:="_law_script") (CX:=fun _=>CX0) (sp:=fun w=>hZ_ (K w.params)) hn (by decide) hdf ⟨rfl,by decide,by decide⟩ hY F (fun _ _ a ns hl _ hS=>⟨a,ns,rfl,hS,hl,fun _=>rfl⟩) fun _ _ _ _ _ z=>z
end Mine
open PySem PySem.W PyProof.Rows
namespace PySem.W.Fast
theorem tw10553139914031136576 : True := trivial
theorem tw3107527932933807613 : True := trivial
theorem tw6409022225298954865 : True := trivial
theorem tw9599841340737037652 : True := trivial
theorem tw16315411805196806682 : True := trivial
theorem tw1002259431952170025 : True := trivial
theorem tw12378826176187001465 : True := trivial
theorem tw459387680462289408 : True := trivial
theorem tw6256793354075797097 : True := trivial
theorem tw16919193351505937491 : True := trivial
theorem tw18101237406653902861 : True := trivial
theorem tw14829490162986859208 : True := trivial
theorem tw7977338129899251297 : True := trivial
theorem tw3275245989830263018 : True := trivial
theorem tw10499577056062168690 : True := trivial
theorem tw1370432886512412002 : True := trivial
theorem tw16160769376874587106 : True := trivial
theorem tw15325251378456215804 : True := trivial
theorem tw1587313699647365703 : True := trivial
theorem tw15174146129521829848 : True := trivial
theorem tw11277336266070088176 : True := trivial
theorem tw16577512715376088253 : True := trivial
theorem tw14659042351483172700 : True := trivial
theorem tw828427542649265 : True := trivial
theorem tw8830659008220099686 : True := trivial
theorem tw13963438892114355246 : True := trivial
theorem tw6426674816206278167 : True := trivial
theorem tw4852076795824581520 : True := trivial
theorem tw570479661403282171 : True := trivial
theorem tw6440119728648549095 : True := trivial
theorem tw11073163663575457959 : True := trivial
theorem tw10785218052640258700 : True := trivial
theorem tw4908181731355219867 : True := trivial
theorem tw2415381495424703243 : True := trivial
theorem tw6420177294599067969 : True := trivial
theorem tw10016984988198933653 : True := trivial
theorem tw16091362685943518323 : True := trivial
theorem tw9695147120449032084 : True := trivial
theorem tw2319085730639334556 : True := trivial
theorem tw9689689057885575106 : True := trivial
theorem tw15408475800755371877 : True := trivial
theorem tw3575950346704878854 : True := trivial
theorem tw16577270363512575362 : True := trivial
theorem tw1083318736966076282 : True := trivial
theorem tw14695362382116668513 : True := trivial
theorem tw16238781252671408087 : True := trivial
theorem tw14486355142526325727 : True := trivial
theorem tw2397689482723294296 : True := trivial
theorem tw10645228645554131039 : True := trivial
theorem tw7580029393398035018 : True := trivial
theorem tw18434683288748219580 : True := trivial
theorem tw1923340599730715376 : True := trivial
theorem tw15485814872102233390 : True := trivial
theorem tw7883566148918886974 : True := trivial
theorem tw17238163088856559215 : True := trivial
theorem tw12505099627494473516 : True := trivial
theorem tw9474477260542223911 : True := trivial
theorem tw526318176637743556 : True := trivial
theorem tw15570943416512555771 : True := trivial
theorem tw1672904600040939660 : True := trivial
theorem tw5070047057489578277 : True := trivial
theorem tw9218518243006767309 : True := trivial
theorem tw15026173095007464337 : True := trivial
theorem tw12664772584940359789 : True := trivial
theorem tw17570055041681408472 : True := trivial
theorem tw16883293872995329070 : True := trivial
theorem tw5026412162509374056 : True := trivial
theorem tw1515730548081674180 : True := trivial
theorem tw901676515318306580 : True := trivial
theorem tw6469072102523272300 : True := trivial
theorem tw8748143634485905091 : True := trivial
theorem tw7609954061545240163 : True := trivial
theorem tw4126078032431629986 : True := trivial
theorem tw787866844605253348 : True := trivial
theorem tw8877693097387171064 : True := trivial
theorem tw5369370780779455808 : True := trivial
theorem tw5405820495371830451 : True := trivial
theorem tw18241941883364299798 : True := trivial
theorem tw15223459168042946106 : True := trivial
theorem tw1425210384210301139 : True := trivial
theorem tw3801875362331776665 : True := trivial
theorem tw14787859483780526905 : True := trivial
theorem tw8153506995323867539 : True := trivial
theorem tw1214220006791896 : True := trivial
theorem tw5454347759872333321 : True := trivial
theorem tw11874836263264338241 : True := trivial
theorem tw11652153638228627850 : True := trivial
theorem tw13222081772820275265 : True := trivial
theorem tw937788509085165984 : True := trivial
theorem tw14760293884506748864 : True := trivial
theorem tw13244062784621611455 : True := trivial
theorem tw6942729329294852428 : True := trivial
theorem tw3680658995539238458 : True := trivial
theorem tw7570073815905751708 : True := trivial
theorem tw6181055228997133671 : True := trivial
theorem tw17848249615176286457 : True := trivial
theorem tw1581029244497754761 : True := trivial
theorem tw10026127030450179245 : True := trivial
theorem tw18120613452541035980 : True := trivial
theorem tw555144350090873420 : True := trivial
theorem tw1636961247719474108 : True := trivial
theorem tw10135340875190726169 : True := trivial
theorem tw8310711880606964039 : True := trivial
theorem tw15110781776148348182 : True := trivial
theorem tw9558470004914424584 : True := trivial
theorem tw1045686265552744824 : True := trivial
theorem tw10871029422021835422 : True := trivial
theorem tw4441352315030254247 : True := trivial
theorem tw8144713689678685326 : True := trivial
theorem tw13389918592259508768 : True := trivial
theorem tw15193350769246632092 : True := trivial
theorem tw5026611808883491797 : True := trivial
theorem tw3191381417605125774 : True := trivial
theorem tw10439701460116987279 : True := trivial
theorem tw7188727985228396966 : True := trivial
theorem tw906138109075004269 : True := trivial
theorem tw13758363153304068600 : True := trivial
theorem tw18441071353914212927 : True := trivial
theorem tw10373014478049369424 : True := trivial
theorem tw8918244767343202466 : True := trivial
theorem tw16716691690537330592 : True := trivial
theorem tw16936648593046557789 : True := trivial
theorem tw18189201949931128747 : True := trivial
theorem tw8980368199919554274 : True := trivial
theorem tw16509104754574996303 : True := trivial
theorem tw339799769845489246 : True := trivial
theorem tw3360340283339834897 : True := trivial
theorem tw13596299333479103487 : True := trivial
theorem tw9753190740119626081 : True := trivial
theorem tw18053824588173572947 : True := trivial
theorem tw13951134868068541803 : True := trivial
theorem tw9189001963980674078 : True := trivial
theorem tw18404832983181084899 : True := trivial
theorem tw8609132085424104856 : True := trivial
theorem tw2499681567183536176 : True := trivial
theorem tw10241478528355703375 : True := trivial
theorem tw11247116937090744121 : True := trivial
theorem tw8137775197355970874 : True := trivial
theorem tw2528747356363543591 : True := trivial
theorem tw4849640383334576032 : True := trivial
theorem tw7720374294280449595 : True := trivial
theorem tw219120414542319570 : True := trivial
theorem tw13924804123024082786 : True := trivial
theorem tw9590121411677369807 : True := trivial
theorem tw17237425418318906806 : True := trivial
theorem tw16652646915654094263 : True := trivial
theorem tw13606215803835862473 : True := trivial
theorem tw1489675061341096919 : True := trivial
theorem tw16603320510901695558 : True := trivial
theorem tw572298822017830796 : True := trivial
theorem tw18028082756209330774 : True := trivial
theorem tw11559165852190971267 : True := trivial
theorem tw6784215316437008829 : True := trivial
theorem tw14045877231732808561 : True := trivial
theorem tw6697524989514720328 : True := trivial
theorem tw14336633230233357697 : True := trivial
theorem tw3247883753525414690 : True := trivial
theorem tw15612888279047834819 : True := trivial
theorem tw9382343476930361292 : True := trivial
theorem tw497533724917292315 : True := trivial
theorem tw15097321852876665746 : True := trivial
theorem tw16001079298399077546 : True := trivial
theorem tw7778959905811725896 : True := trivial
theorem tw16258003941904166630 : True := trivial
theorem tw16709433492753745313 : True := trivial
theorem tw5357128884270702791 : True := trivial
theorem tw6588915424898814714 : True := trivial
theorem tw15150346891577809089 : True := trivial
theorem tw553250822565363011 : True := trivial
theorem tw18069956142659730299 : True := trivial
theorem tw17453321600387363097 : True := trivial
theorem tw16752836177794867073 : True := trivial
theorem tw8122812511157556199 : True := trivial
theorem tw3915084572601920168 : True := trivial
theorem tw9601240095750713218 : True := trivial
theorem tw15809197401901160231 : True := trivial
theorem tw4061333964993429241 : True := trivial
theorem tw12745680817747129786 : True := trivial
theorem tw7446573812307898731 : True := trivial
theorem tw5259612098623185175 : True := trivial
theorem tw5775877825114458918 : True := trivial
theorem tw3569527588643269053 : True := trivial
theorem tw6506100904734818728 : True := trivial
theorem tw10952254671352511300 : True := trivial
theorem tw11856042610136562791 : True := trivial
theorem tw8631658909482515938 : True := trivial
theorem tw3239934569161805911 : True := trivial
theorem tw2540937614533072503 : True := trivial
theorem tw18282240900040752795 : True := trivial
theorem tw11253804322638846995 : True := trivial
theorem tw16955785234037509577 : True := trivial
theorem tw3281283529067426153 : True := trivial
theorem tw16799904860654013185 : True := trivial
theorem tw10011771377214447874 : True := trivial
theorem tw1577575700323420316 : True := trivial
theorem tw9377148351823473914 : True := trivial
theorem tw7017366812320197773 : True := trivial
theorem tw13454521378958601699 : True := trivial
theorem tw1137165445097387824 : True := trivial
theorem tw18315189933157611047 : True := trivial
theorem tw17035152024869312606 : True := trivial
theorem tw1101752938587194748 : True := trivial
theorem tw14357881046162141940 : True := trivial
theorem tw8600869162001282392 : True := trivial
theorem tw888013060720983473 : True := trivial
theorem tw18318497716527611574 : True := trivial
theorem tw7944715331689234127 : True := trivial
theorem tw3201696207508096450 : True := trivial
theorem tw4280904026517336279 : True := trivial
theorem tw453228943232675064 : True := trivial
theorem tw5101929077908973581 : True := trivial
theorem tw9090718532255339257 : True := trivial
theorem tw7131116652516059310 : True := trivial
theorem tw12223678730869562039 : True := trivial
theorem tw16012506322663896556 : True := trivial
theorem tw6970115454369450829 : True := trivial
theorem tw9014443815530496220 : True := trivial
theorem tw6968658438333575853 : True := trivial
theorem tw18366347401809040553 : True := trivial
theorem tw17867931286092468308 : True := trivial
theorem tw6512733162994691250 : True := trivial
theorem tw3931507507412607603 : True := trivial
theorem tw3291569344742526541 : True := trivial
theorem tw16837636684171144419 : True := trivial
theorem tw14175821437781172624 : True := trivial
theorem tw12428798684552036117 : True := trivial
theorem tw11904222754922870338 : True := trivial
theorem tw10352788571212519346 : True := trivial
theorem tw4220905204220367945 : True := trivial
theorem tw8764120812495630413 : True := trivial
theorem tw5796894138218156484 : True := trivial
theorem tw14924349423310977389 : True := trivial
theorem tw14979766485331241180 : True := trivial
theorem tw10629212815839619230 : True := trivial
theorem tw84949538358003009 : True := trivial
theorem tw3129266517075554176 : True := trivial
theorem tw15869640647098138270 : True := trivial
theorem tw8955293770894101510 : True := trivial
theorem tw15071758978721983988 : True := trivial
theorem tw7865245469828837220 : True := trivial
theorem tw4987885347409525387 : True := trivial
theorem tw15266213629051204314 : True := trivial
theorem tw6525398849403519155 : True := trivial
theorem tw12465073240378216290 : True := trivial
theorem tw5136944447212607489 : True := trivial
theorem tw6607537912826910622 : True := trivial
theorem tw12889655213357377730 : True := trivial
theorem tw9262791947156158874 : True := trivial
theorem tw3414045848127898069 : True := trivial
theorem tw16006802907107867846 : True := trivial
theorem tw10958191381274098623 : True := trivial
theorem tw15580700020927151256 : True := trivial
theorem tw4374330406931155285 : True := trivial
theorem tw2021407830438269520 : True := trivial
theorem tw4529939808593566811 : True := trivial
theorem tw11312777653138748237 : True := trivial
theorem tw4506232236365493392 : True := trivial
theorem tw18333779865865283935 : True := trivial
theorem tw2805314903451088752 : True := trivial
theorem tw10523993948275628665 : True := trivial
theorem tw8965024350510062923 : True := trivial
theorem tw8284475114881265889 : True := trivial
end PySem.W.Fast
set_option maxRecDepth 100000 in
set_option maxHeartbeats 0 in
theorem PySem.Challenge.cw_floorcurves_k76_spoilt_papers_holds : PySem.Challenge.rw_floorcurves_k76_spoilt_papers.Holds := by
 w_on; o_law; k_head; (case hw => w_witness2)
 k_fill
 refine Mine.walk (l := PySem.Challenge.rw_floorcurves_k76_spoilt_papers) rfl rfl (fun w h Y => PySem.W.kIn_of Y) ?F
 case F =>
  intro w mg fa h KX G hmg
  refine' Mine.nY_ KX G hmg ?h0 ?h1 ?h2 ?h3 ?h4 ?h5 ?h6 ?h7 ?h8 ?h9 ?h10 ?h11 ?h12 ?h13 ?h14 ?h15 ?h16 ?h17 ?h18 ?h19 ?h20 ?h21 ?h22 ?h23 ?h24 ?h25 ?h26 ?h27 ?h28 ?h29 ?h30 ?h31 ?h32 ?h33 ?h34 ?h35 ?zz ?da_WIDE ?dt_WIDE ?ca_NoBound ?ca_NoDrawing ?cx_NoBound ?xc_NoBound ?cx_NoDrawing ?xc_NoDrawing
  (case h0 | h1 | h2 | h3 | h4 | h5 | h6 | h7 | h8 | h9 | h10 | h11 | h12 | h13 | h14 | h15 | h16 | h17 | h18 | h19 | h20 | h21 | h22 | h23 | h24 | h25 | h26 | h27 | h28 | h29 | h30 | h31 | h32 | h33 | h34 | h35 => refine' Mine.o4_ ?a ?l ?c ?k; (case a => k_is); (case l => k_is); (case c => k_is); (case k => k_is))
  (case zz => intro n hn; simp only [List.mem_cons, List.not_mem_nil, or_false] at hn; rcases hn with rfl | rfl | rfl | rfl | rfl | rfl | rfl | rfl | rfl | rfl | rfl | rfl | rfl | rfl | rfl <;> k_is)
  (case da_WIDE => k_is)
  (case dt_WIDE => first | k_is | kit_is | kts_exm | kernel_rfl)
  (case ca_NoBound | ca_NoDrawing | cx_NoBound | cx_NoDrawing => first | k_is | kit_is | kts_exm | kernel_rfl)
  (case xc_NoBound | xc_NoDrawing => constructor <;> first | k_is | kit_is | kts_exm | kernel_rfl)
#print axioms PySem.Challenge.cw_floorcurves_k76_spoilt_papers_holds
