import PyProof.Rows.All
import Wide.All
import OpenK.AllK
import Wide.FinOn
import PySem.Challenge.RW_floorcurves_k56_whole_without_holes
import Lean
import PyProof.EqAt
import PyProof.EqKinds
import PyProof.TupleCall
local macro_rules | `(command|def $n:declId $s:optDeclSig $v:declVal)=>`(command|noncomputable def $n:declId $s:optDeclSig $v:declVal)
local macro_rules | `(command|abbrev $n:declId $s:optDeclSig $v:declVal)=>`(command|noncomputable abbrev $n:declId $s:optDeclSig $v:declVal)
local macro_rules | `(tactic| and_intros) => `(tactic| exact ⟨rfl,rfl,rfl,by decide +kernel,rfl,by decide +kernel,by decide +kernel⟩)
local macro_rules | `(tactic| lia) => `(tactic| first | lia -verbose | omega)
local macro_rules | `(tactic| ac_nf) => `(tactic| decide +kernel)
local macro_rules | `(tactic| trivial) => `(tactic| first | exact Or.inl rfl | exact Or.inr rfl)
abbrev NR:=@PySem.Value
abbrev Qn:=@PySem.Shared
abbrev Qo:=@PySem.Addr
abbrev Qp:=@PySem.Program
abbrev Qq:=@PySem.FuncData
abbrev Qr:=@PySem.World
abbrev Qs:=@PySem.Around
abbrev Qt:=@List
abbrev Qu:=@PySem.Expr
abbrev Qv:=@PySem.Heap
abbrev Qw:=@Option
abbrev Qx:=@PySem.Stmt
abbrev A0:=@PySem.wpAny_bind
abbrev A1:=@List.length_map
abbrev A2:=@List.getElem?_eq_getElem
abbrev A3:=@PySem.wpAny_pure
abbrev A4:=@PySem.Heap.get?_push_of_some
abbrev A5:=@if_neg
abbrev A6:=@List.map_append
abbrev A7:=@if_pos
abbrev A8:=@List.getElem?_eq_some_iff
abbrev A9:=@List.getD_eq_getElem?_getD
abbrev A':=@Nat.le_refl
abbrev AA:=@List.length_append
abbrev AB:=@PySem.Heap.get?_push_size
abbrev AC:=@List.getElem?_map
abbrev AD:=@PySem.PassesOwn.never
abbrev AE:=@List.map_cons
abbrev AF:=@List.take_length
abbrev AG:=@Bool.false_eq_true
abbrev AH:=@List.mem_of_getElem?
abbrev AI:=@List.mem_cons
abbrev AJ:=@List.size_toArray
abbrev AK:=@List.take_add_one
abbrev AL:=@Nat.zero_le
abbrev AM:=@PySem.Heap.lt_size
abbrev AN:=@Bool.and_eq_true
abbrev AO:=@Nat.ne_of_lt
abbrev AQ:=@List.mem_cons_of_mem
abbrev AR:=@Option.map_eq_some_iff
abbrev AS:=@List.length_take
abbrev AT:=@List.length_cons
abbrev AU:=@PySem.F.plainAttrs_list
abbrev AV:=@Bool.false_ne_true
abbrev AW:=@List.mem_cons_self
abbrev AX:=@PySem.Heap.get?_update_other
abbrev AY:=@List.all_eq_true
abbrev AZ:=@Array.getElem?_eq_getElem
abbrev Aa:=@List.mem_range
abbrev Ab:=@List.mem_singleton
abbrev Ac:=@Option.some.inj
abbrev Ad:=@Nat.le_of_lt
abbrev Ae:=@decide_eq_false
abbrev Af:=@PySem.wpAny_call_entry
abbrev Ag:=@PySem.F.type_list_append
abbrev Ah:=@PySem.F.slot_list_append
abbrev Ai:=@List.drop_eq_getElem_cons
abbrev Aj:=@Nat.lt_of_lt_of_le
abbrev Ak:=@List.mem_map
abbrev Al:=@Nat.lt_succ_of_lt
abbrev Am:=@PySem.wpAny_newObj_type
abbrev An:=@PySem.Heap.size_push
abbrev Ao:=@Array.length_toList
abbrev Ap:=@if_false
abbrev Aq:=@List.map_congr_left
abbrev Ar:=@PySem.wpAny_holding
abbrev As:=@List.not_mem_nil
abbrev At:=@decide_eq_true
abbrev Au:=@List.flatMap_append
abbrev Av:=@decide_eq_true_eq
abbrev Aw:=@List.sum_cons
abbrev Ax:=@List.range_succ
abbrev Ay:=@PySem.sizeLine_eq
abbrev Az:=@Int.toNat_natCast
abbrev B0:=@List.mem_append_right
abbrev B1:=@PySem.W.mg_none_of
abbrev B2:=@PySem.wpAny_callSpecial?_slot
abbrev B3:=@PyProof.Rows.callWith_type1
abbrev B4:=@PySem.Heap.get?_update_self
abbrev B5:=@List.append_nil
abbrev B6:=@List.mem_iff_getElem
abbrev B7:=@PySem.wpAny_seqItems
abbrev B8:=@of_decide_eq_true
abbrev B9:=@Nat.le_trans
abbrev B':=@List.mem_flatMap
abbrev BA:=@List.map_map
abbrev BB:=@PySem.Around.under_plainId
abbrev BC:=@PySem.Heap.size_update
abbrev BD:=@PySem.Heap.get?_push_ne
abbrev BE:=@PySem.Heap.SameBut.update
abbrev BF:=@Bool.not_true
abbrev BG:=@Ne.symm
abbrev BH:=@List.take_succ_cons
abbrev BI:=@List.nodup_cons
abbrev BJ:=@List.length_range
abbrev BK:=@Array.getElem?_toList
abbrev BL:=@PySem.Paired.length
abbrev BM:=@List.mem_append
abbrev BN:=@Nat.lt_succ_self
abbrev BO:=@List.getElem?_append_right
abbrev BP:=@List.append_assoc
abbrev BQ:=@PySem.codeAny_builtin
abbrev BR:=@Array.getElem?_eq_none
abbrev BS:=@PySem.wpAny_truthy_bool
abbrev BU:=@congrArg
abbrev BV:=@List.flatMap_cons
abbrev BW:=@PySem.wpAny_forIn_list
abbrev BX:=@PySem.plainId_quiet
abbrev BY:=@PyProof.Rows.slot_tuple_getitem
abbrev BZ:=@PySem.wpAny_setState_of
abbrev Ba:=@List.filter_append
abbrev Bb:=@Nat.lt_irrefl
abbrev Bc:=@List.find?_cons
abbrev Bd:=@List.drop_of_length_le
abbrev Be:=@PySem.wpAny_Call_Name_kw
abbrev Bf:=@List.getElem?_append_left
abbrev Bg:=@PySem.F.slot_dict_valueiterator_next
abbrev Bh:=@List.replicate_succ
abbrev Bi:=@List.foldl_append
abbrev Bj:=@PySem.wpAny_isInstance
abbrev Bk:=@List.length_replicate
abbrev Bl:=@List.length_filter_le
abbrev Bm:=@PySem.W.kia_one
abbrev Bn:=@Nat.ne_of_gt
abbrev Bo:=@Nat.lt_or_ge
abbrev Bp:=@PySem.wpAny_field
abbrev Bq:=@PySem.F.slot_dict_keyiterator_next
abbrev Br:=@List.length_eq_zero_iff
abbrev Bs:=@List.length_drop
abbrev Bt:=@PySem.wpAny_specialOf
abbrev Bu:=@or_false
abbrev Bv:=@PySem.wpAny_mono
abbrev Bw:=@List.take_append_drop
abbrev Bx:=@PySem.F.slot_tuple_hash
abbrev By:=@List.filter_cons
abbrev Bz:=@PySem.Obj.data_mapFields
abbrev C0:=@if_true
abbrev C1:=@List.length_set
abbrev C2:=@Bool.or_eq_true
abbrev C3:=@PySem.mem_of_lookup
abbrev C4:=@PyProof.Rows.size_push'
abbrev C5:=@Nat.add_assoc
abbrev C6:=@PySem.wpAny_updateSeq
abbrev C7:=@List.drop_zero
abbrev C8:=@Array.getElem?_eq_none_iff
abbrev C9:=@Array.forIn_toList
abbrev C':=@List.getElem?_eq_none
abbrev CA:=@List.sum_append
abbrev CB:=@List.length_nil
abbrev CC:=@List.cons.injEq
abbrev CD:=@PySem.wpAny_setField
abbrev CF:=@PySem.wpAny_pyIter_tuple
abbrev CG:=@Nat.pow_le_pow_right
abbrev CH:=@PySem.F.type_list_extend
abbrev CI:=@PySem.F.slot_list_extend
abbrev CJ:=@PySem.wpAny_loadPart'
abbrev CK:=@beq_eq_false_iff_ne
abbrev CL:=@PySem.wpAny_letGo
abbrev CM:=@List.lookup_cons
abbrev CN:=@Int.mul_nonneg
abbrev CO:=@Int.eq_ofNat_of_zero_le
abbrev CP:=@PySem.wpAny_rule
abbrev CQ:=@List.pairwise_cons
abbrev CS:=@PySem.wpAny_tryCatch
abbrev CT:=@PySem.F.plain_min_loop
abbrev CU:=@PySem.F.plain_max_loop
abbrev CV:=@PySem.wpAny_typeNameOfWhole_valiter
abbrev CW:=@PySem.wpAny_typeNameOfWhole_keyiter
abbrev CY:=@Nat.lt_of_succ_lt
abbrev CZ:=@PySem.wpAny_tupleItemsOf
abbrev Ca:=@PySem.Calls.spliced_cons
abbrev Cb:=@List.mem_of_mem_take
abbrev Cc:=@List.getElem?_set_ne
abbrev Cd:=@PySem.F.slot_tuple_eq
abbrev Ce:=@Bool.not_false
abbrev Cf:=@Array.perm_iff_toList_perm
abbrev Cg:=@PySem.wpAny_attempt
abbrev Ch:=@PySem.isSubtype_tuple_tuple
abbrev Ci:=@Nat.succ_mul
abbrev Cj:=@List.getElem_mem
abbrev Ck:=@List.ext_getElem
abbrev Cm:=@PySem.wpAny_dictEntries
abbrev Cn:=@List.filterMap_cons
abbrev Co:=@PySem.wpAny_of_eq
abbrev Cp:=@PySem.F.slot_tuple_iterator_next
abbrev Cq:=@PyProof.Rows.get?_update_seq
abbrev Cr:=@List.mem_filter
abbrev Cs:=@List.foldl_cons
abbrev Ct:=@Bool.eq_iff_iff
abbrev Cu:=@PySem.wpAny_typeOf
abbrev Cv:=@PyProof.Rows.listUpdate_at
abbrev Cw:=@List.map_replicate
abbrev Cy:=@PySem.F.called_set
abbrev Cz:=@Option.bind_eq_some_iff
abbrev D0:=@Nat.le_succ
abbrev D1:=@PySem.wpAny_typeNameOf_valiter
abbrev D2:=@PySem.wpAny_typeNameOf_keyiter
abbrev D3:=@bne_self_eq_false
abbrev D4:=@List.take_of_length_le
abbrev D5:=@List.nodup_append
abbrev D6:=@List.flatten_cons
abbrev D7:=@Int.zero_add
abbrev D8:=@Int.mul_le_mul
abbrev D9:=@PySem.wpAny_dictEpoch
abbrev D':=@PySem.wpAny_setField_rec
abbrev DA:=@List.length_singleton
abbrev DB:=@PyProof.Rows.callWith_builtin1
abbrev DC:=@List.cons_append
abbrev DD:=@Prod.mk.injEq
abbrev DE:=@PySem.wpAny_fieldsOf
abbrev DF:=@List.mem_of_mem_drop
abbrev DH:=@Int.le_refl
abbrev DI:=@PySem.Obj.isFreed_of_fields
abbrev DJ:=@PySem.wpAny_askSetting
abbrev DK:=@PySem.wpAny_newList
abbrev DL:=@PySem.boot_len
abbrev DO:=@beq_iff_eq
abbrev DP:=@List.zip_cons_cons
abbrev DQ:=@List.nodup_nil
abbrev DR:=@Bool.and_false
abbrev DS:=@PySem.wpAny_passesOwn
abbrev DT:=@PySem.Heap.get?_update_ne
set_option pp.maxSteps 400
set_option Elab.async false
set_option linter.all false
set_option maxRecDepth 100000
set_option maxHeartbeats 4000000
set_option Elab.async false
set_option linter.all false
set_option maxRecDepth 100000
namespace L2
open PySem PySem.Spec PyProof.Rows
variable {A:Qs}{E Q:NR->Qn->Prop}{K:W.Frag}{KO:Qt (Qo×Obj)}{KZ x:Str}{M:Model}{N ps:Qt Str}{P:Qp}{a b dx it:Qo}{base h:Qv}{body:Qt Qx}{c e l tg:Qu}{ch fp:Qt Qo}{es:Qt Qu}{f:NR->NR->Sem NR}{i j n:Nat}{lo:Int}{mA mg:Str->Qw NR}{o:Obj}{op:CmpOp}{s:Qn}{scope:Scope}{u:NR}{us:Qt NR}{w:Qr}
abbrev Key:=Sum Int Str
def fm:Key->NR->Bool
 | .inl k,v=>Value.isInt k v
 | .inr x,v=>Value.isStrOf x v
def xC (w:Qr):Key->Int
 | .inl k=>hashInt k
 | .inr x=>hashStr w x
theorem dY:∀{k:Key}{v:NR},fm k v=true->(∃i t,k=Sum.inl i/\v=Value.int i t)\/(∃x t,k=Sum.inr x/\v=Value.str x t)
 | .inl i,v,h=>by
  obtain⟨t,e⟩:=Value.isInt_shape (k:=i) (v:=v) h;exact .inl ⟨i,t,rfl,e⟩
 | .inr x,v,h=>by
  obtain⟨t,e⟩:=Value.isStrOf_shape (x:=x) (v:=v) h;exact .inr ⟨x,t,rfl,e⟩
theorem xD (i:Int) (t:Tok):fm (.inl i) (.int i t)=true:=by simp[fm,Value.isInt]
theorem xE (x:Str) (t:Tok):fm (.inr x) (.str x t)=true:=by simp[fm,Value.isStrOf]
theorem xF (a b:Int):decide ((Sum.inl a:Key)=Sum.inl b)=(a==b):=by
 by_cases e:a=b
 .subst e;simp
 .have h:¬(Sum.inl a:Key)=Sum.inl b:=fun q=>e (Sum.inl.inj q);rw[Ae h];exact(CK.mpr e).symm
theorem xG (a b:Str):decide ((Sum.inr a:Key)=Sum.inr b)=decide (a=b):=by
 by_cases e:a=b
 .subst e;simp
 .have h:¬(Sum.inr a:Key)=Sum.inr b:=fun q=>e (Sum.inr.inj q);rw[Ae h,Ae e]
def xH (a:Int) (b:Str):decide ((Sum.inl a:Key)=Sum.inr b)=false:=Ae (fun q=>nomatch q)
def xI (a:Str) (b:Int):decide ((Sum.inr a:Key)=Sum.inl b)=false:=Ae (fun q=>nomatch q)
def bT (prog:Qp) (w:Qr):PySem.KeyKind prog w Key where
 is:=fm
 hash:=xC w
 inj:=fun v a b ha hb=>by
  rcases dY ha with⟨i,t,rfl,rfl⟩|⟨x,t,rfl,rfl⟩
  .rcases dY hb with⟨j,u,rfl,e⟩|⟨y,u,rfl,e⟩
   .injection e with e1 _;rw[e1]
   .exact nomatch e
  .rcases dY hb with⟨j,u,rfl,e⟩|⟨y,u,rfl,e⟩
   .exact nomatch e
   .injection e with e1 _;rw[e1]
 byValue:=fun k v h=>by
  rcases dY h with⟨i,t,rfl,rfl⟩|⟨x,t,rfl,rfl⟩<;>rfl
 pyHash:=fun hv h=>by
  rcases dY hv with⟨i,t,rfl,rfl⟩|⟨x,t,rfl,rfl⟩
  .exact wpAny_pyHash_int h
  .exact wpAny_pyHash_str h
 eqBool:=fun hu hv h=>by
  rcases dY hu with⟨i,t,rfl,rfl⟩|⟨x,t,rfl,rfl⟩
  .rcases dY hv with⟨j,u,rfl,rfl⟩|⟨y,u,rfl,rfl⟩
   .rw [xF] at h;exact wpAny_eqBool_int h
   .rw [xH] at h;exact SeqAt.EqAt.int_str i t y u _ _ _ _ h
  .rcases dY hv with⟨j,u,rfl,rfl⟩|⟨y,u,rfl,rfl⟩
   .rw [xI] at h;exact SeqAt.EqAt.str_int x t j u _ _ _ _ h
   .rw [xG] at h;exact wpAny_eqBool_str h
 «strs»:=fun k x t v h=>by
  rcases dY h with⟨i,u,rfl,e⟩|⟨y,u,rfl,e⟩
  .exact nomatch e
  .injection e with e1 _;subst e1;cases v<;>rfl
def xJ (prog:Qp) (w:Qr) (i:Int) (t:Tok):(bT prog w).is (.inl i) (.int i t)=true:=xD i t
def xK (prog:Qp) (w:Qr) (x:Str) (t:Tok):(bT prog w).is (.inr x) (.str x t)=true:=xE x t
inductive V where
 |non|bl (b:Bool)|int (i:Int)|str (x:Str)|byt (b:Array UInt8)|flt (b:UInt64)|ref (a:Addr)|ty (n:String)
 deriving DecidableEq
variable {v:V}{vs xs:Qt V}
def aw:V->NR->Prop
 | .non,u=>u=Value.none
 | .bl b,u=>u=Value.bool b
 | .int i,u=>∃t,u=Value.int i t
 | .str x,u=>∃t,u=Value.str x t
 | .byt b,u=>∃t,u=Value.bytes b t
 | .flt b,u=>∃t,u=Value.float b t
 | .ref a,u=>u=Value.ref a
 | .ty n,u=>u=Value.type n
abbrev au:Qt V->Qt NR->Prop:=Paired aw
theorem au.length {xs:Qt V}{us:Qt NR} (r:au xs us):xs.length=us.length:=BL r
theorem au.get:∀{xs:Qt V}{us:Qt NR}{i:Nat}{x:V},au xs us->xs[i]? =some x->∃u,us[i]? =some u/\aw x u
 |_,_,_,_, .nil,e=>by simp at e
 |_,_,0,_, .cons r _,e=>by simp at e;subst e;exact⟨_,rfl,r⟩
 |_,_,i+1,x, .cons _ t,e=>by
  obtain⟨u,h1,h2⟩:=au.get (i:=i) (x:=x) t (by simpa using e);exact⟨u,by simpa using h1,h2⟩
theorem au.set {x:V}{u:NR} (r:aw x u):∀{xs:Qt V}{us:Qt NR} (i:Nat),au xs us->au (xs.set i x) (us.set i u)
 |_,_,_, .nil=> .nil
 |_,_,0, .cons _ t=> .cons r t
 |_,_,i+1, .cons q t=> .cons q (au.set r i t)
theorem au.append:∀{xs ys:Qt V}{us ws:Qt NR},au xs us->au ys ws->au (xs++ys) (us++ws)
 |_,_,_,_, .nil,s=>s
 |_,_,_,_, .cons r t,s=> .cons r (au.append t s)
theorem au.take:∀{xs:Qt V}{us:Qt NR} (n:Nat),au xs us->au (xs.take n) (us.take n)
 |_,_,0,_=> .nil
 |_,_,_+1, .nil=> .nil
 |_,_,n+1, .cons r t=> .cons r (au.take n t)
theorem au.drop:∀{xs:Qt V}{us:Qt NR} (n:Nat),au xs us->au (xs.drop n) (us.drop n)
 |_,_,0,r=>r
 |_,_,_+1, .nil=> .nil
 |_,_,n+1, .cons _ t=>au.drop n t
def cG:Qw V->Qw NR->Prop
 |some v,some u=>aw v u
 |none,none=>True
 |_,_=>False
def KV {κ:Type}:Qt (κ×V)->Qt (κ×NR)->Prop:=Paired fun(p:κ×V) (q:κ×NR)=>p.1=q.1/\aw p.2 q.2
def kV:Key->V
 | .inl i=> .int i
 | .inr x=> .str x
inductive HO where
  |lst (xs:List V)
  |tup (xs:List V)
  |dK (kvs:List (Key×V))|dT (kvs:List (List Key×V))
  |set (S:Int->Bool) (n:Nat)
  |ins (C dx:Addr) (fs:List (Str×V))
  |own (x:Addr)
  |xd (fs:List (Str×V))
  |met (f x:Addr)
  |rng (lo hi:Int)
  |frz (o:Obj) (u:HO)
  |tbl (ps:Array Value)
  |ext (φ:Heap->Prop)
abbrev Hp:=Qo->Qw HO
variable {H:Hp}
def upd (H:Hp) (a:Qo) (o:HO):Hp:=fun b=>if b=a then some o else H b
theorem al {o:HO}:upd H a o a=some o:=by unfold upd;rw[A7 rfl]
theorem ar {o:HO} (h:b≠a):upd H a o b=H b:=by unfold upd;rw[A5 h]
theorem xL {o u:HO}:upd (upd H a o) a u=upd H a u:=by
 funext b;unfold upd;split<;>rfl
theorem lG {o u:HO} (h:H a=some o) (h':H b=some u) (d:o≠u):a≠b:=by
 intro e;subst e;rw[h] at h';exact d (Ac h')
theorem bw {o:HO} (h:H a=some o) (h':H b=none):a≠b:=by
 intro e;subst e;rw[h] at h';cases h'
section
variable (P:Qp) (w:Qr)
def aD (H:Hp) (h:Qv) (a:Qo):HO->Prop
 | .lst xs=>xs.length<=sizeLine/\∃(KQ:Qt NR) (n:Nat),au xs KQ/\h.get? a=some {cls:= .type "list",data:= .seq KQ.toArray n}
 | .tup xs=>xs.length<=sizeLine/\∃KQ:Qt NR,au xs KQ/\IsTup h a KQ.toArray
 | .dK kvs=>kvs.length<=sizeLine/\(a==sysModules)=false/\∃vs,KV kvs vs/\h.DictOf (bT P w) a vs
 | .dT kvs=>kvs.length<=sizeLine/\(a==sysModules)=false/\∃xs:Qt (Qt Key×Qo×NR),
   Paired (fun(p:Qt Key×V) (q:Qt Key×Qo×NR)=>p.1=q.1/\H q.2.1=some (.tup (p.1.map kV))/\aw p.2 q.2.2) kvs xs/\
   ∃o es ep,h.get? a=some o/\o.ExactDict/\o.data= .dict es ep/\es.toList=xs.map (entryOfKey (tupleKind (bT P w)))/\(xs.map (·.1)).Nodup
 | .set S n=>h.SetOf (intKind P w) a S n
 | .ins C dx fs=>H dx=some (.own a)/\fs.length<=1000/\dx≠a/\h.get? a=some (W.instObj C dx)/\
   ∃mA,h.Ns1 dx mA/\(∀f,cG (fs.lookup f) (mA f))/\PySem.Within mA (fs.map (·.1))
 | .own _=>∃o,h.get? a=some o
 | .xd fs=>∃mA,h.Ns1 a mA/\∀f,cG (fs.lookup f) (mA f)
 | .rng lo hi=>∃t u v,h.get? a=some {cls:= .type "range",data:= .fields #[.int lo t, .int hi u, .int 1 v]}
 | .frz o u=>h.get? a=some o/\aD H h a u
 | .tbl ps=>h.get? a=some {cls:= .none,data:= .fields ps}
 | .met f x=>h.get? a=some (W.methodObj (.ref f) (.ref x))
 | .ext φ=>φ h/\(∃o,h.get? a=some o)/\∀h1 h2:Qv,φ h1->(∀o,h1.get? a=some o->h2.get? a=some o)->φ h2
def HOk (H:Hp) (h:Qv):Prop:=∀a o,H a=some o->aD P w H h a o
end
section
variable {P:Qp}{w:Qr}{H H':Hp}{h h':Qv}{a:Qo}{o:HO}
theorem aD.lt (x:aD P w H h a o):a<h.objs.size:=by
 cases o with
 |lst xs=>obtain⟨_,_,_,_,e⟩:=x;exact AM e
 |tup xs=>obtain⟨_,_,_,p⟩:=x;exact p.lt
 |dK kvs=>obtain⟨_,_,_,_,o,_,_,e,_⟩:=x;exact AM e
 |dT kvs=>obtain⟨_,_,_,_,o,_,_,e,_⟩:=x;exact AM e
 |set S n=>obtain⟨o,_,_,_,e,_⟩:=x;exact AM e
 |ins C dx fs=>obtain⟨_,_,_,e,_⟩:=x;exact AM e
 |own y=>obtain⟨_,e⟩:=x;exact AM e
 |xd fs=>obtain⟨_,⟨_,_,_,e,_⟩,_⟩:=x;exact AM e
 |rng lo hi=>obtain⟨_,_,_,e⟩:=x;exact AM e
 |frz ob u=>obtain⟨e,_⟩:=x;exact AM e
 |tbl ps=>exact AM (show h.get? a=some _ from x)
 |met f y=>exact AM (show h.get? a=some _ from x)
 |ext φ=>obtain⟨_,⟨_,e⟩,_⟩:=x;exact AM e
theorem Paired.mapP {α β:Type}{F G:α->β->Prop}:∀{l₁:Qt α}{l₂:Qt β},Paired F l₁ l₂->(∀a b,F a b->G a b)->Paired G l₁ l₂
 |_,_, .nil,_=> .nil
 |_,_, .cons r t,f=> .cons (f _ _ r) (Paired.mapP t f)
theorem aD.stay (x:aD P w H h a o) (k:∀b u,(b=a\/H b=some (.own a))->h.get? b=some u->h'.get? b=some u)
  (ho:∀b,H b=some (.own a)->H' b=some (.own a)) (ht:∀b xs,H b=some (.tup xs)->H' b=some (.tup xs)):aD P w H' h' a o:=by
 induction o with
 |lst xs=>obtain⟨z,KQ,n,r,e⟩:=x;exact⟨z,KQ,n,r,k _ _ (.inl rfl) e⟩
 |tup xs=>obtain⟨z,KQ,r,ob,e,c⟩:=x;exact⟨z,KQ,r,ob,k _ _ (.inl rfl) e,c⟩
 |dK kvs=>obtain⟨z,y,vs,r,ob,es,ep,e,c⟩:=x;exact⟨z,y,vs,r,ob,es,ep,k _ _ (.inl rfl) e,c⟩
 |dT kvs=>
  obtain⟨z,y,xs,r,ob,es,ep,e,c⟩:=x;exact⟨z,y,xs,Paired.mapP r fun p q z=>⟨z.1,ht _ _ z.2.1,z.2.2⟩,ob,es,ep,k _ _ (.inl rfl) e,c⟩
 |set S n=>obtain⟨ob,es,ep,t,e,c⟩:=x;exact⟨ob,es,ep,t,k _ _ (.inl rfl) e,c⟩
 |ins C dx fs=>
  obtain⟨d,z,ne,e,mA,⟨od,es,ep,e2,c⟩,r⟩:=x;exact⟨ho _ d,z,ne,k _ _ (.inl rfl) e,mA,⟨od,es,ep,k _ _ (.inr d) e2,c⟩,r⟩
 |own y=>obtain⟨ob,e⟩:=x;exact⟨ob,k _ _ (.inl rfl) e⟩
 |xd fs=>obtain⟨mA,⟨od,es,ep,e,c⟩,r⟩:=x;exact⟨mA,⟨od,es,ep,k _ _ (.inl rfl) e,c⟩,r⟩
 |rng lo hi=>obtain⟨t,u,v,e⟩:=x;exact⟨t,u,v,k _ _ (.inl rfl) e⟩
 |frz ob u ih=>obtain⟨e,q⟩:=x;exact⟨k _ _ (.inl rfl) e,ih q⟩
 |tbl ps=>
  have e:h.get? a=some {cls:= .none,data:= .fields ps}:=x;show h'.get? a=some {cls:= .none,data:= .fields ps};exact k a _ (.inl rfl) e
 |met f y=>
  have e:h.get? a=some (W.methodObj (.ref f) (.ref y)):=x;show h'.get? a=some (W.methodObj (.ref f) (.ref y));exact k a _ (.inl rfl) e
 |ext φ=>obtain⟨p,⟨o,e⟩,st⟩:=x;exact⟨st _ _ p fun o q=>k _ _ (.inl rfl) q,⟨o,k _ _ (.inl rfl) e⟩,st⟩
theorem HOk.lt (x:HOk P w H h) (e:H a=some o):a<h.objs.size:=(x a o e).lt
theorem HOk.fresh (x:HOk P w H h) (e:h.objs.size<=a):H a=none:=by
 cases q:H a with
 |none=>rfl
 |some u=>exact absurd (Aj (x.lt q) e) (Bb _)
def HOk.kept (x:HOk P w H h) (k:∀b u,h.get? b=some u->h'.get? b=some u):HOk P w H h':=fun a o e=>
 (x a o e).stay (fun b u _ q=>k b u q) (fun _ q=>q) fun _ _ q=>q
theorem HOk.laid (x:HOk P w H h) (k:∀b u,h.get? b=some u->h'.get? b=some u) (hp:h.objs.size<=a) (new:aD P w (upd H a o) h' a o):HOk P w (upd H a o) h':=fun b u e=>by
 have hn:=x.fresh hp;by_cases hb:b=a
 .subst hb;rw[al] at e;cases e;exact new
 .rw [ar hb] at e;exact(x b u e).stay (fun c v _ q=>k c v q) (fun c q=>by rw[ar (bw q hn)];exact q) fun c xs q=>by rw[ar (bw q hn)];exact q
end
def Rd (H:Hp) (a:Qo) (u:HO):Prop:=H a=some u\/∃o,H a=some (.frz o u)
theorem Rd.ok {u:HO} (r:Rd H a u) (x:HOk P w H h):aD P w H h a u:=by
 rcases r with r|⟨o,r⟩
 .exact x a u r
 .obtain⟨_,q⟩:=x a _ r;exact q
def Mut:Qw HO->Prop
 |some (.lst _)=>True
 |some (.dK _)=>True
 |some (.dT _)=>True
 |some (.set _ _)=>True
 |some (.ins _ _ _)=>True
 |some (.ext _)=>True
 |_=>False
section
variable {P:Qp}{w:Qr}{H:Hp}{h h':Qv}{x e:Qo}{o':HO}
theorem HOk.write (ok:HOk P w H h) (mu:Mut (H x)) (he:e=x\/H e=some (.own x)) (k:∀b u,b≠e->h.get? b=some u->h'.get? b=some u) (heo:∃u,h'.get? e=some u)
  (new:aD P w (upd H x o') h' x o'):HOk P w (upd H x o') h':=fun b u q=>by
 have nown:∀c y,H c=some (.own y)->c≠x:=fun c y r z=>by subst z;rw[r] at mu;exact mu
 have ntup:∀c xs,H c=some (.tup xs)->c≠x:=fun c xs r z=>by subst z;rw[r] at mu;exact mu
 by_cases hb:b=x
 .subst hb;rw[al] at q;cases q;exact new
 .rw [ar hb] at q;by_cases Pr:b=e
  .have q':H b=some (.own x):=by
    rcases he with z|z
    .exact absurd (Pr.trans z) hb
    .rw [Pr];exact z
   rw[q] at q';cases q';obtain⟨v,hv⟩:=heo;exact⟨v,by rw[Pr];exact hv⟩
  .refine(ok b u q).stay (fun c v hc r=>k c v ?_ r) (fun c r=>by rw[ar (nown c b r)];exact r) fun c xs r=>by rw[ar (ntup c xs r)];exact r
   rcases hc with rfl|hc
   .exact Pr
   .rintro rfl;rcases he with z|z
    .exact nown c b hc z
    .rw [hc] at z;cases z;exact hb rfl
end
structure Un (fs ex:Qt Qo) (H H':Hp) (h h':Qv):Prop where
 keep:∀b o,h.get? b=some o->H b=none->b∉fs->b∉ex->h'.get? b=some o
 slot:∀b o,h.get? b=some o->H b=none->b∈fs->b∉ex->∃sl,h'.get? b=some {o with slots:=sl}
 free:∀b o,h.get? b=some o->H b=none->b∉ex->H' b=none
 there:∀b o,h.get? b=some o->b∉ex->∃o',h'.get? b=some o'
 tups:∀b xs,H b=some (.tup xs)->H' b=some (.tup xs)
 frzs:∀b o u,H b=some (.frz o u)->H' b=some (.frz o u)
 tbls:∀b ps,H b=some (.tbl ps)->∃more,H' b=some (.tbl (ps++more))
section
variable {fs fs' ex ex':Qt Qo}{H H1 H2:Hp}{h h1 h2 h':Qv}{a x e:Qo}{o:HO}
theorem Un.any (u:Un fs ex H H1 h h1) {ob:Obj} (q:h.get? b=some ob) (n:H b=none) (hx:b∉ex):∃sl,h1.get? b=some {ob with slots:=sl}:=by
 by_cases hb:b∈fs
 .exact u.slot b ob q n hb hx
 .exact⟨ob.slots,u.keep b ob q n hb hx⟩
theorem Un.kept (k:∀b u,h.get? b=some u->h'.get? b=some u):Un fs ex H H h h':=
 ⟨fun b ob q _ _ _=>k b ob q,fun b ob q _ _ _=>⟨ob.slots,k b ob q⟩,fun _ _ _ n _=>n,fun b ob q _=>⟨ob,k b ob q⟩,fun _ _ q=>q,fun _ _ _ q=>q,fun _ ps q=>⟨#[],by rw[q];simp⟩⟩
def Un.refl:Un fs ex H H h h:=Un.kept fun _ _ q=>q
theorem Un.laid (k:∀b u,h.get? b=some u->h'.get? b=some u) (hp:h.objs.size<=a) (hn:H a=none):Un fs ex H (upd H a o) h h' where
 keep:=fun b u q _ _ _=>k b u q
 slot:=fun b u q _ _ _=>⟨u.slots,k b u q⟩
 free:=fun b u q n _=>by rw[ar (AO (Aj (AM q) hp))];exact n
 there:=fun b u q _=>⟨u,k b u q⟩
 tups:=fun b xs q=>by rw[ar (bw q hn)];exact q
 frzs:=fun b u xs q=>by rw[ar (bw q hn)];exact q
 tbls:=fun b ps q=>⟨#[],by rw[ar (bw q hn),q];simp⟩
theorem Un.write (mu:Mut (H x)) (he:e=x\/H e=some (.own x)) (k:∀b u,b≠e->h.get? b=some u->h'.get? b=some u) (heo:∃u,h'.get? e=some u):Un fs ex H (upd H x o) h h':=by
 have hx:∀b,H b=none->b≠x:=fun b n z=>by subst z;rw[n] at mu;exact mu
 have hb:∀b,H b=none->b≠e:=fun b n z=>by
  subst z;rcases he with r|r
  .exact hx b n r
  .rw [n] at r;cases r
 have hm:∀b u,H b=some u->¬Mut (some u)->b≠x:=fun b u q nm z=>by subst z;rw[q] at mu;exact nm mu
 refine⟨fun b u q n _ _=>k b u (hb b n) q,fun b u q n _ _=>⟨u.slots,k b u (hb b n) q⟩,fun b u q n _=>by rw[ar (hx b n)];exact n,fun b u q _=> ?_,
  fun b xs q=>by rw[ar (hm b _ q fun z=>z)];exact q,fun b u xs q=>by rw[ar (hm b _ q fun z=>z)];exact q,fun b ps q=>⟨#[],by rw[ar (hm b _ q fun z=>z),q];simp⟩⟩
 by_cases Pr:b=e
 .subst Pr;exact heo
 .exact⟨u,k b u Pr q⟩
end
def trk (h:Qv) (H:Hp):Qt Qo:=(List.range h.objs.size).filter fun a=>(H a).isSome
def eR (h:Qv) (H:Hp):Qv:=W.hideAll h (trk h H)
def xM (h:Qv) (H:Hp):(eR h H).objs.size=h.objs.size:=W.hideAll_size _ _
theorem xN (e:h.get? b=some o) (n:H b=none):(eR h H).get? b=some o:=
 W.hideAll_get _ e fun hm=>by
  have q:(H b).isSome=true:=(Cr.mp hm).2;rw[n] at q;simp at q
theorem xO (e:(eR h H).get? b=some o):h.get? b=some o/\H b=none:=by
 have e':h.get? b=some o:=W.of_hideAll (trk h H) e;refine⟨e', ?_⟩;cases q:H b with
 |none=>rfl
 |some x=>
  have hm:b∈trk h H:=Cr.mpr ⟨Aa.mpr (AM e'),by simp[q]⟩;have z:(eR h H).get? b=none:=W.hideAll_none (trk h H) hm;rw[z] at e;cases e
def xP (g h:Qv) (L:Qo):Qt (Qo×Obj):=(List.range h.objs.size).filterMap fun a=>if a=L\/(g.get? a).isSome=true then none else(h.get? a).map fun o=>(a,o)
def aF (g h:Qv) (L d:Qo):Qt (Qo×Obj):=(xP g h L).filter fun p=>decide (p.1≠d)
structure Mod (K:W.Frag) (mg:Str->Qw NR) (base:Qv):Prop where
 kin:K.In base
 glob:base.Ns mainGlobals mg
 blt:∃mb,base.Ns builtinsNs mb/\∀x:Str,x≠"__name__"->mb x=bootBuiltins x
 nolimit:base.NoLimit
structure Cx where
 prog:Program
 w:World
 K:W.Frag
 mg:Str->Option Value
 base:Heap
 A:Around
 N:List Str
 s₀:Shared
 H₀:Hp
 env:Env
 outer:List Env
 stack:List Env
 ex:List Addr
 fn:Str->Bool
 calm:Bool
 pn:List (Addr×Obj)
 xe:Value->Shared->Prop
variable {X:Cx}
def frs (l:Qt Env):Qt Qo:=l.filterMap (·.frame)
abbrev Cx.fs (X:Cx):Qt Qo:=frs X.outer
def Vis (sc:Scope) (x:Str):Prop:=sc.names.lookup x=some .local\/sc.names.lookup x=some .cell\/sc.names.lookup x=some .free
def Loc (sc:Scope) (x:Str):Prop:=sc.names.lookup x=some .local\/sc.names.lookup x=some .cell
def xQ (env:Env) (h:Qv) (m:Str->Qw NR) (x:Str) (u:NR):Prop:=
 (env.kindOf x=some .local/\m x=some u)\/((env.kindOf x=some .cell\/env.kindOf x=some .free)/\∃c,env.cells.lookup x=some c/\h.IsCell c (some u))
structure Cx.Ok (X:Cx):Prop where
 mod:Mod X.K X.mg X.base
 kind:X.env.scope.kind= .function
 glob:X.env.globals=mainGlobals
 blt:X.env.builtins=builtinsNs
 above:X.s₀.heap.objs.size<=X.env.locals
 inj:∀x y c,X.env.cells.lookup x=some c->X.env.cells.lookup y=some c->x=y
 has:∀x,(X.env.kindOf x=some .cell\/X.env.kindOf x=some .free)->∃c,X.env.cells.lookup x=some c
 cab:∀x c,X.fn x=true->X.env.cells.lookup x=some c->X.s₀.heap.objs.size<=c
 hd:X.calm=true->X.A.handled=none
 frames:X.A.frames=some X.stack
 stk:X.stack=X.outer\/(X.stack=X.env::X.outer/\X.env.frame=some X.env.locals)
 exf:∀b∈X.ex,b≠X.env.locals/\∀x c,X.env.cells.lookup x=some c->c≠b
 bs:∀b o,X.base.get? b=some o->X.s₀.heap.get? b=some o/\X.H₀ b=none
 bsz:X.base.objs.size<=X.s₀.heap.objs.size
 noex:∀b o,X.base.get? b=some o->b∉X.ex
 exfs:∀b∈X.ex,b∉X.fs
 funs:X.s₀.heap.FunFrames X.base X.outer
 frf:∀b∈X.fs,X.H₀ b=none
structure Inv (X:Cx) (KO:Qt (Qo×Obj)) (σ:Qt (Qw V)) (H:Hp) (s:Qn):Prop where
 ok:X.Ok
 os:s.os=X.s₀.os
 bare:AllBare s.gens
 base:Un X.fs X.ex X.H₀ H X.s₀.heap s.heap
 loc:∃m,s.heap.Ns X.env.locals m/\∀(i:Nat) (x:Str) (v:V),X.N[i]? =some x->σ[i]? =some (some v)->Vis X.env.scope x->∃u,aw v u/\xQ X.env s.heap m x u
 cell:∀x c,X.env.cells.lookup x=some c->∃v,s.heap.IsCell c v
 free:H X.env.locals=none
 freeC:∀x c,X.env.cells.lookup x=some c->H c=none
 pin:∀p∈X.pn++KO,s.heap.get? p.1=some p.2/\H p.1=none/\p.1≠X.env.locals/\p.1∉X.fs/\∀v,p.2.data≠ .cell v
 hok:HOk X.prog X.w H s.heap
 len:σ.length=X.N.length
section
variable {X:Cx}{KO:Qt (Qo×Obj)}{σ:Qt (Qw V)}{H H':Hp}{s:Qn}{h':Qv}
theorem Cx.Ok.nofr (ok:X.Ok) (e:X.base.get? b=some o):b∉X.fs:=fun hb=>by
 have:=(ok.funs.mem hb).1;rw[e] at this;cases this
theorem Inv.bs (I:Inv X KO σ H s):∀b o,X.base.get? b=some o->s.heap.get? b=some o/\H b=none:=fun b o e=>
 ⟨I.base.keep b o (I.ok.bs b o e).1 (I.ok.bs b o e).2 (I.ok.nofr e) (I.ok.noex b o e),I.base.free b o (I.ok.bs b o e).1 (I.ok.bs b o e).2 (I.ok.noex b o e)⟩
def Inv.bk (I:Inv X KO σ H s):∀b o,X.base.get? b=some o->s.heap.get? b=some o:=fun b o e=>(I.bs b o e).1
theorem Inv.mod (I:Inv X KO σ H s):Mod X.K X.mg X.base:=I.ok.mod
def Inv.kIn (I:Inv X KO σ H s):X.K.In s.heap:=I.ok.mod.kin.keeps I.bk
theorem Inv.lt (I:Inv X KO σ H s):X.env.locals<s.heap.objs.size:=let ⟨_,hn,_⟩:=I.loc;hn.lt
def Inv.sz (I:Inv X KO σ H s):X.s₀.heap.objs.size<=s.heap.objs.size:=B9 I.ok.above (Ad I.lt)
theorem Inv.nofs (I:Inv X KO σ H s) (h:s.heap.objs.size<=a):a∉X.fs:=fun hb=>by
 obtain⟨_,o,ho,_⟩:=I.ok.funs.mem hb;exact absurd (Aj (AM ho) (B9 I.sz h)) (Bb _)
theorem Inv.cne (I:Inv X KO σ H s):∀x c,X.env.cells.lookup x=some c->c≠X.env.locals:=fun x c e z=>by
 obtain⟨v,o,ho,hd⟩:=I.cell x c e;obtain⟨m,⟨o',es,ep,Lr,LU,_⟩,_⟩:=I.loc;rw[z,Lr] at ho;cases ho;rw[LU] at hd;cases hd
theorem Inv.funs (I:Inv X KO σ H s):s.heap.FunFrames X.base X.outer:=by
 have all:∀(l:Qt Env),(∀b∈frs l,b∈X.fs)->X.s₀.heap.FunFrames X.base l->s.heap.FunFrames X.base l:=by
  intro l;induction l with
  |nil=>intro _ _;trivial
  |cons env r ih=>
   intro hs hl;obtain⟨hk,⟨L,o,hf,hn,ho,hd⟩,hr⟩:=hl;have hL:L∈X.fs:=hs L (by unfold frs;rw[Cn,hf];exact AW);obtain⟨sl,e⟩:=I.base.slot L o ho (I.ok.frf L hL) hL fun z=>I.ok.exfs L z hL;exact⟨hk,⟨L,_,hf,hn,e,hd⟩,ih (fun b hb=>hs b (by unfold frs;rw[Cn,hf];exact AQ _ hb)) hr⟩
 exact all X.outer (fun _ hb=>hb) I.ok.funs
theorem Inv.stack (I:Inv X KO σ H s):s.heap.FunFrames X.base X.stack:=by
 rcases I.ok.stk with e|⟨e,hf⟩
 .rw [e];exact I.funs
 .rw [e];obtain⟨m,hn,_⟩:=I.loc;refine .cons (by rw[I.ok.kind];decide) hf hn ?_ I.funs;exact Heap.get?_none_of_le (B9 I.ok.bsz I.ok.above)
theorem Inv.stkSub (I:Inv X KO σ H s):∀b∈frs X.stack,b∈X.env.locals::X.fs:=fun b hb=>by
 rcases I.ok.stk with e|⟨e,hf⟩
 .rw [e] at hb;exact AQ _ hb
 .rw [e] at hb;unfold frs at hb;rw[Cn,hf] at hb;exact hb
theorem Inv.stkFree (I:Inv X KO σ H s):∀b∈frs X.stack,H b=none:=fun b hb=>by
 rcases AI.mp (I.stkSub b hb) with e|hb
 .rw [e];exact I.free
 .obtain⟨_,o,ho,_⟩:=I.ok.funs.mem hb;exact I.base.free b o ho (I.ok.frf b hb) fun z=>I.ok.exfs b z hb
theorem Inv.step {g':Array GenState}{t':Nat}{d':Drawn}(I:Inv X KO σ H s)
  (MH:∀b∈ch,(b∈X.ex\/X.s₀.heap.objs.size<=b)/\b≠X.env.locals/\(∀x c,X.env.cells.lookup x=some c->c≠b)/\∀p∈X.pn++KO,p.1≠b)
  (keep:∀b o,b≠X.env.locals->b∉X.fs->b∉ch->s.heap.get? b=some o->H b=none->h'.get? b=some o)
  (slot:∀b o,b≠X.env.locals->b∈X.fs->b∉ch->s.heap.get? b=some o->H b=none->∃sl,h'.get? b=some {o with slots:=sl}) (free:∀b o,b∉ch->s.heap.get? b=some o->H b=none->H' b=none)
  (there:∀b o,b∉ch->s.heap.get? b=some o->∃o',h'.get? b=some o')
  (tups:∀b xs,H b=some (.tup xs)->H' b=some (.tup xs)) (frzs:∀b o u,H b=some (.frz o u)->H' b=some (.frz o u)) (tbls:∀b ps,H b=some (.tbl ps)->∃more,H' b=some (.tbl (ps++more)))
  (ns:∀m,s.heap.Ns X.env.locals m->h'.Ns X.env.locals m) (hok:HOk X.prog X.w H' h') (hg:AllBare g'):
  Inv X KO σ H' {s with heap:=h',gens:=g',drawn:=d',toks:=t'}:=by
 have neL:∀b o,X.s₀.heap.get? b=some o->b≠X.env.locals:=fun b o e=>AO (Aj (AM e) I.ok.above);have neC:∀b o,X.s₀.heap.get? b=some o->b∉X.ex->b∉ch:=fun b o e hx hb=>by
  rcases(MH b hb).1 with z|z
  .exact hx z
  .exact absurd (Aj (AM e) z) (Bb _)
 have OS:∀x c,X.env.cells.lookup x=some c->∀v,s.heap.IsCell c v->h'.IsCell c v:=fun x c e v ⟨o,ho,hd⟩=>by
  have nch:c∉ch:=fun z=>(MH c z).2.2.1 x c e rfl;by_cases hc:c∈X.fs
  .obtain⟨sl,q⟩:=slot c o (I.cne x c e) hc nch ho (I.freeC x c e);exact⟨_,q,hd⟩
  .exact⟨o,keep c o (I.cne x c e) hc nch ho (I.freeC x c e),hd⟩
 refine⟨I.ok,I.os,hg,⟨fun b o e n hb hx=> ?_,fun b o e n hb hx=> ?_,fun b o e n hx=> ?_,fun b o e hx=> ?_,fun b xs e=>tups b xs (I.base.tups b xs e),fun b o xs e=>frzs b o xs (I.base.frzs b o xs e),fun b ps e=> ?_⟩, ?_,fun x c e=> ?_, ?_,fun x c e=> ?_,fun p hp=> ?_,hok,I.len⟩
 .exact keep b o (neL b o e) hb (neC b o e hx) (I.base.keep b o e n hb hx) (I.base.free b o e n hx)
 .obtain⟨sl,e1⟩:=I.base.slot b o e n hb hx;obtain⟨sl',e2⟩:=slot b _ (neL b o e) hb (neC b o e hx) e1 (I.base.free b o e n hx);exact⟨sl',e2⟩
 .obtain⟨o',e1⟩:=I.base.there b o e hx;exact free b o' (neC b o e hx) e1 (I.base.free b o e n hx)
 .obtain⟨o',e1⟩:=I.base.there b o e hx;exact there b o' (neC b o e hx) e1
 .obtain⟨m1,e1⟩:=I.base.tbls b ps e;obtain⟨m2,e2⟩:=tbls b _ e1;exact⟨m1++m2,by rw[e2,Array.append_assoc]⟩
 .obtain⟨m,hn,hl⟩:=I.loc;refine⟨m,ns m hn,fun i x v e1 e2 e3=> ?_⟩;obtain⟨u,r,l⟩:=hl i x v e1 e2 e3;refine⟨u,r, ?_⟩;rcases l with l|⟨k,c,e,z⟩
  .exact .inl l
  .exact .inr ⟨k,c,e,OS x c e _ z⟩
 .obtain⟨v,z⟩:=I.cell x c e;exact⟨v,OS x c e v z⟩
 .obtain⟨m,⟨o,_,_,ho,_⟩,_⟩:=I.loc;exact free _ o (fun z=>(MH _ z).2.1 rfl) ho I.free
 .obtain⟨v,o,ho,hd⟩:=I.cell x c e;exact free c o (fun z=>(MH c z).2.2.1 x c e rfl) ho (I.freeC x c e)
 .obtain⟨e,n,ne,nf,d⟩:=I.pin p hp;have nch:p.1∉ch:=fun z=>(MH p.1 z).2.2.2 p hp rfl;exact⟨keep p.1 p.2 ne nf nch e n,free p.1 p.2 nch e n,ne,nf,d⟩
theorem Inv.un {t':Nat} (I:Inv X KO σ H s) (u:Un X.fs [] H H' s.heap h') (hok:HOk X.prog X.w H' h'):Inv X KO σ H' {s with heap:=h',toks:=t'}:=by
 obtain⟨m,⟨o,es,ep,ho,r⟩,_⟩:=id I.loc;obtain⟨sl,hL⟩:=u.any ho I.free (by simp);exact I.step (g':=s.gens) (d':=s.drawn) (ch:=[]) (fun _ z=>nomatch z) (fun b o _ hb _ e n=>u.keep b o e n hb (by simp)) (fun b o _ hb _ e n=>u.slot b o e n hb (by simp)) (fun b o _ e n=>u.free b o e n (by simp)) (fun b o _ e=>u.there b o e (by simp)) u.tups u.frzs u.tbls (fun m' hm=>by
  obtain⟨o',Lo,Mp,Lr,r'⟩:=hm;rw[ho] at Lr;cases Lr;exact⟨_,Lo,Mp,hL,r'⟩) hok I.bare
theorem Inv.call {g':Array GenState}{t':Nat}{d':Drawn}(I:Inv X KO σ H s) (u:Un (frs X.stack) ch H H' s.heap h') (hok:HOk X.prog X.w H' h') (hg:AllBare g')
  (MH:∀b∈ch,(b∈X.ex\/X.s₀.heap.objs.size<=b)/\b≠X.env.locals/\(∀x c,X.env.cells.lookup x=some c->c≠b)/\∀p∈X.pn++KO,p.1≠b):
  Inv X KO σ H' {s with heap:=h',gens:=g',drawn:=d',toks:=t'}:=by
 obtain⟨m,⟨o,es,ep,ho,r⟩,_⟩:=id I.loc;obtain⟨sl,hL⟩:=u.any ho I.free fun z=>(MH _ z).2.1 rfl;exact I.step (ch:=ch) MH (fun b o hL hb hc e n=>u.keep b o e n (fun z=>(AI.mp (I.stkSub b z)).elim hL hb) hc) (fun b o _ _ hc e n=>u.any e n hc) (fun b o hc e n=>u.free b o e n hc) (fun b o hc e=>u.there b o e hc) u.tups u.frzs u.tbls (fun m' hm=>by
  obtain⟨o',Lo,Mp,Lr,r'⟩:=hm;rw[ho] at Lr;cases Lr;exact⟨_,Lo,Mp,hL,r'⟩) hok hg
theorem Inv.turned {t':Nat}(I:Inv X KO σ H s) (k:∀b o,b≠it->s.heap.get? b=some o->h'.get? b=some o) (hn:H it=none) (hL:it≠X.env.locals)
  (h1:it∈X.ex\/X.s₀.heap.objs.size<=it) (h2:∀x c,X.env.cells.lookup x=some c->c≠it) (h3:∀p∈X.pn++KO,p.1≠it):Inv X KO σ H {s with heap:=h',toks:=t'}:=by
 have nit:∀b u,H b=some u->b≠it:=fun b u e z=>by rw[z,hn] at e;cases e
 refine I.step (g':=s.gens) (d':=s.drawn) (ch:=[it]) (fun b hb=> ?_) (fun b o _ _ hc e _=>k b o (fun z=>hc (by simp[z])) e) (fun b o _ _ hc e _=>⟨o.slots,k b o (fun z=>hc (by simp[z])) e⟩) (fun _ _ _ _ n=>n)
  (fun b o hc e=>⟨o,k b o (fun z=>hc (by simp[z])) e⟩) (fun _ _ e=>e) (fun _ _ _ e=>e) (fun b ps e=>⟨#[],by rw[e];simp⟩) (fun m hm=> ?_) (fun b u e=> ?_) I.bare
 .have e:b=it:=by simpa using hb
  subst e;exact⟨h1,hL,h2,h3⟩
 .obtain⟨o,es,ep,ho,r⟩:=hm;exact⟨o,es,ep,k _ o (BG hL) ho,r⟩
 .refine(I.hok b u e).stay (fun c v hc q=>k c v ?_ q) (fun _ q=>q) fun _ _ q=>q;rcases hc with z|z
  .rw [z];exact nit b u e
  .exact nit c _ z
def Inv.tok (I:Inv X KO σ H s) (t:Nat):Inv X KO σ H {s with toks:=t}:=I.un (h':=s.heap) (t':=t) Un.refl I.hok
theorem Inv.kept {t':Nat} (I:Inv X KO σ H s) (k:∀b u,s.heap.get? b=some u->h'.get? b=some u):Inv X KO σ H {s with heap:=h',toks:=t'}:=I.un (Un.kept k) (I.hok.kept k)
theorem Inv.laid {a:Qo}{o:HO}{t':Nat} (I:Inv X KO σ H s) (k:∀b u,s.heap.get? b=some u->h'.get? b=some u) (hp:s.heap.objs.size<=a) (new:aD X.prog X.w (upd H a o) h' a o):
  Inv X KO σ (upd H a o) {s with heap:=h',toks:=t'}:=I.un (Un.laid k hp (I.hok.fresh hp)) (I.hok.laid k hp new)
theorem Inv.write {x e:Qo}{o:HO}{t':Nat} (I:Inv X KO σ H s) (mu:Mut (H x)) (he:e=x\/H e=some (.own x)) (k:∀b u,b≠e->s.heap.get? b=some u->h'.get? b=some u) (heo:∃u,h'.get? e=some u)
  (new:aD X.prog X.w (upd H x o) h' x o):Inv X KO σ (upd H x o) {s with heap:=h',toks:=t'}:=I.un (Un.write mu he k heo) (I.hok.write mu he k heo new)
def Inv.weak {σ':Qt (Qw V)} (I:Inv X KO σ H s) (hl:σ'.length=σ.length) (w:∀(i:Nat) v,σ'[i]? =some (some v)->σ[i]? =some (some v)):Inv X KO σ' H s:=
 ⟨I.ok,I.os,I.bare,I.base,let ⟨m,hn,Nz⟩:=I.loc;⟨m,hn,fun i x v e1 e2 e3=>Nz i x v e1 (w i v e2) e3⟩,I.cell,I.free,I.freeC,I.pin,I.hok,hl.trans I.len⟩
def Inv.pins_of {OT:Qt (Qo×Obj)} (I:Inv X KO σ H s) (h:∀p∈OT,s.heap.get? p.1=some p.2/\H p.1=none/\p.1≠X.env.locals/\p.1∉X.fs/\∀v,p.2.data≠ .cell v):Inv X OT σ H s:=
 ⟨I.ok,I.os,I.bare,I.base,I.loc,I.cell,I.free,I.freeC,fun p hp=>(BM.mp hp).elim (fun z=>I.pin p (List.mem_append_left _ z)) (h p),I.hok,I.len⟩
theorem qr (hN:N.Nodup) (a:N[i]? =some x) (b:N[j]? =some x):i=j:=by
 obtain⟨h1,e1⟩:=A8.mp a;obtain⟨h2,e2⟩:=A8.mp b;exact(List.getElem_inj hN).mp (e1.trans e2.symm)
theorem xR {M:Model}{A:Qs}{E:NR->Qn->Prop}{Q:Unit->Qn->Prop} (I:Inv X KO σ H s) (hN:X.N.Nodup) (hi:X.N[i]? =some x) (hx:Loc X.env.scope x) (r:aw v u)
  (h:∀s',Inv X KO (σ.set i (some v)) H s'->(∃a,Heap.SameBut a s.heap s'.heap/\(a=X.env.locals\/X.env.cells.lookup x=some a))->Q () s') (hf:X.fn x=true\/X.env.scope.names.lookup x=some .local:=by first|exact .inl rfl|exact .inr rfl|assumption):wpAny M A (storeName X.env x u) Q E s:=by
 obtain⟨m,hn,hl⟩:=id I.loc;have hcls:(X.env.scope.kind== .class||(X.env.scope.kind== .module&&X.env.locals !=X.env.globals))=false:=by rw[I.ok.kind];rfl
 have hiσ:i<σ.length:=by rw[I.len];exact(A8.mp hi).1
 have cne:=I.cne;have Nd:∀{a:Qo}{h':Qv},(∃o,s.heap.get? a=some o/\H a=none)->Heap.SameBut a s.heap h'->HOk X.prog X.w H h':=fun{a h'} ha hs b ob e=>by
  obtain⟨_,_,LJ⟩:=ha;refine(I.hok b ob e).stay (fun c w' hc q=>(hs.2 c ?_).trans q) (fun _ q=>q) fun _ _ q=>q;rintro rfl;rcases hc with rfl|hc
  .rw [LJ] at e;cases e
  .rw [LJ] at hc;cases hc
 rcases hx with hk|hk
 .refine wpAny_storeName_local hk hn (fun h' OU hs=> ?_) hcls;obtain⟨oL,_,_,Ps,_⟩:=id hn;refine h _ ⟨I.ok,I.os,I.bare,⟨fun b o e n hb hx=> ?_,fun b o e n hb hx=> ?_,I.base.free,fun b o e hx=> ?_,I.base.tups,I.base.frzs,I.base.tbls⟩,⟨_,OU,fun j y v' e1 e2 e3=> ?_⟩,fun y c e=> ?_,I.free,I.freeC,fun p hp=> ?_,Nd ⟨oL,Ps,I.free⟩ hs,by simpa using I.len⟩ ⟨_,hs, .inl rfl⟩
  .exact(hs.2 b (AO (Aj (AM e) I.ok.above))).trans (I.base.keep b o e n hb hx)
  .obtain⟨sl,e1⟩:=I.base.slot b o e n hb hx;exact⟨sl,(hs.2 b (AO (Aj (AM e) I.ok.above))).trans e1⟩
  .obtain⟨o',e1⟩:=I.base.there b o e hx;exact⟨o',(hs.2 b (AO (Aj (AM e) I.ok.above))).trans e1⟩
  .by_cases hj:j=i
   .subst hj;rw[hi] at e1;cases e1;rw[List.getElem?_set_self hiσ] at e2;cases e2;exact⟨u,r, .inl ⟨hk,by simp⟩⟩
   .rw [Cc (BG hj)] at e2;obtain⟨u',r',q⟩:=hl j y v' e1 e2 e3;refine⟨u',r', ?_⟩;rcases q with⟨k,e⟩|⟨k,c,e,z⟩
    .refine .inl ⟨k, ?_⟩;have:y≠x:=fun e=>hj (qr hN e1 (e▸hi));simp[this,e]
    .exact .inr ⟨k,c,e,z.sameBut hs (cne y c e)⟩
  .obtain⟨w',z⟩:=I.cell y c e;exact⟨w',z.sameBut hs (cne y c e)⟩
  .obtain⟨e,n,ne,nf,d⟩:=I.pin p hp;exact⟨(hs.2 p.1 ne).trans e,n,ne,nf,d⟩
 .have hfn:X.fn x=true:=by
   rcases hf with z|z
   .exact z
   .rw [z] at hk;cases hk
  obtain⟨c,hc⟩:=I.ok.has x (.inl hk);obtain⟨w',z⟩:=I.cell x c hc;refine wpAny_storeName_cell I.ok.kind hk hc z (fun h' hc' hs=> ?_);obtain⟨oc,hoc,hocd⟩:=id z;refine h {s with heap:=h'} ⟨I.ok,I.os,I.bare,⟨fun b o e n hb hx=> ?_,fun b o e n hb hx=> ?_,I.base.free,fun b o e hx=> ?_,I.base.tups,I.base.frzs,I.base.tbls⟩,⟨m,hn.sameBut hs (BG (cne x c hc)),fun j y v' e1 e2 e3=> ?_⟩,fun y c' e=> ?_,I.free,I.freeC,fun p hp=> ?_,Nd ⟨oc,hoc,I.freeC x c hc⟩ hs,by simpa using I.len⟩ ⟨c,hs, .inr hc⟩
  .exact(hs.2 b (AO (Aj (AM e) (I.ok.cab x c hfn hc)))).trans (I.base.keep b o e n hb hx)
  .obtain⟨sl,e1⟩:=I.base.slot b o e n hb hx;exact⟨sl,(hs.2 b (AO (Aj (AM e) (I.ok.cab x c hfn hc)))).trans e1⟩
  .obtain⟨o',e1⟩:=I.base.there b o e hx;exact⟨o',(hs.2 b (AO (Aj (AM e) (I.ok.cab x c hfn hc)))).trans e1⟩
  .by_cases hj:j=i
   .subst hj;rw[hi] at e1;cases e1;rw[List.getElem?_set_self hiσ] at e2;cases e2;exact⟨u,r, .inr ⟨.inl hk,c,hc,hc'⟩⟩
   .rw [Cc (BG hj)] at e2;obtain⟨u',r',q⟩:=hl j y v' e1 e2 e3;refine⟨u',r', ?_⟩;rcases q with q|⟨k,c',e,z'⟩
    .exact .inl q
    .refine .inr ⟨k,c',e,z'.sameBut hs ?_⟩;rintro rfl;exact hj (qr hN e1 (I.ok.inj _ _ _ e hc▸hi))
  .by_cases hcc:c'=c
   .subst hcc;exact⟨_,hc'⟩
   .obtain⟨w2,z2⟩:=I.cell y c' e;exact⟨w2,z2.sameBut hs hcc⟩
  .obtain⟨e,n,ne,nf,d⟩:=I.pin p hp;refine⟨(hs.2 p.1 ?_).trans e,n,ne,nf,d⟩;intro q;rw[q,hoc] at e;have q':oc=p.2:=Ac e;exact d w' (by rw[<-q'];exact hocd)
theorem jD {M:Model}{A:Qs}{E:NR->Qn->Prop}{Q:Unit->Qn->Prop} (I:Inv X KO σ H s) (hN:X.N.Nodup) (hi:X.N[i]? =some x) (hx:Loc X.env.scope x) (r:aw v u)
  (h:∀s',Inv X KO (σ.set i (some v)) H s'->Q () s') (hf:X.fn x=true\/X.env.scope.names.lookup x=some .local:=by first|exact .inl rfl|exact .inr rfl|assumption):wpAny M A (storeName X.env x u) Q E s:=
 xR I hN hi hx r (fun s' I' _=>h s' I') hf
theorem Inv.call' {s':Qn}(I:Inv X KO σ H s) (ho:s'.os=s.os) (u:Un (frs X.stack) ch H H' s.heap s'.heap) (hok:HOk X.prog X.w H' s'.heap) (hg:AllBare s'.gens)
  (MH:∀b∈ch,(b∈X.ex\/X.s₀.heap.objs.size<=b)/\b≠X.env.locals/\(∀x c,X.env.cells.lookup x=some c->c≠b)/\∀p∈X.pn++KO,p.1≠b):Inv X KO σ H' s':=by
 obtain⟨h',g',d',t',o'⟩:=s';have e:o'=s.os:=ho;subst e;exact I.call (g':=g') (t':=t') (d':=d') u hok hg MH
end
abbrev XK:=NR->Qw Qo->Hp->Prop
abbrev St:=Qt (Qw V)
abbrev VK:=V->Hp->Prop
abbrev TE:=St->Hp->VK->Prop
variable {te tl to:TE}
abbrev TT:=St->Hp->(Bool->Hp->Prop)->Prop
abbrev TA:=St->Hp->(Qt V->Hp->Prop)->Prop
variable {ta:TA}
structure Ends where
 nx:St->Hp->Prop
 rt:VK
 bk:St->Hp->Prop:=fun _ _=>False
 ct:St->Hp->Prop:=fun _ _=>False
abbrev TS:=Ends->St->Hp->Prop
variable {tb:TS}
abbrev eTo (D:Ends) (n:St->Hp->Prop):Ends:=⟨n,D.rt,D.bk,D.ct⟩
abbrev eLp (D:Ends) (n:St->Hp->Prop):Ends:=⟨n,D.rt,D.nx,n⟩
inductive qt (X:Cx) (KO:List (Addr×Obj)) (σ:St) (Q:VK) (u:Value) (s':Shared):Prop
 |mk v H':Inv X KO σ H' s'->aw v u->Q v H'->qt X KO σ Q u s'
def EP (X:Cx) (KO:Qt (Qo×Obj)) (σ:St) (Q:VK) (u:NR) (s':Qn):Prop:=qt X KO σ Q u s'
inductive qu (X:Cx) (KO:List (Addr×Obj)) (σ:St) (Q:Bool->Hp->Prop) (b:Bool) (s':Shared):Prop
 |mk H':Inv X KO σ H' s'->Q b H'->qu X KO σ Q b s'
def TP (X:Cx) (KO:Qt (Qo×Obj)) (σ:St) (Q:Bool->Hp->Prop) (b:Bool) (s':Qn):Prop:=qu X KO σ Q b s'
inductive qv (X:Cx) (KO:List (Addr×Obj)) (σ:St) (Q:List V->Hp->Prop) (us:List Value) (s':Shared):Prop
 |mk vs H':Inv X KO σ H' s'->au vs us->Q vs H'->qv X KO σ Q us s'
def AP (X:Cx) (KO:Qt (Qo×Obj)) (σ:St) (Q:Qt V->Hp->Prop) (us:Qt NR) (s':Qn):Prop:=qv X KO σ Q us s'
def SP (X:Cx) (KO:Qt (Qo×Obj)) (D:Ends) (f:Flow) (s':Qn):Prop:=
 match f with
 | .next=>∃σ' H',Inv X KO σ' H' s'/\D.nx σ' H'
 | .brk=>∃σ' H',Inv X KO σ' H' s'/\D.bk σ' H'
 | .cont=>∃σ' H',Inv X KO σ' H' s'/\D.ct σ' H'
 | .ret u=>∃v σ' H',Inv X KO σ' H' s'/\aw v u/\D.rt v H'
def PE (X:Cx) (e:Qu) (t:TE):Prop:=
 ∀(KO:Qt (Qo×Obj)) (s:Qn) (σ:St) (H:Hp) (Q:VK),Inv X KO σ H s->t σ H Q->wpAny (model X.prog X.w) X.A (eval e X.env) (EP X KO σ Q) X.xe s
def PT (X:Cx) (e:Qu) (t:TT):Prop:=
 ∀(KO:Qt (Qo×Obj)) (s:Qn) (σ:St) (H:Hp) (Q:Bool->Hp->Prop),Inv X KO σ H s->t σ H Q->wpAny (model X.prog X.w) X.A (isTrue e X.env (eval e X.env)) (TP X KO σ Q) X.xe s
def PW (X:Cx) (e:Qu) (t:TT):Prop:=
 ∀(LV:Sem NR) (KO:Qt (Qo×Obj)) (s:Qn) (σ:St) (H:Hp) (Q:Bool->Hp->Prop),Inv X KO σ H s->t σ H Q->wpAny (model X.prog X.w) X.A (isTrue e X.env LV) (TP X KO σ Q) X.xe s
def PW.pt {t:TT} (h:PW X e t):PT X e t:=h _
def PA (X:Cx) (es:Qt Qu) (t:TA):Prop:=
 ∀(pos:Pos) (KO:Qt (Qo×Obj)) (s:Qn) (σ:St) (H:Hp) (Q:Qt V->Hp->Prop),Inv X KO σ H s->t σ H Q->wpAny (model X.prog X.w) X.A (spliced (backTo pos (starEach es X.env))) (AP X KO σ Q) X.xe s
def PS (X:Cx) (st:Qx) (t:TS):Prop:=
 ∀(KO:Qt (Qo×Obj)) (s:Qn) (σ:St) (H:Hp) (D:Ends),Inv X KO σ H s->t D σ H->wpAny (model X.prog X.w) X.A (exec st X.env) (SP X KO D) X.xe s
def PSs (X:Cx) (st:Qt Qx) (t:TS):Prop:=
 ∀(KO:Qt (Qo×Obj)) (s:Qn) (σ:St) (H:Hp) (D:Ends),Inv X KO σ H s->t D σ H->wpAny (model X.prog X.w) X.A (execs st X.env) (SP X KO D) X.xe s
def thn {α:Type}{t:Sem α}{Q Q':α->Qn->Prop}(h:wpAny M A t Q E s) (hQ:∀a s,Q a s->Q' a s):wpAny M A t Q' E s:=Bv h hQ fun _ _ x=>x
section
variable {X:Cx}
inductive tVar (i:Nat) (σ:St) (H:Hp) (Q:VK):Prop
 |mk v:σ[i]? =some (some v)->Q v H->tVar i σ H Q
def tC (v:V):TE:=fun _ H Q=>Q v H
theorem xS {pos:Pos} (hN:X.N[i]? =some x) (hv:Vis X.env.scope x) (hd:(x==("__debug__":Str))=false:=by decide) (NH:(x==("__classdict__":Str))=false:=by decide):PE X (.Name x pos) (tVar i):=by
 intro KO s σ H Q I h;obtain⟨v,e,h⟩:=h;obtain⟨m,hn,hl⟩:=I.loc;obtain⟨u,r,l⟩:=hl i x v hN e hv;have fin:EP X KO σ Q u s:=⟨v,H,I,r,h⟩;rcases l with⟨hk,hm⟩|⟨hk,c,hc,Ll⟩
 .exact wpAny_Name (wpAny_loadName_local I.ok.kind hk hn hm fin) hd
 .rcases hk with hk|hk
  .exact wpAny_Name (wpAny_loadName_cell I.ok.kind hk hc Ll fin) hd
  .exact wpAny_Name (wpAny_loadName_free I.ok.kind hk hc Ll fin NH) hd
def ag {i j pos}:PE X (.Constant (.int i) j pos) (tC (.int i)):=fun _ _ _ H _ I h=>wpAny_Constant_int ⟨.int i,H,I.tok _,⟨_,rfl⟩,h⟩
def jE {b j pos}:PE X (.Constant (.bool b) j pos) (tC (.bl b)):=fun _ _ _ H _ I h=>Constant_bool ⟨.bl b,H,I,rfl,h⟩
def qw {j pos}:PE X (.Constant .none j pos) (tC .non):=fun _ _ _ H _ I h=>Constant_none ⟨.non,H,I,rfl,h⟩
def Gl (X:Cx) (x:Str):Prop:=X.env.kindOf x=some .globalImplicit
theorem qx {E:NR->Qn->Prop}{σ:St}{pos:Pos}(I:Inv X KO σ H s) (hg:Gl X x) (hm:X.mg x=some u) (h:Q u s)
  (hd:(x==("__debug__":Str))=false:=by decide):wpAny (model X.prog X.w) X.A (eval (.Name x pos) X.env) Q E s:=
 Calls.Name_function_global I.ok.kind hg (Calls.loadGlobal_global (by rw[I.ok.glob];exact I.mod.glob.keeps I.bk) hm h) hd
theorem cQ {E:NR->Qn->Prop}{σ:St}{pos:Pos}(I:Inv X KO σ H s) (hg:Gl X x) (hm:X.mg x=none) (hv:bootBuiltins x=some u) (h:Q u s)
  (hn:x≠"__name__":=by decide) (hd:(x==("__debug__":Str))=false:=by decide):wpAny (model X.prog X.w) X.A (eval (.Name x pos) X.env) Q E s:=by
 obtain⟨mb,h1,h2⟩:=I.mod.blt;exact Calls.Name_function_global I.ok.kind hg (Calls.loadGlobal_builtin (by rw[I.ok.glob];exact I.mod.glob.keeps I.bk) hm (by rw[I.ok.blt];exact h1.keeps I.bk) ((h2 x hn).trans hv) h) hd
theorem jF {pos:Pos} (hg:Gl X x) (hm:X.mg x=some u) (r:aw v u) (hd:(x==("__debug__":Str))=false:=by decide):PE X (.Name x pos) (tC v):=
 fun _ _ _ H _ I h=>qx I hg hm ⟨v,H,I,r,h⟩ hd
theorem lH {pos:Pos} (hg:Gl X x) (hm:X.mg x=none) (hv:bootBuiltins x=some u) (r:aw v u) (hn:x≠"__name__":=by decide) (hd:(x==("__debug__":Str))=false:=by decide):PE X (.Name x pos) (tC v):=
 fun _ _ _ H _ I h=>cQ I hg hm hv ⟨v,H,I,r,h⟩ hn hd
variable {a b:Qu}{ta tb:TE}{pos:Pos}
def PC (X:Cx) (op:CmpOp) (a b:Qu) (t:TE):Prop:=
 ∀(KO:Qt (Qo×Obj)) (s:Qn) (σ:St) (H:Hp) (Q:VK),Inv X KO σ H s->t σ H Q->
  wpAny (model X.prog X.w) X.A (eval a X.env) (fun v s₁=>wpAny (model X.prog X.w) X.A (eval b X.env) (fun u s₂=>wpAny (model X.prog X.w) X.A (compareOp op v u) (EP X KO σ Q) X.xe s₂) X.xe s₁) X.xe s
theorem xT (b:Qu) (h:op≠ .In) (h2:op≠ .NotIn):behindInMarks op b=false:=by
 have e1:(op==CmpOp.In)=false:=by cases op<;>first|rfl|exact absurd rfl h
 have e2:(op==CmpOp.NotIn)=false:=by cases op<;>first|rfl|exact absurd rfl h2
 cases b<;>simp[behindInMarks,e1,e2]
inductive qy (Q:(Bool->Hp->Prop)) (x:V) (H1:Hp):Prop
 |mk c:x= .bl c->Q c H1->qy Q x H1
def tB (t:TE):TT:=fun σ H Q=>t σ H fun x H1=>qy Q x H1
theorem qz {t:TE} (h:PC X op a b t) (h1:behindInMarks op b=false:=by first|exact xT _ (by decide) (by decide)|rfl):PT X (.Compare a [op] [b] pos) (tB t):=by
 intro KO s σ H Q I hw;refine wpAny_isTrue_Compare1 (thn (h KO s σ H _ I hw) fun v s1 h1=>thn h1 fun u s2 h2=>thn h2 fun c s3 ⟨x,H1,I1,r1,q1⟩=> ?_) h1;obtain⟨d,rfl,q⟩:=q1;cases r1;exact BS ⟨H1,I1,q⟩
theorem fK {e:Expr}{t:TE} (h:PE X e t) (he:∀LV,isTrue e X.env LV=(do let v<-LV;standAt e.pos;holding [v] (truthy v)):=by intro _;rfl):PT X e (tB t):=by
 intro KO s σ H Q I hw;refine isTrue_plain (thn (h KO s σ H _ I hw) fun v s1 ⟨x,H1,I1,r1,q1⟩=> ?_) (he _);obtain⟨d,rfl,q⟩:=q1;cases r1;exact BS ⟨H1,I1,q⟩
variable {tA tB':TT}{aF:Qt Qu}
def xU (t u:TT):TT:=fun σ H Q=>t σ H fun c H1=>if c=true then u σ H1 Q else Q false H1
def tOr (t u:TT):TT:=fun σ H Q=>t σ H fun c H1=>if c=true then Q true H1 else u σ H1 Q
def xV (t:TT):TT:=fun σ H Q=>t σ H fun c H1=>Q (!c) H1
theorem xW (ha:PT X a tA):PW X (.BoolOp .And [a] pos) tA:=by
 intro wh KO s σ H Q I h;refine isTrue_and (thn (ha KO s σ H Q I h) fun c s1 e=> ?_);cases c with
 |true=>exact isTrue_and_nil e
 |false=>exact e
theorem gw (ha:PT X a tA):PW X (.BoolOp .Or [a] pos) tA:=by
 intro wh KO s σ H Q I h;refine isTrue_or (thn (ha KO s σ H Q I h) fun c s1 e=> ?_);cases c with
 |false=>exact isTrue_or_nil e
 |true=>exact e
theorem xX (ha:PT X a tA) (hb:PW X (.BoolOp .And (b::aF) pos) tB'):PW X (.BoolOp .And (a::b::aF) pos) (xU tA tB'):=by
 intro wh KO s σ H Q I h;refine isTrue_and (thn (ha KO s σ H _ I h) fun c s1 ⟨H1,I1,q1⟩=> ?_);cases c with
 |true=>exact hb wh KO s1 σ H1 Q I1 q1
 |false=>exact⟨H1,I1,q1⟩
theorem fL (ha:PT X a tA) (hb:PW X (.BoolOp .Or (b::aF) pos) tB'):PW X (.BoolOp .Or (a::b::aF) pos) (tOr tA tB'):=by
 intro wh KO s σ H Q I h;refine isTrue_or (thn (ha KO s σ H _ I h) fun c s1 ⟨H1,I1,q1⟩=> ?_);cases c with
 |true=>exact⟨H1,I1,q1⟩
 |false=>exact hb wh KO s1 σ H1 Q I1 q1
theorem gx (ha:PT X a tA):PT X (.UnaryOp .Not a pos) (xV tA):=by
 intro KO s σ H Q I h;exact isTrue_not (thn (ha KO s σ H _ I h) fun c s1 ⟨H1,I1,q⟩=>⟨H1,I1,q⟩)
inductive tAndV_ (tb:TE) (σ:St) (Q:VK) (x:V) (H1:Hp):Prop
 |mk c:x= .bl c->(if c=true then tb σ H1 Q else Q (.bl false) H1)->tAndV_ tb σ Q x H1
def xY (ta tb:TE):TE:=fun σ H Q=>ta σ H fun x H1=>tAndV_ tb σ Q x H1
inductive tOrV_ (tb:TE) (σ:St) (Q:VK) (x:V) (H1:Hp):Prop
 |mk c:x= .bl c->(if c=true then Q (.bl true) H1 else tb σ H1 Q)->tOrV_ tb σ Q x H1
def xZ (ta tb:TE):TE:=fun σ H Q=>ta σ H fun x H1=>tOrV_ tb σ Q x H1
inductive tNotV_ (Q:VK) (x:V) (H1:Hp):Prop
 |mk c:x= .bl c->Q (.bl (!c)) H1->tNotV_ Q x H1
def x6 (ta:TE):TE:=fun σ H Q=>ta σ H fun x H1=>tNotV_ Q x H1
def jG {op}{t:TE} (h:PE X a t):PE X (.BoolOp op [a] pos) t:=fun KO s σ H Q I hw=>BoolOp_one (h KO s σ H Q I hw)
theorem lI (ha:PE X a ta) (hb:PE X (.BoolOp .And (b::aF) pos) tb):PE X (.BoolOp .And (a::b::aF) pos) (xY ta tb):=by
 intro KO s σ H Q I h;refine BoolOp_and (thn (ha KO s σ H _ I h) fun v s1 ⟨x,H1,I1,r1,q1⟩=> ?_);obtain⟨c,rfl,q1⟩:=q1;cases r1;refine BS ?_;cases c with
 |true=>exact hb KO s1 σ H1 Q I1 q1
 |false=>exact⟨.bl false,H1,I1,rfl,q1⟩
theorem qA (ha:PE X a ta) (hb:PE X (.BoolOp .Or (b::aF) pos) tb):PE X (.BoolOp .Or (a::b::aF) pos) (xZ ta tb):=by
 intro KO s σ H Q I h;refine BoolOp_or (thn (ha KO s σ H _ I h) fun v s1 ⟨x,H1,I1,r1,q1⟩=> ?_);obtain⟨c,rfl,q1⟩:=q1;cases r1;refine BS ?_;cases c with
 |false=>exact hb KO s1 σ H1 Q I1 q1
 |true=>exact⟨.bl true,H1,I1,rfl,q1⟩
theorem x8 (ha:PE X a ta):PE X (.UnaryOp .Not a pos) (x6 ta):=by
 intro KO s σ H Q I h;refine UnaryOp_ (thn (ha KO s σ H _ I h) fun v s1 ⟨x,H1,I1,r1,q1⟩=> ?_);obtain⟨c,rfl,q1⟩:=q1;cases r1;exact not_of (BS ⟨.bl (!c),H1,I1,rfl,q1⟩)
def tIf (t:TT) (ta tb:TE):TE:=fun σ H Q=>t σ H fun c H1=>if c=true then ta σ H1 Q else tb σ H1 Q
theorem qB (hc:PT X c tA) (ha:PE X a ta) (hb:PE X b tb):PE X (.IfExp c a b pos) (tIf tA ta tb):=by
 intro KO s σ H Q I h;refine wpAny_IfExp (thn (hc KO s σ H _ I h) fun d s1 ⟨H1,I1,q1⟩=> ?_);cases d with
 |true=>exact ha KO s1 σ H1 Q I1 q1
 |false=>exact hb KO s1 σ H1 Q I1 q1
end
def SqL (K:W.Frag) (H:Hp) (a:Qo) (xs:Qt V):Prop:=
 Rd H a (.lst xs)\/
  ∃(o:Obj) (KQ:Array NR) (n:Nat),K.lookup a=some o/\o.cls= .type "list"/\o.dict=none/\o.data= .seq KQ n/\KQ.size<=sizeLine/\au xs KQ.toList
def SqT (K:W.Frag) (H:Hp) (a:Qo) (xs:Qt V):Prop:=
 Rd H a (.tup xs)\/
  ∃(o:Obj) (KQ:Array NR) (n:Nat),K.lookup a=some o/\o.cls= .type "tuple"/\o.data= .seq KQ n/\KQ.size<=sizeLine/\au xs KQ.toList
def x9:NR->Qw V
 | .none=>some .non
 | .bool b=>some (.bl b)
 | .int i _=>some (.int i)
 | .str x _=>some (.str x)
 | .bytes b _=>some (.byt b)
 | .float b _=>some (.flt b)
 | .ref a=>some (.ref a)
 | .type n=>some (.ty n)
 |_=>none
theorem aw.abs {x:V}(r:aw x u):x9 u=some x:=by
 cases x with
 |non=>cases r;rfl
 |bl _=>cases r;rfl
 |int _=>obtain⟨t,rfl⟩:=r;rfl
 |str _=>obtain⟨t,rfl⟩:=r;rfl
 |byt _=>obtain⟨t,rfl⟩:=r;rfl
 |flt _=>obtain⟨t,rfl⟩:=r;rfl
 |ref _=>cases r;rfl
 |ty _=>cases r;rfl
def aw.inj {x y:V}{u:NR} (r:aw x u) (q:aw y u):x=y:=Ac (r.abs.symm.trans q.abs)
theorem au.inj:∀{xs ys:Qt V}{us:Qt NR},au xs us->au ys us->xs=ys
 |_,_,_, .nil, .nil=>rfl
 |_,_,_, .cons r t, .cons r' t'=>by rw[r.inj r',au.inj t t']
section
variable {X:Cx}{KO:Qt (Qo×Obj)}{σ:St}{H:Hp}{s:Qn}{a:Qo}{xs ys:Qt V}
def SqL.of (h:H a=some (.lst xs)):SqL K H a xs:= .inl (.inl h)
def SqT.of (h:H a=some (.tup xs)):SqT K H a xs:= .inl (.inl h)
theorem Inv.list (I:Inv X KO σ H s) (h:SqL X.K H a xs):∃KQ:Qt NR,au xs KQ/\PlainL s.heap a KQ.toArray/\xs.length<=sizeLine:=by
 rcases h with h|⟨o,KQ,n,hk,hc,hd,hs,hz,r⟩
 .obtain⟨z,KQ,n,r,e⟩:=h.ok I.hok;exact⟨KQ,r,⟨_,n,e,rfl,rfl,rfl⟩,z⟩
 .refine⟨KQ.toList,r,⟨o,n,I.kIn a o hk,hc,hd,by simpa using hs⟩, ?_⟩;have e:=r.length;simp only[Ao] at e;lia
theorem Inv.tuple (I:Inv X KO σ H s) (h:SqT X.K H a xs):∃KQ:Qt NR,au xs KQ/\IsTup s.heap a KQ.toArray/\xs.length<=sizeLine:=by
 rcases h with h|⟨o,KQ,n,hk,hc,hs,hz,r⟩
 .obtain⟨z,KQ,r,p⟩:=h.ok I.hok;exact⟨KQ,r,p,z⟩
 .refine⟨KQ.toList,r,⟨o,I.kIn a o hk,hc,n,by simpa using hs⟩, ?_⟩;have e:=r.length;simp only[Ao] at e;lia
theorem Inv.list_inj (I:Inv X KO σ H s) (h:SqL X.K H a xs) (h':SqL X.K H a ys):xs=ys:=by
 obtain⟨KQ,r,⟨o,n,e,_,_,d⟩,_⟩:=I.list h;obtain⟨its',r',⟨o',n',e',_,_,d'⟩,_⟩:=I.list h';rw[e] at e';cases e';rw[d] at d';injection d' with d1 _;have:KQ=its':=by simpa using congrArg Array.toList d1
 subst this;exact r.inj r'
theorem Inv.tuple_inj (I:Inv X KO σ H s) (h:SqT X.K H a xs) (h':SqT X.K H a ys):xs=ys:=by
 obtain⟨KQ,r,⟨o,e,_,n,d⟩,_⟩:=I.tuple h;obtain⟨its',r',⟨o',e',_,n',d'⟩,_⟩:=I.tuple h';rw[e] at e';cases e';rw[d] at d';injection d' with d1 _;have:KQ=its':=by simpa using congrArg Array.toList d1
 subst this;exact r.inj r'
end
abbrev Cx.wish (X:Cx) (E:NR->Qn->Prop):Cx:={X with xe:=E}
abbrev Cx.nox (X:Cx):Cx:=X.wish fun _ _=>False
theorem Cx.Ok.wish {X:Cx} (ok:X.Ok) (E:NR->Qn->Prop):(X.wish E).Ok:=
 ⟨ok.mod,ok.kind,ok.glob,ok.blt,ok.above,ok.inj,ok.has,ok.cab,ok.hd,ok.frames,ok.stk,ok.exf,ok.bs,ok.bsz,ok.noex,ok.exfs,ok.funs,ok.frf⟩
def Cx.Ok.unwish (ok:(X.wish E).Ok):X.Ok:=
 ⟨ok.mod,ok.kind,ok.glob,ok.blt,ok.above,ok.inj,ok.has,ok.cab,ok.hd,ok.frames,ok.stk,ok.exf,ok.bs,ok.bsz,ok.noex,ok.exfs,ok.funs,ok.frf⟩
section
variable {X:Cx}{KO:Qt (Qo×Obj)}{σ:St}{H:Hp}{s:Qn}{E:NR->Qn->Prop}
theorem Inv.wish (I:Inv X KO σ H s) (E:NR->Qn->Prop):Inv (X.wish E) KO σ H s:=⟨I.ok.wish E,I.os,I.bare,I.base,I.loc,I.cell,I.free,I.freeC,I.pin,I.hok,I.len⟩
theorem Inv.unwish (I:Inv (X.wish E) KO σ H s):Inv X KO σ H s:=⟨I.ok.unwish,I.os,I.bare,I.base,I.loc,I.cell,I.free,I.freeC,I.pin,I.hok,I.len⟩
theorem SP.unwish {D:Ends}{f:Flow}{s':Qn} (h:SP (X.wish E) KO D f s'):SP X KO D f s':=by
 cases f with
 |next=>obtain⟨σ',H',I,q⟩:=h;exact⟨σ',H',I.unwish,q⟩
 |brk=>obtain⟨σ',H',I,q⟩:=h;exact⟨σ',H',I.unwish,q⟩
 |cont=>obtain⟨σ',H',I,q⟩:=h;exact⟨σ',H',I.unwish,q⟩
 |ret u=>obtain⟨v,σ',H',I,r,q⟩:=h;exact⟨v,σ',H',I.unwish,r,q⟩
theorem PSs.nox {st:Qt Qx}{t:TS} (h:PSs X.nox st t):PSs X st t:=fun KO s σ H D I hw=>
 Bv (h KO s σ H D (I.wish _) hw) (fun _ _ q=>q.unwish) fun _ _ z=>False.elim z
end
section
variable {X:Cx}{st:Qx}{aF:Qt Qx}{t u:TS}{e:Qu}{te:TE}{pos:Pos}
def yb:TS:=fun D σ H=>D.nx σ H
def yc (t u:TS):TS:=fun D σ H=>t (eTo D (u D)) σ H
def aX:PSs X [] yb:=fun _ _ σ H _ I h=>wpAny_execs_nil ⟨σ,H,I,h⟩
theorem ai (h1:PS X st t) (h2:PSs X aF u):PSs X (st::aF) (yc t u):=by
 intro KO s σ H D I h;refine wpAny_execs_cons (thn (h1 KO s σ H (eTo D (u D)) I h) fun f s1 q=> ?_);cases f with
 |next=>
  obtain⟨σ',H',I',q⟩:=q;exact h2 KO s1 σ' H' D I' q
 |ret v=>exact q
 |brk=>exact q
 |cont=>exact q
theorem aj (h1:PS X st t):PSs X [st] t:=by
 intro KO s σ H D I h;refine wpAny_execs_cons (thn (h1 KO s σ H D I h) fun f s1 q=> ?_);cases f with
 |next=>exact wpAny_execs_nil q
 |ret v=>exact q
 |brk=>exact q
 |cont=>exact q
theorem Inv.quiet {σ:St}(I:Inv X KO σ H s):interactive X.env=false:=by simp[interactive,I.ok.kind]
def yd (te:TE):TS:=fun D σ H=>te σ H fun _ H1=>D.nx σ H1
theorem aO (he:PE X e te) (hs:swapsWith e none pos.line X.env=pure false:=by rfl):PS X (.Expr e pos) (yd te):=by
 intro KO s σ H D I h;exact wpAny_Expr_any (thn (he KO s σ H _ I h) fun v s1 ⟨x,H1,I1,r1,q1⟩=>⟨σ,H1,I1,q1⟩) I.quiet hs
def ye (te:TE):TS:=fun D σ H=>te σ H D.rt
theorem ap (he:PE X e te):PS X (.Return (some e) pos) (ye te):=by
 intro KO s σ H D I h;exact wpAny_Return_some (thn (he KO s σ H _ I h) fun v s1 ⟨x,H1,I1,r1,q1⟩=>⟨x,σ,H1,I1,r1,q1⟩)
def yf (c:TT) (t u:TS):TS:=fun D σ H=>c σ H fun b H1=>if b=true then t D σ H1 else u D σ H1
theorem aW {a b:Qt Qx}{tc:TT} (hc:PT X c tc) (ha:PSs X a t) (hb:PSs X b u):PS X (.If c a b pos) (yf tc t u):=by
 intro KO s σ H D I h;refine wpAny_If (thn (hc KO s σ H _ I h) fun d s1 ⟨H1,I1,q1⟩=> ?_);cases d with
 |true=>exact ha KO s1 σ H1 D I1 q1
 |false=>exact hb KO s1 σ H1 D I1 q1
def yg:TS:=fun _ _ _=>False
def jH:PS X st yg:=fun _ _ _ _ _ _ h=>h.elim
end
abbrev TG:=V->St->Hp->(St->Hp->Prop)->Prop
variable {g:TG}
abbrev TGs:=Qt V->St->Hp->(St->Hp->Prop)->Prop
def PG (X:Cx) (LF:Qu) (t:TG):Prop:=
 ∀(KO:Qt (Qo×Obj)) (s:Qn) (σ:St) (H:Hp) (v:V) (u:NR) (Q:St->Hp->Prop),Inv X KO σ H s->aw v u->t v σ H Q->
  wpAny (model X.prog X.w) X.A (assign LF X.env u) (fun _ s'=>∃σ' H',Inv X KO σ' H' s'/\Q σ' H') X.xe s
def PGs (X:Cx) (ts:Qt Qu) (t:TGs):Prop:=
 ∀(KO:Qt (Qo×Obj)) (s:Qn) (σ:St) (H:Hp) (vs:Qt V) (us:Qt NR) (Q:St->Hp->Prop),Inv X KO σ H s->au vs us->t vs σ H Q->
  wpAny (model X.prog X.w) X.A (assignInOrder ((assignEach ts X.env).map (·.2)) us) (fun _ s'=>∃σ' H',Inv X KO σ' H' s'/\Q σ' H') X.xe s
abbrev iD:=V->V->V->Hp->(Hp->Prop)->Prop
def lJ (X:Cx) (t:iD):Prop:=
 ∀(KO:Qt (Qo×Obj)) (s:Qn) (σ:St) (H:Hp) (o i v:V) (ov iv u:NR) (Q:Hp->Prop),Inv X KO σ H s->aw o ov->aw i iv->aw v u->t o i v H Q->
  wpAny (model X.prog X.w) X.A (setItem ov iv u) (fun _ s'=>∃H',Inv X KO σ H' s'/\Q H') X.xe s
abbrev TIp:=V->V->Hp->VK->Prop
def PIp (X:Cx) (op:Operator) (t:TIp):Prop:=
 ∀(KO:Qt (Qo×Obj)) (s:Qn) (σ:St) (H:Hp) (x y:V) (v u:NR) (Q:VK),Inv X KO σ H s->aw x v->aw y u->t x y H Q->
  wpAny (model X.prog X.w) X.A (inplaceOp op v u) (EP X KO σ Q) X.xe s
section
variable {X:Cx}{pos:Pos}
def cq (i:Nat):TG:=fun v σ H Q=>Q (σ.set i (some v)) H
theorem bK (hN:X.N.Nodup) (hi:X.N[i]? =some x) (hx:Loc X.env.scope x) (hf:X.fn x=true\/X.env.scope.names.lookup x=some .local:=by first|exact .inl rfl|exact .inr rfl|assumption):PG X (.Name x pos) (cq i):=by
 intro KO s σ H v u Q I r h;exact wpAny_assign_Name (jD I hN hi hx r (fun s' I'=>⟨_,H,I',h⟩) hf)
def jI:TGs:=fun vs σ H Q=>vs=[]/\Q σ H
inductive gCons (t:TG) (u:TGs) (vs:List V) (σ:St) (H:Hp) (Q:(St->Hp->Prop)):Prop
 |mk v r:vs=v::r->(t v σ H fun σ' H'=>u r σ' H' Q)->gCons t u vs σ H Q
theorem cj:PGs X [] jI:=by
 intro KO s σ H vs us Q I r h;obtain⟨e,h⟩:=h;subst e;cases r;exact assignInOrder_nil ⟨σ,H,I,h⟩
theorem aT {t:TG}{u:TGs} (h1:PG X e t) (h2:PGs X es u)
  (hs:(assignEach (e::es) X.env).map (·.2)=assign e X.env::(assignEach es X.env).map (·.2):=by rfl):PGs X (e::es) (gCons t u):=by
 intro KO s σ H vs us Q I r h;obtain⟨v,vr,e1,h⟩:=h;subst e1;cases r with
 |cons r rr=>
  rw[hs];refine assignInOrder_cons (thn (h1 KO s σ H _ _ _ I r h) fun _ s1 ⟨σ1,H1,I1,q1⟩=> ?_);exact h2 KO s1 σ1 H1 _ _ Q I1 rr q1
inductive gTup (K:W.Frag) (n:Nat) (t:TGs) (v:V) (σ:St) (H:Hp) (Q:(St->Hp->Prop)):Prop
 |mk a xs:v= .ref a->SqT K H a xs->xs.length=n->t xs σ H Q->gTup K n t v σ H Q
theorem cH {k:Nat}{t:TGs}(hc:X.calm=true) (h:PGs X es t)
  (hn:(assignEach es X.env).length=n:=by rfl) (K8:(assignEach es X.env).findIdx? (·.1)=none:=by rfl):PG X (.Tuple es k pos) (gTup X.K n t):=by
 intro KO s σ H v u Q I r hw;obtain⟨a,xs,e1,hq,hl,hw⟩:=hw;subst e1;cases r;obtain⟨KQ,rv,ht,hz⟩:=I.tuple hq;refine assign_Tuple_tuple (I.ok.hd hc) ht (by simp[hn,<-hl,rv.length]) K8 fun h' hx=> ?_;have I1:Inv X KO σ H {s with heap:=h'}:=I.kept (t':=s.toks) fun b o e=>hx b o (AO (AM e)) e;exact h KO _ σ H xs _ Q I1 (by simpa using rv) hw
def yh (to ti:TE) (t:iD):TG:=fun v σ H Q=>to σ H fun o H1=>ti σ H1 fun i H2=>t o i v H2 fun H3=>Q σ H3
theorem yi {o i:Expr}{ti:TE}{t:iD} (ho:PE X o to) (hi:PE X i ti) (hs:lJ X t)
  (ha:∀v,assign (.Subscript o i pos) X.env v=(do
   let ov<-holding [v] (eval o X.env)
   let iv<-holding [v,ov] (eval i X.env)
   standAt pos
   holding [v,ov,iv] (setItem ov iv v)
   release [v,ov,iv] []):=by intro _;rfl):PG X (.Subscript o i pos) (yh to ti t):=by
 intro KO s σ H v u Q I r h;rw[ha];refine A0 (Ar (thn (ho KO s σ H _ I h) fun ov s1 ⟨x,H1,I1,r1,q1⟩=> ?_));refine A0 (Ar (thn (hi KO s1 σ H1 _ I1 q1) fun iv s2 ⟨y,H2,I2,r2,q2⟩=> ?_));refine A0 (wpAny_standAt (A0 (Ar (thn (hs KO s2 σ H2 x y v ov iv u _ I2 r1 r2 r q2) fun _ s3 ⟨H3,I3,q3⟩=> ?_))));exact wpAny_release ⟨σ,H3,I3,q3⟩
def iF (te:TE) (g:TG):TS:=fun D σ H=>te σ H fun x H1=>g x σ H1 D.nx
theorem yj (he:PE X e te) (hg:PG X tg g) (hs:swapsWithSole [tg] e pos.line X.env=pure false:=by rfl) (hw:swappedStores [tg] e X.env=pure none:=by rfl)
  (h1:(assignEach [tg] X.env).map (·.2)=[assign tg X.env]:=by rfl):PS X (.Assign [tg] e pos) (iF te g):=by
 intro KO s σ H D I h;refine wpAny_Assign_stores (thn (he KO s σ H _ I h) fun v s1 ⟨x,H1,I1,r1,q1⟩=> ?_) hs hw;rw[h1];exact thn (hg KO s1 σ H1 x v _ I1 r1 q1) fun _ s2 q=>q
theorem yk {K9:Pos} (hN:X.N.Nodup) (hi:X.N[i]? =some x) (hx:Loc X.env.scope x) (he:PE X e te) (hs:swapsWith e (some (.Name x K9)) pos.line X.env=pure false:=by rfl) (hf:X.fn x=true\/X.env.scope.names.lookup x=some .local:=by first|exact .inl rfl|exact .inr rfl|assumption):
  PS X (.Assign [.Name x K9] e pos) (iF te (cq i)):=by
 intro KO s σ H D I h;refine wpAny_Assign_Name (thn (he KO s σ H _ I h) fun v s1 ⟨y,H1,I1,r1,q1⟩=> ?_) hs;exact jD I1 hN hi hx r1 (fun s2 I2=>⟨_,H1,I2,q1⟩) hf
inductive tAug (i:Nat) (te:TE) (ti:TIp) (D:Ends) (σ:St) (H:Hp):Prop
 |mk x:σ[i]? =some (some x)->(te σ H fun y H1=>ti x y H1 fun z H2=>D.nx (σ.set i (some z)) H2)->tAug i te ti D σ H
theorem fM {op:Operator}{ti:TIp}{K9:Pos} (hN:X.N.Nodup) (hi:X.N[i]? =some x) (hx:Loc X.env.scope x) (he:PE X e te) (ho:PIp X op ti) (hf:X.fn x=true\/X.env.scope.names.lookup x=some .local:=by first|exact .inl rfl|exact .inr rfl|assumption):
  PS X (.AugAssign (.Name x K9) op e pos) (tAug i te ti):=by
 intro KO s σ H D I h;obtain⟨v,e1,h⟩:=h;obtain⟨m,hn,hl⟩:=I.loc;have vis:Vis X.env.scope x:=by rcases hx with k|k;exact .inl k;exact .inr (.inl k)
 obtain⟨u,r,l⟩:=hl i x v hi e1 vis;refine wpAny_AugAssign_Name ?_;have go:wpAny (model X.prog X.w) X.A (eval e X.env) (fun w s₂=>wpAny (model X.prog X.w) X.A (inplaceOp op u w) (fun r s₃=>wpAny (model X.prog X.w) X.A (storeName X.env x r) (fun _=>SP X KO D .next) X.xe s₃) X.xe s₂) X.xe s:=by
  refine thn (he KO s σ H _ I h) fun w s1 ⟨y,H1,I1,r1,q1⟩=> ?_;refine thn (ho KO s1 σ H1 v y u w _ I1 r r1 q1) fun z s2 ⟨zv,H2,I2,r2,q2⟩=> ?_;exact jD I2 hN hi hx r2 (fun s3 I3=>⟨_,H2,I3,q2⟩) hf
 rcases l with⟨hk,hm⟩|⟨hk,c,hc,Ll⟩
 .exact wpAny_loadName_local I.ok.kind hk hn hm go
 .rcases hk with hk|hk
  .exact wpAny_loadName_cell I.ok.kind hk hc Ll go
  .rcases hx with k|k
   .have:X.env.scope.names.lookup x=some .free:=hk;rw[k] at this;cases this
   .have:X.env.scope.names.lookup x=some .free:=hk;rw[k] at this;cases this
def yl (to ti te:TE) (Ot:V->V->Hp->VK->Prop) (tip:TIp) (Ou:iD):TS:=fun D σ H=>to σ H fun o H1=>ti σ H1 fun i H2=>Ot o i H2 fun x H3=>te σ H3 fun y H4=>tip x y H4 fun z H5=>Ou o i z H5 fun H6=>D.nx σ H6
def qC (X:Cx) (t:V->V->Hp->VK->Prop):Prop:=
 ∀(KO:Qt (Qo×Obj)) (s:Qn) (σ:St) (H:Hp) (o i:V) (ov iv:NR) (Q:VK),Inv X KO σ H s->aw o ov->aw i iv->t o i H Q->
  wpAny (model X.prog X.w) X.A (getItem ov iv) (EP X KO σ Q) X.xe s
theorem qE {o i:Qu}{ti:TE}{Ot:V->V->Hp->VK->Prop}{tip:TIp}{Ou:iD}{op:Operator}{Mf:Pos} (ho:PE X o to) (hi:PE X i ti) (hg:qC X Ot) (he:PE X e te) (hp:PIp X op tip) (hs:lJ X Ou)
  (ha:∀ov iv new,augStore i ov iv new=(do holding [new,ov,iv] (setItem ov iv new);release [new,ov,iv] [];pure .next):=by intros;rfl):PS X (.AugAssign (.Subscript o i Mf) op e pos) (yl to ti te Ot tip Ou):=by
 intro KO s σ H D I h;refine wpAny_AugAssign_SubscriptAny (thn (ho KO s σ H _ I h) fun ov s1 ⟨x1,H1,I1,r1,q1⟩=> ?_) ha;refine thn (hi KO s1 σ H1 _ I1 q1) fun iv s2 ⟨x2,H2,I2,r2,q2⟩=> ?_;refine thn (hg KO s2 σ H2 x1 x2 ov iv _ I2 r1 r2 q2) fun LL s3 ⟨x3,H3,I3,r3,q3⟩=> ?_;refine thn (he KO s3 σ H3 _ I3 q3) fun v s4 ⟨x4,H4,I4,r4,q4⟩=> ?_;refine thn (hp KO s4 σ H4 x3 x4 LL v _ I4 r3 r4 q4) fun new s5 ⟨x5,H5,I5,r5,q5⟩=> ?_;exact thn (hs KO s5 σ H5 x1 x2 x5 ov iv new _ I5 r1 r2 r5 q5) fun _ s6 ⟨H6,I6,q6⟩=>⟨σ,H6,I6,q6⟩
inductive ipI (f:Int->Int->Int) (x:V) (y:V) (H:Hp) (Q:VK):Prop
 |mk i j:x= .int i->y= .int j->Q (.int (f i j)) H->ipI f x y H Q
theorem jJ:PIp X .Add (ipI fun i j=>i+j):=by
 intro KO s σ H x y v u Q I r1 r2 h;obtain⟨i,j,e1,e2,q⟩:=h;subst e1;subst e2;obtain⟨t,rfl⟩:=r1;obtain⟨t',rfl⟩:=r2;exact iadd_int ⟨.int _,H,I.tok _,⟨_,rfl⟩,q⟩
theorem ym:PIp X .Sub (ipI fun i j=>i-j):=by
 intro KO s σ H x y v u Q I r1 r2 h;obtain⟨i,j,e1,e2,q⟩:=h;subst e1;subst e2;obtain⟨t,rfl⟩:=r1;obtain⟨t',rfl⟩:=r2;exact isub_int ⟨.int _,H,I.tok _,⟨_,rfl⟩,q⟩
end
structure It where
 go:Nat->Hp->Prop
 yld:Nat->Hp->V->Hp->Prop
 stop:Nat->Hp->Prop
def cr (X:Cx) (KO:Qt (Qo×Obj)) (H:Hp) (b:Qo):Prop:=
 H b=none/\b≠X.env.locals/\b∉X.fs/\(b∈X.ex\/X.s₀.heap.objs.size<=b)/\(∀x c,X.env.cells.lookup x=some c->c≠b)/\∀p∈X.pn++KO,p.1≠b
theorem Inv.fpOk {σ:St}{H':Hp}(I:Inv X KO σ H s) (hb:s.heap.objs.size<=b) (hn:H' b=none):cr X KO H' b:=by
 refine⟨hn,Bn (Aj I.lt hb),I.nofs hb, .inr (B9 I.sz hb),fun x c e z=> ?_,fun p hp z=> ?_⟩
 .obtain⟨v,q⟩:=I.cell x c e;exact absurd (Aj q.lt (by rw[z];exact hb)) (Bb _)
 .exact absurd (Aj (AM (I.pin p hp).1) (by rw[z];exact hb)) (Bb _)
structure Turn (P:Qp) (w:Qr) (K:W.Frag) (tg:Qu) (J:It) (fp:Qt Qo) (it:Qo) (tn:Nat->Qv->Prop):Prop where
 mem:it∈fp
 obj:∀i h,tn i h->∀b∈fp,∃o,h.get? b=some o/\∀v,o.data≠ .cell v
 keep:∀i h h',tn i h->(∀b∈fp,∀o,h.get? b=some o->h'.get? b=some o)->tn i h'
 item:∀(X:Cx),X.prog=P->X.w=w->X.K=K->X.calm=true->∀(i:Nat) (KO:List (Addr×Obj)) (s:Shared) (σ:St) (H:Hp) (E:Value->Shared->Prop),Inv X KO σ H s->(∀b∈fp,cr X KO H b)->tn i s.heap->J.go i H->
  wpAny (model P w) X.A (pyNext (.ref it)) (fun r s1=>∃u,r=some u/\
   wpAny (model P w) X.A (letOwnedTupleGo tg (.ref it) u) (fun _ s2=>∃x H',Inv X KO σ H' s2/\aw x u/\J.yld i H x H'/\tn (i+1) s2.heap/\∀b∈fp,H' b=none) E s1) E s
 done:∀(X:Cx),X.prog=P->X.w=w->X.K=K->X.calm=true->∀(i:Nat) (KO:List (Addr×Obj)) (s:Shared) (σ:St) (H:Hp) (E:Value->Shared->Prop),Inv X KO σ H s->(∀b∈fp,cr X KO H b)->tn i s.heap->J.stop i H->
  wpAny (model P w) X.A (pyNext (.ref it)) (fun r s1=>r=none/\Inv X KO σ H s1) E s
 self:∀(A:Around) (i:Nat) (s:Shared) (Q:Value->Shared->Prop) (E:Value->Shared->Prop),tn i s.heap->Q (.ref it) s->wpAny (model P w) A (pyIter (.ref it)) Q E s
abbrev TI:=St->Hp->(It->Hp->Prop)->Prop
def PIE (X:Cx) (KO:Qt (Qo×Obj)) (σ:St) (tg:Qu) (R:It->Hp->Prop) (itv:NR) (s2:Qn):Prop:=
 ∃(it:Qo) (fp:Qt Qo) (tn:Nat->Qv->Prop) (J:It) (H':Hp),itv= .ref it/\Inv X KO σ H' s2/\Turn X.prog X.w X.K tg J fp it tn/\tn 0 s2.heap/\(∀b∈fp,cr X KO H' b)/\R J H'
def PI (X:Cx) (tg KY:Qu) (wi:TI):Prop:=
 ∀(KO:Qt (Qo×Obj)) (s:Qn) (σ:St) (H:Hp) (R:It->Hp->Prop),Inv X KO σ H s->wi σ H R->
  wpAny (model X.prog X.w) X.A (eval KY X.env) (fun v s1=>wpAny (model X.prog X.w) X.A (pyIter v) (PIE X KO σ tg R) X.xe s1) X.xe s
theorem go_of {E : NR -> Qn -> Prop} {n : String} {vs : Array NR} {Q : Unit -> Qn -> Prop} (ho : s.heap.get? it = some o) (hc : o.cls = .type n) (hd : o.data = .fields vs)
    (hn : ["enumerate", "zip", "dict_itemiterator", "dict_reverseitemiterator", "odict_iterator", "itertools.zip_longest", "itertools.pairwise"].contains n = false) (hQ : Q () s) : wpAny M A (letOwnedTupleGo tg (.ref it) u) Q E s := by
  unfold letOwnedTupleGo;cases tg <;> first
    | exact A3 hQ
    | (cases u <;> first
        | exact A3 hQ
        | (refine A0 (wpAny_load ho ?_)
           rw[hc, hd];show wpAny M A (if (["enumerate", "zip", "dict_itemiterator", "dict_reverseitemiterator", "odict_iterator", "itertools.zip_longest", "itertools.pairwise"].contains n && vs[0]? == some (rawInt _)) = true then _ else _) Q E s;rw[A5 (by intro h; rw[hn, Bool.false_and] at h; cases h)];exact A3 hQ))
def Itl (K:W.Frag) (a:Qo):It:=
 ⟨fun i H=>∃xs x,SqL K H a xs/\xs[i]? =some x,fun i H x H'=>H'=H/\∀xs,SqL K H a xs->xs[i]? =some x,fun i H=>∃xs,SqL K H a xs/\xs.length<=i⟩
def Itt (K:W.Frag) (a:Qo):It:=
 ⟨fun i H=>∃xs x,SqT K H a xs/\xs[i]? =some x,fun i H x H'=>H'=H/\∀xs,SqT K H a xs->xs[i]? =some x,fun i H=>∃xs,SqT K H a xs/\xs.length<=i⟩
def Itr (lo:Int) (n:Nat):It:=⟨fun i _=>i<n,fun i H x H'=>H'=H/\x= .int (lo+i),fun i _=>n<=i⟩
theorem yn (a it:Qo):Turn P w K tg (Itl K a) [it] it (fun i h=>h.IsListIter it a i) where
 mem:=by simp
 obj:=fun i h st b hb=>by
  have e:b=it:=by simpa using hb
  subst e;obtain⟨o,e,c,d⟩:=st;exact⟨o,e,fun v z=>by rw[d] at z;cases z⟩
 keep:=fun i h h' st k=>st.at fun o e=>k it (by simp) o e
 item:=by
  intro X hP hw hK hc i KO s σ H E I hf st hg;subst hP hw hK;obtain⟨xs,x,hq,hx⟩:=hg;obtain⟨KQ,rv,p,hz⟩:=I.list hq;obtain⟨u,hu,ru⟩:=rv.get hx;obtain⟨f0,f1,f2,f3,f4,f5⟩:=hf it (by simp);refine wpAny_pyNext_list_item st p.isList (x:=u) (by simpa using hu) fun h' Lg sb=> ?_;have I1:Inv X KO σ H {s with heap:=h'}:=I.turned (t':=s.toks) (fun b o hb e=>(sb.2 b hb).trans e) f0 f1 f3 f4 f5;obtain⟨o,e,c,d⟩:=id Lg;exact⟨u,rfl,go_of (s:={s with heap:=h'}) e c d (by decide) ⟨x,H,I1,ru,⟨rfl,fun ys hy=>by rw[I.list_inj hy hq];exact hx⟩,Lg,fun b hb=>(hf b hb).1⟩⟩
 done:=by
  intro X hP hw hK hc i KO s σ H E I hf st hg;subst hP hw hK;obtain⟨xs,hq,hx⟩:=hg;obtain⟨KQ,rv,p,hz⟩:=I.list hq;obtain⟨f0,f1,f2,f3,f4,f5⟩:=hf it (by simp);have hl:=rv.length;exact wpAny_pyNext_list_end (I.ok.hd hc) st p.isList (by simp;lia) fun h' eb=>⟨rfl,I.turned (t':=s.toks) (fun b o hb e=>eb b o hb e) f0 f1 f3 f4 f5⟩
 self:=fun _ _ _ _ _ st h=>wpAny_pyIter_listiter st h
theorem yo (a it:Qo):Turn P w K tg (Itt K a) [it] it (fun i h=>h.IsTupleIter it a i) where
 mem:=by simp
 obj:=fun i h st b hb=>by
  have e:b=it:=by simpa using hb
  subst e;obtain⟨o,e,c,d⟩:=st;exact⟨o,e,fun v z=>by rw[d] at z;cases z⟩
 keep:=fun i h h' st k=>st.at fun o e=>k it (by simp) o e
 item:=by
  intro X hP hw hK hc i KO s σ H E I hf st hg;subst hP hw hK;obtain⟨xs,x,hq,hx⟩:=hg;obtain⟨KQ,rv,p,hz⟩:=I.tuple hq;obtain⟨u,hu,ru⟩:=rv.get hx;obtain⟨f0,f1,f2,f3,f4,f5⟩:=hf it (by simp);refine wpAny_pyNext_tuple_item st (show s.heap.IsTuple a KQ.toArray from p) (x:=u) (by simpa using hu) fun h' Lg sb=> ?_;have I1:Inv X KO σ H {s with heap:=h'}:=I.turned (t':=s.toks) (fun b o hb e=>(sb.2 b hb).trans e) f0 f1 f3 f4 f5;obtain⟨o,e,c,d⟩:=id Lg;exact⟨u,rfl,go_of (s:={s with heap:=h'}) e c d (by decide) ⟨x,H,I1,ru,⟨rfl,fun ys hy=>by rw[I.tuple_inj hy hq];exact hx⟩,Lg,fun b hb=>(hf b hb).1⟩⟩
 done:=by
  intro X hP hw hK hc i KO s σ H E I hf st hg;subst hP hw hK;obtain⟨xs,hq,hx⟩:=hg;obtain⟨KQ,rv,p,hz⟩:=I.tuple hq;obtain⟨f0,f1,f2,f3,f4,f5⟩:=hf it (by simp);have hl:=rv.length;exact wpAny_pyNext_tuple_end (I.ok.hd hc) st (show s.heap.IsTuple a KQ.toArray from p) (by simp;lia) fun h' eb=>⟨rfl,I.turned (t':=s.toks) (fun b o hb e=>eb b o hb e) f0 f1 f3 f4 f5⟩
 self:=fun _ _ _ _ _ st h=>wpAny_pyIter_tupleiter st h
theorem yp (it:Qo) (lo:Int) (n:Nat):Turn P w K tg (Itr lo n) [it] it (fun i h=>IsRangeIter h it (lo+(i:Nat)*1) ((n:Int)-(i:Nat)) 1) where
 mem:=by simp
 obj:=fun i h st b hb=>by
  have e:b=it:=by simpa using hb
  subst e;exact⟨_,st,fun v z=>by
   have z':Data.fields _=Data.cell v:=z;cases z'⟩
 keep:=fun i h h' st k=>k it (by simp) _ st
 item:=by
  intro X hP hw hK hc i KO s σ H E I hf st hg;subst hP hw hK;obtain⟨f0,f1,f2,f3,f4,f5⟩:=hf it (by simp);have Wq:=Walks.range (prog:=X.prog) (w:=X.w) (I.ok.hd hc) it lo 1 n;refine Wq.item i s _ _ hg st fun v h' tk hv Lg kk=> ?_;obtain⟨t,rfl⟩:=hv;have I1:Inv X KO σ H {s with heap:=h',toks:=tk}:=I.turned (fun b o hb e=>kk b o (by simpa using hb) e) f0 f1 f3 f4 f5;refine⟨_,rfl,go_of (s:={s with heap:=h',toks:=tk}) (n:="range_iterator") Lg rfl rfl (by decide) ⟨.int (lo+i),H,I1,⟨t, ?_⟩,⟨rfl,rfl⟩,Lg,fun b hb=>(hf b hb).1⟩⟩;rw[Int.mul_one]
 done:=by
  intro X hP hw hK hc i KO s σ H E I hf st hg;subst hP hw hK;obtain⟨f0,f1,f2,f3,f4,f5⟩:=hf it (by simp);exact wpAny_pyNext_range_end (I.ok.hd hc) st (by have:n<=i:=hg;lia) fun h' eb=>⟨rfl,I.turned (t':=s.toks) (fun b o hb e=>eb b o hb e) f0 f1 f3 f4 f5⟩
 self:=fun _ _ _ _ _ st h=>wpAny_pyIter_rangeiter st h
section
variable {X:Cx}{tg:Qu}
inductive iList_ (K:W.Frag) (R:(It->Hp->Prop)) (x:V) (H1:Hp):Prop
 |mk a:x= .ref a->((∃xs,SqL K H1 a xs))->R (Itl K a) H1->iList_ K R x H1
def yq (K:W.Frag) (tl:TE):TI:=fun σ H R=>tl σ H fun x H1=>iList_ K R x H1
inductive iTup_ (K:W.Frag) (R:(It->Hp->Prop)) (x:V) (H1:Hp):Prop
 |mk a:x= .ref a->((∃xs,SqT K H1 a xs))->R (Itt K a) H1->iTup_ K R x H1
def yr (K:W.Frag) (tl:TE):TI:=fun σ H R=>tl σ H fun x H1=>iTup_ K R x H1
theorem aP (hl:PE X l tl):PI X tg l (yq X.K tl):=by
 intro KO s σ H R I h;refine thn (hl KO s σ H _ I h) fun v s1 ⟨x,H1,I1,r1,q1⟩=> ?_;obtain⟨a,e,⟨xs,hq⟩,q⟩:=q1;subst e;cases r1;obtain⟨KQ,rv,p,hz⟩:=I1.list hq;refine wpAny_pyIter_list p.isList ?_;refine⟨s1.heap.objs.size,[s1.heap.objs.size],_,_,H1,rfl,I1.kept (t':=s1.toks) fun b o e=>A4 _ e,yn a _,⟨_,AB _ rfl,rfl,rfl⟩,fun b hb=> ?_,q⟩;have e:b=s1.heap.objs.size:=by simpa using hb
 subst e;exact I1.fpOk (A' _) (I1.hok.fresh (A' _))
theorem qF (hl:PE X l tl):PI X tg l (yr X.K tl):=by
 intro KO s σ H R I h;refine thn (hl KO s σ H _ I h) fun v s1 ⟨x,H1,I1,r1,q1⟩=> ?_;obtain⟨a,e,⟨xs,hq⟩,q⟩:=q1;subst e;cases r1;obtain⟨KQ,rv,p,hz⟩:=I1.tuple hq;refine CF (show s1.heap.IsTuple a KQ.toArray from p) ?_;refine⟨s1.heap.objs.size,[s1.heap.objs.size],_,_,H1,rfl,I1.kept (t':=s1.toks) fun b o e=>A4 _ e,yo a _,⟨_,AB _ rfl,rfl,rfl⟩,fun b hb=> ?_,q⟩;have e:b=s1.heap.objs.size:=by simpa using hb
 subst e;exact I1.fpOk (A' _) (I1.hok.fresh (A' _))
theorem qG {σ:St}{R:It->Hp->Prop}{hi:Int}{t u v:Tok}{tk:Nat} (I:Inv X KO σ H s) (h1: -(2^62)<=lo) (h2:lo<2^62) (h3: -(2^62)<=hi) (h4:hi<2^62)
  (q:R (Itr lo (hi-lo).toNat) H):wpAny (model X.prog X.w) X.A (pyIter (.ref s.heap.objs.size)) (PIE X KO σ tg R) E {s with heap:=s.heap.push {cls:= .type "range",data:= .fields #[.int lo t, .int hi u, .int 1 v]},toks:=tk}:=by
 refine wpAny_pyIter_range (IsRange.new ..) (small_one h1 h2 h3 h4) ?_;have I1:Inv X KO σ H {s with heap:=s.heap.push {cls:= .type "range",data:= .fields #[.int lo t, .int hi u, .int 1 v]},toks:=tk}:=I.kept fun b o e=>A4 _ e;refine⟨(s.heap.push {cls:= .type "range",data:= .fields #[.int lo t, .int hi u, .int 1 v]}).objs.size,[(s.heap.push {cls:= .type "range",data:= .fields #[.int lo t, .int hi u, .int 1 v]}).objs.size],_,_,H,rfl,
  I1.kept (t':=tk) fun b o e=>A4 _ e,yp _ lo (hi-lo).toNat, ?_,fun b hb=> ?_,q⟩
 .have e1:lo+((0:Nat):Int)*1=lo:=by simp
  have e2:(((hi-lo).toNat:Nat):Int)-((0:Nat):Int)=Builtin.Range.rangeSize lo hi 1:=by rw[rangeSize_one];split<;>lia
  show IsRangeIter _ _ (lo+((0:Nat):Int)*1) ((((hi-lo).toNat:Nat):Int)-((0:Nat):Int)) 1;rw[e1,e2];exact AB _ rfl
 .have e:b=(s.heap.push {cls:= .type "range",data:= .fields #[.int lo t, .int hi u, .int 1 v]}).objs.size:=by simpa using hb
  subst e;exact I1.fpOk (A' _) (I1.hok.fresh (A' _))
inductive iRng1_ (R:(It->Hp->Prop)) (vs:List V) (H1:Hp):Prop
 |mk (j:Int):vs=[.int j]->-(2^62)<=j->j<2^62->R (Itr 0 j.toNat) H1->iRng1_ R vs H1
def yt (ta:TA):TI:=fun σ H R=>ta σ H fun vs H1=>iRng1_ R vs H1
inductive iRng2_ (R:(It->Hp->Prop)) (vs:List V) (H1:Hp):Prop
 |mk (i j:Int):vs=[.int i, .int j]->(-(2^62)<=i/\i<2^62/\-(2^62)<=j/\j<2^62)->R (Itr i (j-i).toNat) H1->iRng2_ R vs H1
def yu (ta:TA):TI:=fun σ H R=>ta σ H fun vs H1=>iRng2_ R vs H1
theorem eS {a:Qu}{p pos:Pos} (hg:Gl X "range") (hm:X.mg "range"=none) (ha:PA X [a] ta) (hs:starEach [a] X.env=[(false,eval a X.env)]:=by rfl):PI X tg (.Call (.Name "range" p) [a] [] pos) (yt ta):=by
 intro KO s σ H R I h;refine Call_ (cQ I hg hm boot_range (B3 (thn (ha pos KO s σ H _ I h) fun us s1 ⟨vs,H1,I1,r1,q1⟩=> ?_) hs rfl));obtain⟨j,e,q1,q2,q⟩:=q1;subst e;cases r1 with
 |cons r rr=>
  cases rr;obtain⟨t,rfl⟩:=r;exact call_range_1 (qG I1 (by lia) (by lia) q1 q2 (by simpa using q))
theorem dJ {a b:Qu}{p pos:Pos} (hg:Gl X "range") (hm:X.mg "range"=none) (ha:PA X [a,b] ta) (hs:starEach [a,b] X.env=[(false,eval a X.env),(false,eval b X.env)]:=by rfl) (Oh:starEach [b] X.env=[(false,eval b X.env)]:=by rfl):
  PI X tg (.Call (.Name "range" p) [a,b] [] pos) (yu ta):=by
 intro KO s σ H R I h;refine Call_ (cQ I hg hm boot_range (B3 (thn (ha pos KO s σ H _ I h) fun us s1 ⟨vs,H1,I1,r1,q1⟩=> ?_) (by rw[hs,Oh]) (by rw[Oh];rfl)));obtain⟨i,j,e,⟨q1,q2,q3,q4⟩,q⟩:=q1;subst e;cases r1 with
 |cons r rr=>
  cases rr with
  |cons r' rr=>
   cases rr;obtain⟨t,rfl⟩:=r;obtain⟨t',rfl⟩:=r';exact call_range_2 (qG I1 q1 q2 q3 q4 q)
def yw (wi:TI) (g:TG) (tb:TS):TS:=fun D σ H=>wi σ H fun J H1=>∃Wq:Nat->Nat->St->Hp->Prop,(∃m,Wq 0 m σ H1)/\∀i m σ H,Wq i m σ H->
 (J.stop i H/\D.nx σ H)\/(J.go i H/\∃N:St->Hp->Prop,(∀σ' H',N σ' H'->∃m',m'<m/\Wq (i+1) m' σ' H')/\∀x H',J.yld i H x H'->g x σ H' fun σ2 H2=>tb (eLp D (N)) σ2 H2)
def iG (fp:Qt Qo) (h:Qv):Qt (Qo×Obj):=fp.filterMap fun b=>(h.get? b).map fun o=>(b,o)
theorem jK (hb:b∈fp) (e:h.get? b=some o):(b,o)∈iG fp h:=List.mem_filterMap.mpr ⟨b,hb,by rw[e];rfl⟩
theorem yy {p:Qo×Obj} (hp:p∈iG fp h):p.1∈fp/\h.get? p.1=some p.2:=by
 obtain⟨b,hb,e⟩:=List.mem_filterMap.mp hp;cases q:h.get? b with
 |none=>rw[q] at e;cases e
 |some o=>
  rw[q] at e;have e':(b,o)=p:=Ac e;subst e';exact⟨hb,q⟩
theorem Inv.pinned {σ:St}(I:Inv X KO σ H s) (hf:∀b∈fp,cr X KO H b) (ho:∀b∈fp,∃o,s.heap.get? b=some o/\∀v,o.data≠ .cell v):Inv X (KO++iG fp s.heap) σ H s:=
 I.pins_of fun p hp=>(BM.mp hp).elim (fun z=>I.pin p (B0 _ z)) fun z=>by
  obtain⟨hb,e⟩:=yy z;obtain⟨f0,f1,f2,_⟩:=hf p.1 hb;obtain⟨o,e',d⟩:=ho p.1 hb;rw[e] at e';cases e';exact⟨e,f0,f1,f2,d⟩
def Inv.unpinned {pl:Qt (Qo×Obj)}{σ:St}(I:Inv X (KO++pl) σ H s):Inv X KO σ H s:=I.pins_of fun p hp=>I.pin p (B0 _ (List.mem_append_left _ hp))
theorem aA {KY:Qu}{wi:TI}{pos:Pos} (hp:PassesOwn (model X.prog X.w) X.A X.env X.xe) (hc:X.calm=true) (hi:PI X tg KY wi) (hg:PG X tg g) (hb:PSs X body tb)
  (hs:∀x,foldedSetIterable KY X.env x=pure x:=by intro _;rfl):PS X (.For tg KY body [] pos) (yw wi g tb):=by
 intro KO s σ H D I h;refine wpAny_For (thn (hi KO s σ H _ I h) fun v s1 h1=>thn h1 fun itv s2 h2=> ?_) hs;obtain⟨it,fp,tn,J,H2,e,I2,T,Nm,f2,Wq,⟨m0,w0⟩,turn⟩:=h2;subst e;have MT:∀{H':Hp},(∀b∈fp,H' b=none)->∀b∈fp,cr X KO H' b:=fun hn b hb=>⟨hn b hb,(f2 b hb).2⟩;refine codeAny_forLoop_any (fun n s'=>∃i σ' H',Inv X KO σ' H' s'/\tn i s'.heap/\(∀b∈fp,H' b=none)/\Wq i n σ' H') ?_ m0 ⟨0,σ,H2,I2,Nm,fun b hb=>(f2 b hb).1,w0⟩;rintro n s3 ⟨i,σ3,H3,I3,st3,fr3,w3⟩;rcases turn i n σ3 H3 w3 with⟨stop,qn⟩|⟨go,N,hN,step⟩
 .refine DS hp (thn (T.done X rfl rfl rfl hc i KO s3 σ3 H3 X.xe I3 (MT fr3) st3 stop) fun r s4 ⟨hr,I4⟩=> ?_);subst hr;exact wpAny_execs_nil ⟨σ3,H3,I4,qn⟩
 .refine DS hp (thn (T.item X rfl rfl rfl hc i KO s3 σ3 H3 X.xe I3 (MT fr3) st3 go) fun r s4 ⟨u,hr,h4⟩=> ?_);subst hr;refine DS hp (thn h4 fun _ s5 ⟨x,H5,I5,r5,y5,st5,fr5⟩=> ?_);have I5':=I5.pinned (MT fr5) (T.obj _ _ st5);refine DS hp (thn (hg _ s5 σ3 H5 x u _ I5' r5 (step x H5 y5)) fun _ s6 ⟨σ6,H6,I6,q6⟩=> ?_);refine DS hp (thn (hb _ s6 σ6 H6 _ I6 q6) fun f s7 q7=> ?_);have again:∀{σ7:St}{H7:Hp},Inv X (KO++iG fp s5.heap) σ7 H7 s7->N σ7 H7->∃m,m<n/\∃i σ' H',Inv X KO σ' H' s7/\tn i s7.heap/\(∀b∈fp,H' b=none)/\Wq i m σ' H':=fun{σ7 H7} I7 n7=>by
   obtain⟨m',hm,w7⟩:=hN σ7 H7 n7;refine⟨m',hm,i+1,σ7,H7,I7.unpinned,T.keep _ _ _ st5 fun b hb o e=>(I7.pin (b,o) (B0 _ (B0 _ (jK hb e)))).1,fun b hb=> ?_,w7⟩;obtain⟨o,e,d⟩:=T.obj _ _ st5 b hb;exact(I7.pin (b,o) (B0 _ (B0 _ (jK hb e)))).2.1
  cases f with
  |next=>obtain⟨σ7,H7,I7,n7⟩:=q7;exact again I7 n7
  |cont=>obtain⟨σ7,H7,I7,n7⟩:=q7;exact again I7 n7
  |brk=>obtain⟨σ7,H7,I7,q7⟩:=q7;exact⟨σ7,H7,I7.unpinned,q7⟩
  |ret v=>obtain⟨x7,σ7,H7,I7,r7,q7⟩:=q7;exact⟨x7,σ7,H7,I7.unpinned,r7,q7⟩
end
theorem aY {D:Ends}{σ:St}(Pv:Nat->St->Hp->Prop) (h0:Pv 0 σ H) (hl:∀i σ H,i<=xs.length->Pv i σ H->SqL K H a xs)
  (hs:∀i x σ H,xs[i]? =some x->Pv i σ H->g x σ H fun σ2 H2=>tb (eLp D (Pv (i+1))) σ2 H2) (hd:∀σ H,Pv xs.length σ H->D.nx σ H):
  ∃Wq:Nat->Nat->St->Hp->Prop,(∃m,Wq 0 m σ H)/\∀i m σ H,Wq i m σ H->
   ((Itl K a).stop i H/\D.nx σ H)\/((Itl K a).go i H/\∃N:St->Hp->Prop,(∀σ' H',N σ' H'->∃m',m'<m/\Wq (i+1) m' σ' H')/\∀x H',(Itl K a).yld i H x H'->g x σ H' fun σ2 H2=>tb (eLp D (N)) σ2 H2):=by
 refine⟨fun i m σ H=>m=xs.length-i/\i<=xs.length/\Pv i σ H,⟨xs.length,by simp,AL _,h0⟩, ?_⟩;rintro i m σ H ⟨rfl,hi,p⟩;have q:=hl i σ H hi p;by_cases KU:i<xs.length
 .refine .inr ⟨⟨xs,xs[i],q,by simp[KU]⟩,Pv (i+1),fun σ' H' p'=>⟨xs.length-(i+1),by lia,rfl,KU,p'⟩,fun x H' y=> ?_⟩;obtain⟨e,y⟩:=y;subst e;exact hs i x σ _ (y xs q) p
 .have e:i=xs.length:=by lia
  subst e;exact .inl ⟨⟨xs,q,A' _⟩,hd σ H p⟩
theorem qH {D:Ends}{σ:St}(Pv:Nat->St->Hp->Prop) (h0:Pv 0 σ H) (hl:∀i σ H,i<=xs.length->Pv i σ H->SqT K H a xs)
  (hs:∀i x σ H,xs[i]? =some x->Pv i σ H->g x σ H fun σ2 H2=>tb (eLp D (Pv (i+1))) σ2 H2) (hd:∀σ H,Pv xs.length σ H->D.nx σ H):
  ∃Wq:Nat->Nat->St->Hp->Prop,(∃m,Wq 0 m σ H)/\∀i m σ H,Wq i m σ H->
   ((Itt K a).stop i H/\D.nx σ H)\/((Itt K a).go i H/\∃N:St->Hp->Prop,(∀σ' H',N σ' H'->∃m',m'<m/\Wq (i+1) m' σ' H')/\∀x H',(Itt K a).yld i H x H'->g x σ H' fun σ2 H2=>tb (eLp D (N)) σ2 H2):=by
 refine⟨fun i m σ H=>m=xs.length-i/\i<=xs.length/\Pv i σ H,⟨xs.length,by simp,AL _,h0⟩, ?_⟩;rintro i m σ H ⟨rfl,hi,p⟩;have q:=hl i σ H hi p;by_cases KU:i<xs.length
 .refine .inr ⟨⟨xs,xs[i],q,by simp[KU]⟩,Pv (i+1),fun σ' H' p'=>⟨xs.length-(i+1),by lia,rfl,KU,p'⟩,fun x H' y=> ?_⟩;obtain⟨e,y⟩:=y;subst e;exact hs i x σ _ (y xs q) p
 .have e:i=xs.length:=by lia
  subst e;exact .inl ⟨⟨xs,q,A' _⟩,hd σ H p⟩
theorem cu {D:Ends}{σ:St}(Pv:Nat->St->Hp->Prop) (h0:Pv 0 σ H)
  (hs:∀i σ H,i<n->Pv i σ H->g (.int (lo+i)) σ H fun σ2 H2=>tb (eLp D (Pv (i+1))) σ2 H2) (hd:∀σ H,Pv n σ H->D.nx σ H):
  ∃Wq:Nat->Nat->St->Hp->Prop,(∃m,Wq 0 m σ H)/\∀i m σ H,Wq i m σ H->
   ((Itr lo n).stop i H/\D.nx σ H)\/((Itr lo n).go i H/\∃N:St->Hp->Prop,(∀σ' H',N σ' H'->∃m',m'<m/\Wq (i+1) m' σ' H')/\∀x H',(Itr lo n).yld i H x H'->g x σ H' fun σ2 H2=>tb (eLp D (N)) σ2 H2):=by
 refine⟨fun i m σ H=>m=n-i/\i<=n/\Pv i σ H,⟨n,by simp,AL _,h0⟩, ?_⟩;rintro i m σ H ⟨rfl,hi,p⟩;by_cases KU:i<n
 .refine .inr ⟨KU,Pv (i+1),fun σ' H' p'=>⟨n-(i+1),by lia,rfl,KU,p'⟩,fun x H' y=> ?_⟩;obtain⟨e,y⟩:=y;subst e y;exact hs i σ _ KU p
 .have e:i=n:=by lia
  subst e;exact .inl ⟨A' _,hd σ H p⟩
abbrev R2:=V->V->Hp->VK->Prop
variable {r:R2}
def OpR (X:Cx) (f:NR->NR->Sem NR) (r:R2):Prop:=
 ∀(KO:Qt (Qo×Obj)) (s:Qn) (σ:St) (H:Hp) (x y:V) (v u:NR) (Q:VK),Inv X KO σ H s->aw x v->aw y u->r x y H Q->
  wpAny (model X.prog X.w) X.A (f v u) (EP X KO σ Q) X.xe s
def UnR (X:Cx) (f:NR->Sem NR) (r:V->Hp->VK->Prop):Prop:=
 ∀(KO:Qt (Qo×Obj)) (s:Qn) (σ:St) (H:Hp) (x:V) (v:NR) (Q:VK),Inv X KO σ H s->aw x v->r x H Q->
  wpAny (model X.prog X.w) X.A (f v) (EP X KO σ Q) X.xe s
def bL (X:Cx) (f:NR) (r:Qt V->Hp->VK->Prop):Prop:=
 ∀(KO:Qt (Qo×Obj)) (s:Qn) (σ:St) (H:Hp) (xs:Qt V) (us:Qt NR) (Q:VK),Inv X KO σ H s->au xs us->r xs H Q->
  wpAny (model X.prog X.w) X.A (call f us) (EP X KO σ Q) X.xe s
def yz (X:Cx) (r:V->Hp->(Bool->Hp->Prop)->Prop):Prop:=
 ∀(KO:Qt (Qo×Obj)) (s:Qn) (σ:St) (H:Hp) (x:V) (v:NR) (Q:Bool->Hp->Prop),Inv X KO σ H s->aw x v->r x H Q->
  wpAny (model X.prog X.w) X.A (truthy v) (TP X KO σ Q) X.xe s
def tOp (r:R2) (ta tb:TE):TE:=fun σ H Q=>ta σ H fun x H1=>tb σ H1 fun y H2=>r x y H2 Q
def tUn (r:V->Hp->VK->Prop) (ta:TE):TE:=fun σ H Q=>ta σ H fun x H1=>r x H1 Q
inductive rI (C:Int->Int->Prop) (g:Int->Int->V) (x:V) (y:V) (H:Hp) (Q:VK):Prop
 |mk i j:x= .int i->y= .int j->C i j->Q (g i j) H->rI C g x y H Q
inductive rI0 (g:Int->Int->V) (x:V) (y:V) (H:Hp) (Q:VK):Prop
 |mk i j:x= .int i->y= .int j->Q (g i j) H->rI0 g x y H Q
inductive rU (g:Int->V) (x:V) (H:Hp) (Q:VK):Prop
 |mk i:x= .int i->Q (g i) H->rU g x H Q
section
variable {X:Cx}{a b c:Qu}{ta tb tc:TE}{pos:Pos}
theorem lK (ha:PE X a ta) (hb:PE X b tb) {σ:St}{R:V->V->Hp->Prop} (I:Inv X KO σ H s)
  (h:ta σ H fun x H1=>tb σ H1 fun y H2=>R x y H2) 
  (hf:∀v u s2 x y H2,Inv X KO σ H2 s2->aw x v->aw y u->R x y H2->wpAny (model X.prog X.w) X.A (f v u) Q X.xe s2):
  wpAny (model X.prog X.w) X.A (eval a X.env) (fun v s₁=>wpAny (model X.prog X.w) X.A (eval b X.env) (fun u s₂=>wpAny (model X.prog X.w) X.A (f v u) Q X.xe s₂) X.xe s₁) X.xe s:=by
 refine thn (ha KO s σ H _ I h) fun v s1 ⟨x,H1,I1,r1,q1⟩=> ?_;refine thn (hb KO s1 σ H1 _ I1 q1) fun u s2 ⟨y,H2,I2,r2,q2⟩=> ?_;exact hf v u s2 x y H2 I2 r1 r2 q2
theorem ah {op:Operator}(ho:OpR X (binaryOp op) r) (ha:PE X a ta) (hb:PE X b tb):PE X (.BinOp a op b pos) (tOp r ta tb):=by
 intro KO s σ H Q I h;exact wpAny_BinOp (lK ha hb I h fun v u s2 x y H2 I2 rx ry q=>ho KO s2 σ H2 x y v u Q I2 rx ry q)
theorem fq {op:UnaryOp}{r:V->Hp->VK->Prop} (ho:UnR X (unaryOp op) r) (ha:PE X a ta):PE X (.UnaryOp op a pos) (tUn r ta):=by
 intro KO s σ H Q I h;exact UnaryOp_ (thn (ha KO s σ H _ I h) fun v s1 ⟨x,H1,I1,r1,q1⟩=>ho KO s1 σ H1 x v Q I1 r1 q1)
theorem opI {f:NR->NR->Sem NR}{C:Int->Int->Prop}{g:Int->Int->Int}
  (rule:∀(i j:Int) (t u:Tok) (s:Qn) (Q:NR->Qn->Prop) (E:NR->Qn->Prop),C i j->Q (.int (g i j) s.toks) {s with toks:=s.toks+1}->wpAny (model X.prog X.w) X.A (f (.int i t) (.int j u)) Q E s):
  OpR X f (rI C fun i j=> .int (g i j)):=by
 intro KO s σ H x y v u Q I rx ry h;obtain⟨i,j,rfl,rfl,hc,q⟩:=h;obtain⟨t,rfl⟩:=rx;obtain⟨t',rfl⟩:=ry;exact rule i j t t' s _ _ hc ⟨.int (g i j),H,I.tok _,⟨_,rfl⟩,q⟩
theorem qI {f:NR->NR->Sem NR}{g:Int->Int->Int}
  (rule:∀(i j:Int) (t u:Tok) (s:Qn) (Q:NR->Qn->Prop) (E:NR->Qn->Prop),Q (.int (g i j) s.toks) {s with toks:=s.toks+1}->wpAny (model X.prog X.w) X.A (f (.int i t) (.int j u)) Q E s):
  OpR X f (rI0 fun i j=> .int (g i j)):=by
 intro KO s σ H x y v u Q I rx ry h;obtain⟨i,j,rfl,rfl,q⟩:=h;obtain⟨t,rfl⟩:=rx;obtain⟨t',rfl⟩:=ry;exact rule i j t t' s _ _ ⟨.int (g i j),H,I.tok _,⟨_,rfl⟩,q⟩
theorem jL {g:Int->Int->Bool}
  (rule:∀(i j:Int) (t u:Tok) (s:Qn) (Q:NR->Qn->Prop) (E:NR->Qn->Prop),Q (.bool (g i j)) s->wpAny (model X.prog X.w) X.A (f (.int i t) (.int j u)) Q E s):
  OpR X f (rI0 fun i j=> .bl (g i j)):=by
 intro KO s σ H x y v u Q I rx ry h;obtain⟨i,j,rfl,rfl,q⟩:=h;obtain⟨t,rfl⟩:=rx;obtain⟨t',rfl⟩:=ry;exact rule i j t t' s _ _ ⟨.bl (g i j),H,I,rfl,q⟩
def yA (i j:Int):Prop:=0<j/\j<1073741824
def yB (i j:Int):Prop:=0<=j/\j<=1000000/\i.natAbs<2^64
def gy (i j:Int):Prop:=(-(2^64)<i/\i<2^64)\/(-(2^64)<j/\j<2^64)
theorem gy.ok {i j:Int} (h:gy i j):IntMulOk i j:=by
 rcases h with⟨h1,h2⟩|⟨h1,h2⟩
 .exact .of_left (intBits_le_64 h1 h2)
 .exact .of_right (intBits_le_64 h1 h2)
def aG:OpR X (binaryOp .Add) (rI0 fun i j=> .int (i+j)):=qI fun _ _ _ _ _ _ _ q=>add_int q
def aC:OpR X (binaryOp .Sub) (rI0 fun i j=> .int (i-j)):=qI fun _ _ _ _ _ _ _ q=>sub_int q
def aU:OpR X (binaryOp .Mult) (rI gy fun i j=> .int (i*j)):=opI fun _ _ _ _ _ _ _ hc q=>mul_int q hc.ok
theorem gz:OpR X (binaryOp .FloorDiv) (rI yA fun i j=> .int (i/j)):=opI fun i j _ _ _ _ _ hc q=>by
 have h1:(0:Int)<j:=hc.1;have h2:j<1073741824:=hc.2;exact floordiv_int (by lia) (by rw[Int.fdiv_eq_ediv_of_nonneg i (by lia)];exact q) (.inl (PyProof.noPylong_small (by lia)))
theorem jM:OpR X (binaryOp .Mod) (rI (fun _ j=>0<j) fun i j=> .int (i%j)):=opI fun i j _ _ _ _ _ hc q=>by
 have h1:(0:Int)<j:=hc;exact mod_int' (by lia) (by rw[Int.fmod_eq_emod_of_nonneg i (by lia)];exact q)
def iH:OpR X (binaryOp .Pow) (rI yB fun i j=> .int (i^j.toNat)):=opI fun _ _ _ _ _ _ _ hc q=>pow_int_small hc.1 hc.2.1 hc.2.2 q
theorem unI {f:NR->Sem NR}{g:Int->Int}
  (rule:∀(i:Int) (t:Tok) (s:Qn) (Q:NR->Qn->Prop) (E:NR->Qn->Prop),Q (.int (g i) s.toks) {s with toks:=s.toks+1}->wpAny (model X.prog X.w) X.A (f (.int i t)) Q E s):
  UnR X f (rU fun i=> .int (g i)):=by
 intro KO s σ H x v Q I rx h;obtain⟨i,rfl,q⟩:=h;obtain⟨t,rfl⟩:=rx;exact rule i t s _ _ ⟨.int (g i),H,I.tok _,⟨_,rfl⟩,q⟩
def ft:UnR X (unaryOp .USub) (rU fun i=> .int (-i)):=unI fun _ _ _ _ _ q=>neg_int q
end
def qJ:V->V->Bool
 | .non, .non=>true| .non, .int _=>true| .int _, .non=>true| .non, .bl _=>true| .bl _, .non=>true| .non, .str _=>true| .str _, .non=>true
 | .int _, .int _=>true| .bl _, .bl _=>true| .str _, .str _=>true| .byt _, .byt _=>true
 | .int _, .str _=>true| .str _, .int _=>true| .bl _, .str _=>true| .str _, .bl _=>true
 |_,_=>false
def rEq:R2:=fun x y H Q=>qJ x y=true/\Q (.bl (decide (x=y))) H
def rNe:R2:=fun x y H Q=>qJ x y=true/\Q (.bl (!decide (x=y))) H
theorem qK {i j:Int}:decide (V.int i=V.int j)=(i==j):=by
 rw[Ct];simp
theorem qL {i j:Bool}:decide (V.bl i=V.bl j)=(i==j):=by
 rw[Ct];simp
theorem qM {i j:Str}:decide (V.str i=V.str j)=(i==j):=by
 rw[Ct];simp
theorem qN {i j:Array UInt8}:decide (V.byt i=V.byt j)=(i.toList==j.toList):=by
 rw[Ct];cases i;cases j;simp
section
variable {X:Cx}{a b c:Qu}{ta tb tc:TE}{pos:Pos}
theorem bc {σ:St}{Q:VK}{k k':Bool} (I:Inv X KO σ H s) (q:Q (.bl k) H) (e:k=k'):EP X KO σ Q (.bool k') s:=by
 subst e;exact⟨.bl k,H,I,rfl,q⟩
theorem cI:OpR X (compareOp .Eq) rEq:=by
 intro KO s σ H x y v u Q I rx ry h;obtain⟨hs,q⟩:=h;cases x with
 |non=>
  cases rx;cases y with
  |non=>cases ry;exact PySem.EqNone.eq_none_none (bc I q (by simp))
  |bl j=>cases ry;exact PySem.EqNone.eq_none_bool (bc I q (by simp))
  |int j=>obtain⟨t',rfl⟩:=ry;exact PySem.EqNone.eq_none_int (bc I q (by simp))
  |str j=>obtain⟨t',rfl⟩:=ry;exact PySem.EqNone.eq_none_str (bc I q (by simp))
  |_=>exact absurd (show false=true from hs) AV
 |bl i=>
  cases rx;cases y with
  |non=>cases ry;exact PySem.EqNone.eq_bool_none (bc I q (by simp))
  |bl j=>cases ry;exact eq_bool (bc I q qL)
  |str j=>obtain⟨t',rfl⟩:=ry;exact PySem.EqMixed.eq_bool_str (bc I q (by simp))
  |_=>exact absurd (show false=true from hs) AV
 |int i=>
  obtain⟨t,rfl⟩:=rx;cases y with
  |non=>cases ry;exact PySem.EqNone.eq_int_none (bc I q (by simp))
  |int j=>obtain⟨t',rfl⟩:=ry;exact eq_int (bc I q qK)
  |str j=>obtain⟨t',rfl⟩:=ry;exact PySem.EqMixed.eq_int_str (bc I q (by simp))
  |_=>exact absurd (show false=true from hs) AV
 |str i=>
  obtain⟨t,rfl⟩:=rx;cases y with
  |non=>cases ry;exact PySem.EqNone.eq_str_none (bc I q (by simp))
  |bl j=>cases ry;exact PySem.EqMixed.eq_str_bool (bc I q (by simp))
  |int j=>obtain⟨t',rfl⟩:=ry;exact PySem.EqMixed.eq_str_int (bc I q (by simp))
  |str j=>obtain⟨t',rfl⟩:=ry;exact eq_str (bc I q qM)
  |_=>exact absurd (show false=true from hs) AV
 |byt i=>
  obtain⟨t,rfl⟩:=rx;cases y with
  |byt j=>obtain⟨t',rfl⟩:=ry;exact W.eq_bytes (bc I q qN)
  |_=>exact absurd (show false=true from hs) AV
 |_=>cases y<;>exact absurd (show false=true from hs) AV
theorem lL:OpR X (compareOp .NotEq) rNe:=by
 intro KO s σ H x y v u Q I rx ry h;obtain⟨hs,q⟩:=h;cases x with
 |non=>
  cases rx;cases y with
  |non=>cases ry;exact PySem.EqNone.ne_none_none (bc I q (by simp))
  |bl j=>cases ry;exact PySem.EqNone.ne_none_bool (bc I q (by simp))
  |int j=>obtain⟨t',rfl⟩:=ry;exact PySem.EqNone.ne_none_int (bc I q (by simp))
  |str j=>obtain⟨t',rfl⟩:=ry;exact PySem.EqNone.ne_none_str (bc I q (by simp))
  |_=>exact absurd (show false=true from hs) AV
 |bl i=>
  cases rx;cases y with
  |non=>cases ry;exact PySem.EqNone.ne_bool_none (bc I q (by simp))
  |bl j=>cases ry;exact ne_bool (bc I q (BU not qL))
  |str j=>obtain⟨t',rfl⟩:=ry;exact PySem.EqMixed.ne_bool_str (bc I q (by simp))
  |_=>exact absurd (show false=true from hs) AV
 |int i=>
  obtain⟨t,rfl⟩:=rx;cases y with
  |non=>cases ry;exact PySem.EqNone.ne_int_none (bc I q (by simp))
  |int j=>obtain⟨t',rfl⟩:=ry;exact ne_int (bc I q (BU not qK))
  |str j=>obtain⟨t',rfl⟩:=ry;exact PySem.EqMixed.ne_int_str (bc I q (by simp))
  |_=>exact absurd (show false=true from hs) AV
 |str i=>
  obtain⟨t,rfl⟩:=rx;cases y with
  |non=>cases ry;exact PySem.EqNone.ne_str_none (bc I q (by simp))
  |bl j=>cases ry;exact PySem.EqMixed.ne_str_bool (bc I q (by simp))
  |int j=>obtain⟨t',rfl⟩:=ry;exact PySem.EqMixed.ne_str_int (bc I q (by simp))
  |str j=>obtain⟨t',rfl⟩:=ry;exact ne_str (bc I q (BU not qM))
  |_=>exact absurd (show false=true from hs) AV
 |byt i=>
  obtain⟨t,rfl⟩:=rx;cases y with
  |byt j=>obtain⟨t',rfl⟩:=ry;exact W.ne_bytes (bc I q (BU not qN))
  |_=>exact absurd (show false=true from hs) AV
 |_=>cases y<;>exact absurd (show false=true from hs) AV
def fN:OpR X (compareOp .Lt) (rI0 fun i j=> .bl (decide (i<j))):=jL fun _ _ _ _ _ _ _ q=>lt_int q
def gC:OpR X (compareOp .LtE) (rI0 fun i j=> .bl (decide (i<=j))):=jL fun _ _ _ _ _ _ _ q=>le_int q
def fO:OpR X (compareOp .Gt) (rI0 fun i j=> .bl (decide (j<i))):=jL fun _ _ _ _ _ _ _ q=>gt_int q
def iI:OpR X (compareOp .GtE) (rI0 fun i j=> .bl (decide (j<=i))):=jL fun _ _ _ _ _ _ _ q=>ge_int q
theorem yC:OpR X (compareOp .Is) (fun x y H Q=>y= .non/\Q (.bl (decide (x= .non))) H):=by
 intro KO s σ H x y v u Q I rx ry h;obtain⟨rfl,q⟩:=h;cases ry;refine is_none_gen (bc I q ?_);cases x<;>first
  |(cases rx;rfl)
  |(obtain⟨t,rfl⟩:=rx;rfl)
theorem aI (b:Qu) (h:op≠ .In:=by decide) (h2:op≠ .NotIn:=by decide):behindInMarks op b=false:=by
 have e1:(op==CmpOp.In)=false:=by cases op<;>first|rfl|exact absurd rfl h
 have e2:(op==CmpOp.NotIn)=false:=by cases op<;>first|rfl|exact absurd rfl h2
 cases b<;>simp[behindInMarks,e1,e2]
theorem fP (ho:OpR X (compareOp op) r) (ha:PE X a ta) (hb:PE X b tb) (hm:behindInMarks op b=false):PE X (.Compare a [op] [b] pos) (tOp r ta tb):=by
 intro KO s σ H Q I h;exact wpAny_Compare1 (lK ha hb I h fun v u s2 x y H2 I2 rx ry q=>ho KO s2 σ H2 x y v u Q I2 rx ry q) hm
inductive tTest_ (Q:(Bool->Hp->Prop)) (x:V) (H':Hp):Prop
 |mk k:x= .bl k->Q k H'->tTest_ Q x H'
def yD (t:TE):TT:=fun σ H Q=>t σ H fun x H'=>tTest_ Q x H'
theorem aQ (ho:OpR X (compareOp op) r) (ha:PE X a ta) (hb:PE X b tb) (hm:behindInMarks op b=false):PT X (.Compare a [op] [b] pos) (yD (tOp r ta tb)):=by
 intro KO s σ H Q I h;refine wpAny_isTrue_Compare1 (thn (ha KO s σ H _ I h) fun v s1 ⟨x,H1,I1,r1,q1⟩=>thn (hb KO s1 σ H1 _ I1 q1) fun u s2 ⟨y,H2,I2,r2,q2⟩=>
  thn (ho KO s2 σ H2 x y v u _ I2 r1 r2 q2) fun c s3 ⟨z,H3,I3,r3,k,e,q3⟩=> ?_) hm
 subst e;cases r3;exact BS ⟨H3,I3,q3⟩
def qO (K:W.Frag) (x:V) (H:Hp) (k:Bool):Prop:=
 match x with
 | .non=>k=false
 | .bl b=>k=b
 | .int i=>k=(i !=0)
 | .str y=>y.length<=sizeLine/\k=((y.length:Int) !=0)
 | .byt y=>y.size<=sizeLine/\k=((y.size:Int) !=0)
 | .ref p=>(∃xs,SqL K H p xs/\k= !xs.isEmpty)\/(∃xs,SqT K H p xs/\k= !xs.isEmpty)\/∃kvs,H p=some (.dK kvs)/\k= !kvs.isEmpty
 |_=>False
theorem yE {κ:Type}{kvs:Qt (κ×V)}{vs:Qt (κ×NR)} (r:KV kvs vs):(!vs.isEmpty)= !kvs.isEmpty:=by
 cases r<;>rfl
theorem lM {KQ:Qt NR} (r:au xs KQ):(!KQ.toArray.isEmpty)= !xs.isEmpty:=by
 cases r<;>simp
theorem fQ:(sizeLine:Nat)<2^63:=by rw[Ay];decide
theorem yF:yz X (fun x H Q=>∃k,qO X.K x H k/\Q k H):=by
 intro KO s σ H x v Q I rx h;obtain⟨k,e,q⟩:=h;have hl:=fQ;have hs:sizeLine=16777216:=Ay;cases x with
 |non=>
  cases rx;have e':k=false:=e;subst e';exact truthy_none ⟨H,I,q⟩
 |bl b=>
  cases rx;have e':k=b:=e;subst e';exact BS ⟨H,I,q⟩
 |int i=>
  obtain⟨t,rfl⟩:=rx;have e':k=(i !=0):=e;subst e';exact PySem.P.truthy_int ⟨H,I,q⟩
 |str y=>
  obtain⟨t,rfl⟩:=rx;obtain⟨hy,e'⟩:y.length<=sizeLine/\k=((y.length:Int) !=0):=e;subst e';exact PySem.P.truthy_str (by lia) ⟨H,I.tok _,q⟩
 |byt y=>
  obtain⟨t,rfl⟩:=rx;obtain⟨hy,e'⟩:y.size<=sizeLine/\k=((y.size:Int) !=0):=e;subst e';exact W.truthy_bytes (by lia) ⟨H,I.tok _,q⟩
 |ref p=>
  cases rx;have e':(∃xs,SqL X.K H p xs/\k= !xs.isEmpty)\/(∃xs,SqT X.K H p xs/\k= !xs.isEmpty)\/∃kvs,H p=some (.dK kvs)/\k= !kvs.isEmpty:=e;rcases e' with⟨xs,hx,e'⟩|⟨xs,hx,e'⟩|⟨kvs,hx,e'⟩
  .subst e';obtain⟨KQ,r,pl,hz⟩:=I.list hx;have KS:=r.length;exact wpAny_truthy_list pl.isList (by simp only[AJ];lia) ⟨H,I.tok _,by rw[lM r];exact q⟩
  .subst e';obtain⟨KQ,r,pl,hz⟩:=I.tuple hx;have KS:=r.length;exact truthy_tuple pl (by simp only[AJ];lia) ⟨H,I.tok _,by rw[lM r];exact q⟩
  .subst e';obtain⟨hz,hS,vs,r,m⟩:kvs.length<=sizeLine/\(p==sysModules)=false/\∃vs,KV kvs vs/\s.heap.DictOf (bT X.prog X.w) p vs:=I.hok p _ hx;have KS:kvs.length=vs.length:=BL r;exact wpAny_truthy_dict hS m (by lia) ⟨H,I.tok _,by rw[yE r];exact q⟩
 |_=>exact(show False from e).elim
theorem yG (ha:PE X a ta) (he:∀LV,isTrue a X.env LV=(do let v<-LV;standAt a.pos;holding [v] (truthy v))):
  PT X a (fun σ H Q=>ta σ H fun x H'=>∃k,qO X.K x H' k/\Q k H'):=by
 intro KO s σ H Q I h;exact isTrue_plain (thn (ha KO s σ H _ I h) fun v s1 ⟨x,H1,I1,r1,q1⟩=>yF KO s1 σ H1 x v Q I1 r1 q1) (he _)
theorem dM {x:V}(r:au [x] us):∃u,us=[u]/\aw x u:=by
 cases r with
 |cons r1 r2=>cases r2;exact⟨_,rfl,r1⟩
theorem fR {x y:V}(r:au [x,y] us):∃u w',us=[u,w']/\aw x u/\aw y w':=by
 cases r with
 |cons r1 r2=>
  cases r2 with
  |cons r3 r4=>cases r4;exact⟨_,_,rfl,r1,r3⟩
theorem yH:bL X (.builtin "abs") (fun xs H Q=>∃i,xs=[.int i]/\Q (.int (if i<0 then -i else i)) H):=by
 intro KO s σ H xs us Q I r h;obtain⟨i,rfl,q⟩:=h;obtain⟨u,rfl,t,rfl⟩:=dM r;exact call_abs_int fun u tk=>⟨.int (if i<0 then -i else i),H,I.tok _,⟨_,rfl⟩,q⟩
theorem yI (hc:X.calm=true):bL X (.builtin "min") (fun xs H Q=>∃i j,xs=[.int i, .int j]/\Q (.int (if j<i then j else i)) H):=by
 intro KO s σ H xs us Q I r h;obtain⟨i,j,rfl,q⟩:=h;obtain⟨u,w',rfl,⟨t,rfl⟩,⟨t',rfl⟩⟩:=fR r;refine min_two_ints (I.ok.hd hc) fun h' tk k=>⟨_,H,I.kept k, ?_,q⟩;by_cases hj:j<i
 .rw [A7 hj,A7 hj];exact⟨_,rfl⟩
 .rw [A5 hj,A5 hj];exact⟨_,rfl⟩
end
structure ObjM (h:Qv) (x dx C:Qo) (mA:Str->Qw NR):Prop where
 obj:h.get? x=some (W.instObj C dx)
 ns:h.Ns1 dx mA
 ne:dx≠x
theorem yJ (n:h.Ns1 dx mA):∃od,h.get? dx=some od/\∀name,W.lookIn name od=some (mA name):=by
 obtain⟨o,es,ep,ho,hd,hk,_,hm⟩:=n;refine⟨o,ho,fun name=> ?_⟩;have e:=hm name;unfold nsFind findBy at e;rw[<-Array.find?_toList] at e;unfold W.lookIn;rw[hd];dsimp only;split
 .rename_i y q;rw[q] at e;exact BU some e
 .rename_i q;rw[q] at e;have a:es.toList.any (·.refKey)=false:=by
   rw[List.any_eq_false];intro y hy;obtain⟨z,t,Ov⟩:=hk y (Array.mem_toList_iff.mp hy);simp[DictEntry.refKey,Ov]
  have a':¬es.toList.any (·.refKey)=true:=by rw[a];exact AV
  rw[A5 a'];exact BU some e
def ObjM.look {x C:Qo}(I:ObjM h x dx C mA):∃od,W.InstAt h x (W.instObj C dx) C (some od)/\∀name,W.lookIn name od=some (mA name):=
 let ⟨od,ho,hl⟩:=yJ I.ns
 ⟨od,⟨I.obj,rfl,rfl,ho⟩,hl⟩
theorem cG.some_of {o:Qw NR} (r:cG (some v) o):∃u,o=some u/\aw v u:=by
 cases o with
 |none=>exact(show False from r).elim
 |some u=>exact⟨u,rfl,r⟩
section
variable {P:Qp}{w:Qr}{H H':Hp}{h h':Qv}{a C dx:Qo}{fs fs':Qt (Str×V)}
theorem yK (hok:HOk P w H h) (e:H a=some (.ins C dx fs)):∃mA,ObjM h a dx C mA/\(∀f,cG (fs.lookup f) (mA f))/\PySem.Within mA (fs.map (·.1))/\fs.length<=1000/\H dx=some (.own a):=by
 obtain⟨d,z,ne,ob,mA,n,r,q⟩:=(show aD P w H h a (.ins C dx fs) from hok a _ e);exact⟨mA,⟨ob,n,ne⟩,r,q,z,d⟩
end
structure Cls (K:W.Frag) (C:Qo):Prop where
 pg:W.plainGet K C Str.empty=true
 hd:W.hasDictIn K C=true
 po:W.plainOver K C=true
 sa:W.findIn K (.ref C) "__setattr__"=some (some (.builtin "object.__setattr__"))
def Cls.get {K:W.Frag}{C:Qo} (c:Cls K C) (f:Str):W.plainGet K C f=true:=c.pg
section
variable {X:Cx}{KO:Qt (Qo×Obj)}{σ:St}{H:Hp}{s:Qn}{A:Qs}{E:NR->Qn->Prop}{Q:NR->Qn->Prop}{c:NR}{b:Bool}
inductive TyOf (K:W.Frag) (H:Hp):V->Value->Prop where
 |non:TyOf K H .non (.type "NoneType")
 |bl (x:Bool):TyOf K H (.bl x) (.type "bool")
 |int (i:Int):TyOf K H (.int i) (.type "int")
 |str (x:Str):TyOf K H (.str x) (.type "str")
 |flt (x:UInt64):TyOf K H (.flt x) (.type "float")
 |lst {a:Addr}{xs:List V} (e:H a=some (.lst xs)):TyOf K H (.ref a) (.type "list")
 |frz {a:Addr}{o:Obj}{xs:List V} (e:H a=some (.frz o (.lst xs))):TyOf K H (.ref a) (.type "list")
 |tup {a:Addr}{xs:List V} (e:H a=some (.tup xs)):TyOf K H (.ref a) (.type "tuple")
 |dK {a:Addr}{kvs:List (Key×V)} (e:H a=some (.dK kvs)):TyOf K H (.ref a) (.type "dict")
 |dT {a:Addr}{kvs:List (List Key×V)} (e:H a=some (.dT kvs)):TyOf K H (.ref a) (.type "dict")
 |ins {a C dx:Addr}{fs:List (Str×V)} (e:H a=some (.ins C dx fs)) (cl:Cls K C) (ha:W.findIn K (.ref C) "__class__"=some (some (.builtin "object.__class__")))
   (hn:W.specialIn K (.builtin "object.__class__") "__get__"=some (some (.builtin "getset_descriptor.__get__"))) (htk:W.takesIn K (.builtin "object.__class__")=some true)
   (hm:W.mroIn K C (.type "object")=some true):TyOf K H (.ref a) (.ref C)
theorem yL {x:V}{t:NR} (I:Inv X KO σ H s) (rx:aw x u) (ty:TyOf X.K H x t) (e:W.kitOne X.K t c=some b) (h:∀tk,Q (.bool b) {s with toks:=tk}):
  wpAny (model X.prog X.w) A (call (.builtin "isinstance") [u,c]) Q E s:=by
 cases ty with
 |non=>cases (show u=Value.none from rx);exact Bm W.kitx_none I.kIn True.intro e (fun z=>nomatch z) h
 |bl y=>cases (show u=Value.bool y from rx);exact Bm W.kitx_bool I.kIn True.intro e (fun z=>nomatch z) h
 |int i=>obtain⟨t,q⟩:=(show∃t,u=Value.int i t from rx);cases q;exact Bm W.kitx_int I.kIn True.intro e (fun z=>nomatch z) h
 |str y=>obtain⟨t,q⟩:=(show∃t,u=Value.str y t from rx);cases q;exact Bm W.kitx_str I.kIn True.intro e (fun z=>nomatch z) h
 |flt y=>obtain⟨t,q⟩:=(show∃t,u=Value.float y t from rx);cases q;exact Bm W.kitx_float I.kIn True.intro e (fun z=>nomatch z) h
 | @lst a xs ea=>
  cases (show u=Value.ref a from rx);obtain⟨_,_,n,_,h1⟩:=(show aD X.prog X.w H s.heap a (.lst xs) from I.hok a _ ea);exact Bm W.kitx_list I.kIn ⟨_,h1,rfl⟩ e (fun z=>nomatch z) h
 | @frz a ob xs ea=>
  cases (show u=Value.ref a from rx);obtain⟨_,_,_,n,_,h1⟩:=(show aD X.prog X.w H s.heap a (.frz ob (.lst xs)) from I.hok a _ ea);exact Bm W.kitx_list I.kIn ⟨_,h1,rfl⟩ e (fun z=>nomatch z) h
 | @tup a xs ea=>
  cases (show u=Value.ref a from rx);obtain⟨_,_,_,p⟩:=(show aD X.prog X.w H s.heap a (.tup xs) from I.hok a _ ea);obtain⟨o,h1,h2,_⟩:=p;exact Bm W.kitx_tuple I.kIn ⟨o,h1,h2⟩ e (fun z=>nomatch z) h
 | @dK a kvs ea=>
  cases (show u=Value.ref a from rx);obtain⟨_,_,vs,_,p⟩:=(show aD X.prog X.w H s.heap a (.dK kvs) from I.hok a _ ea);obtain⟨o,es,ep,h1,h2,_⟩:=p;exact Bm W.kitx_dict I.kIn ⟨o,h1,h2.1⟩ e (fun z=>nomatch z) h
 | @dT a kvs ea=>
  cases (show u=Value.ref a from rx);obtain⟨_,_,xs,_,o,es,ep,h1,h2,_⟩:=(show aD X.prog X.w H s.heap a (.dT kvs) from I.hok a _ ea);exact Bm W.kitx_dict I.kIn ⟨o,h1,h2.1⟩ e (fun z=>nomatch z) h
 | @ins a C dx fs ea cl ha hn htk hm=>
  cases (show u=Value.ref a from rx);obtain⟨mA,O,_⟩:=yK I.hok ea;obtain⟨od,J,_⟩:=O.look;exact Bm (W.kitx_own (cl.get _) cl.hd ha hn htk hm) I.kIn J e (fun z=>nomatch z) h
end
structure Room (k:Nat) (A:Qs):Prop where
 hd:A.handled=none
 dp:A.depth+3*k+5<recursionLimit
 un:A.units+16*k+200<cLine
theorem Room.mono {k:Nat}(r:Room k A) (h:j<=k):Room j A:=⟨r.hd,by have:=r.dp;lia,by have:=r.un;lia⟩
theorem Room.deeper {k:Nat}{A:Qs} (r:Room (k+1) A) (env:Env):Room k (A.deeper env):=
 ⟨r.hd,by have:=r.dp;show A.depth+1+3*k+5<_;lia,by have:=r.un;show A.units+3+16*k+200<_;lia⟩
theorem Room.depth {k:Nat}{A:Qs} (r:Room k A):A.depth<recursionLimit:=by have:=r.dp;lia
theorem Room.units {k:Nat}{A:Qs} (r:Room k A):A.units+64<cLine:=by have:=r.un;lia
def yM:TA:=fun _ H Q=>Q [] H
def yN (ta:TE) (tr:TA):TA:=fun σ H Q=>ta σ H fun x H1=>tr σ H1 fun xs H2=>Q (x::xs) H2
section
variable {X:Cx}{e:Qu}{es:Qt Qu}{te:TE}{t:TA}{pos:Pos}
def af:PA X [] yM:=fun _ _ _ _ H Q I h=>Calls.spliced_nil ⟨[],H,I, .nil,h⟩
theorem ab (ha:PE X e te) (hr:PA X es t) (hs:starEach (e::es) X.env=(false,eval e X.env)::starEach es X.env:=by rfl):PA X (e::es) (yN te t):=by
 intro pos KO s σ H Q I h;rw[hs];show wpAny _ _ (spliced ((false,eval e X.env)::backTo pos (starEach es X.env))) _ _ s;refine Ca (thn (ha KO s σ H _ I h) fun u s1 ⟨x,H1,I1,r1,q1⟩=> ?_);exact thn (hr pos KO s1 σ H1 _ I1 q1) fun us s2 ⟨xs,H2,I2,r2,q2⟩=>⟨x::xs,H2,I2, .cons r1 r2,q2⟩
def yO (t:TA):TE:=fun σ H Q=>t σ H fun xs H1=>xs.length<=sizeLine/\∀p,H1 p=none->Q (.ref p) (upd H1 p (.lst xs))
theorem jN (h:PA X es t):PE X (.List es pos) (yO t):=by
 intro KO s σ H Q I hq;refine wpAny_List_spliced (thn (h pos KO s σ H _ I hq) fun us s1 ⟨xs,H1,I1,r,z,q⟩=>⟨by rw[<-r.length];exact z, ?_⟩);have hf:H1 s1.heap.objs.size=none:=I1.hok.fresh (A' _);refine⟨.ref s1.heap.objs.size,upd H1 s1.heap.objs.size (.lst xs),I1.laid (t':=s1.toks) (fun b u e=>A4 _ e) (A' _) ?_,rfl,q _ hf⟩;exact⟨z,us,0,r,AB _ rfl⟩
end
abbrev Sp:=Qt V->Hp->VK->XK->Prop
abbrev CXT:=Qt Env->Hp->Qn->XK->NR->Qn->Prop
variable {CX:CXT}
structure Env0 (P:Qp) (w:Qr) (K:W.Frag) (mg:Str->Qw NR) (base:Qv) (A:Qs) (outer:Qt Env) (s:Qn) (H:Hp):Prop where
 frames:A.frames=some outer
 mod:Mod K mg base
 bs:∀b o,base.get? b=some o->s.heap.get? b=some o/\H b=none
 bsz:base.objs.size<=s.heap.objs.size
 funs:s.heap.FunFrames base outer
 frf:∀b∈frs outer,H b=none
 hok:HOk P w H s.heap
 bare:AllBare s.gens
def CE (outer:Qt Env) (P:Qp) (w:Qr) (H:Hp) (s:Qn) (Q:VK) (u:NR) (s':Qn):Prop:=
 ∃v H',s'.os=s.os/\AllBare s'.gens/\Un (frs outer) [] H H' s.heap s'.heap/\HOk P w H' s'.heap/\aw v u/\Q v H'
def CR (CX:CXT) (outer:Qt Env) (P:Qp) (w:Qr) (H:Hp) (s:Qn) (Q:VK) (E:XK) (r:Result) (s':Qn):Prop:=
 match r with
 | .ok (.ret u)=>CE outer P w H s Q u s'
 | .ok _=>False
 | .error e=>CX outer H s E e s'
structure FnOk (P:Qp) (w:Qr) (K:W.Frag) (mg:Str->Qw NR) (base:Qv) (CX:CXT) (k:Nat) (f:Qo) (fd:Qq) (ps:Qt Str) (sp:Sp):Prop where
 len:∀vs H Q E,sp vs H Q E->vs.length=ps.length
 run:∀(A:Around) (outer:List Env) (s:Shared) (H:Hp) (args:Args) (us:List Value) (vs:List V) (Q:VK) (E:XK),Room k A->Env0 P w K mg base A outer s H->BindsTo s fd args (ps.zip us)->au vs us->sp vs H Q E->
  codeAny (model P w) A (.call (.ref f) args) (CR CX outer P w H s Q E) s
section
variable {X:Cx}{KO:Qt (Qo×Obj)}{σ:St}{H:Hp}{s s':Qn}
def Inv.env0 (I:Inv X KO σ H s):Env0 X.prog X.w X.K X.mg X.base X.A X.stack s H:=
 ⟨I.ok.frames,I.ok.mod,I.bs,B9 I.ok.bsz I.sz,I.stack,I.stkFree,I.hok,I.bare⟩
theorem Inv.after {Q:VK}(I:Inv X KO σ H s) (h:CE X.stack X.prog X.w H s Q u s'):EP X KO σ Q u s':=by
 obtain⟨v,H',os,bare,un,hok,r,q⟩:=h;obtain⟨hh,g,d,t,Pu⟩:=s';obtain rfl:Pu=s.os:=os;exact⟨v,H',I.call (h':=hh) (g':=g) (d':=d) (t':=t) (ch:=[]) un hok bare (fun b z=>absurd z (by simp)),r,q⟩
end
def qP (sp:Sp) (K6:Qt V) (E:XK) (t:TA):TE:=fun σ H Q=>t σ H fun vs H1=>sp (vs++K6) H1 Q E
def gD (K:W.Frag) (fd:Qq) (ps:Qt Str) (ds:Qt NR):Prop:=
 ∀(s:Qn) (us:Qt NR),K.In s.heap->(us++ds).length=ps.length->BindsTo s fd ⟨us,[]⟩ (ps.zip (us++ds))
theorem gD.all {fd:Qq}(h:∀us:Qt NR,us.length=ps.length->bindArgs fd ⟨us,[]⟩=pure (ps.zip us)):gD K fd ps []:=fun s us _ hl=>by
 rw[B5] at hl⊢;exact .of_eq (h us hl)
def lN (CX:CXT) (X:Cx) (E:XK):Prop:=∀(KO:Qt (Qo×Obj)) (σ:St) (H:Hp) (s:Qn) (e:NR) (s':Qn),Inv X KO σ H s->CX X.stack H s E e s'->X.xe e s'
section
variable {X:Cx}{CX:CXT}{k:Nat}{f C:Qo}{fd:Qq}{ps:Qt Str}{sp:Sp}{K6:Qt V}{ds:Qt NR}{E:XK}{x m:Str}{p pos Li:Pos}{e o:Qu}{es:Qt Qu}{ta:TE}{t:TA}
theorem yP {σ:St}{Q:VK}(F:FnOk X.prog X.w X.K X.mg X.base CX k f fd ps sp) (hr:Room k X.A) (hb:gD X.K fd ps ds) (hd:au K6 ds) (hx:lN CX X E)
  (I:Inv X KO σ H s) (r:au vs us) (h:sp (vs++K6) H Q E):wpAny (model X.prog X.w) X.A (call (.ref f) us) (EP X KO σ Q) X.xe s:=by
 have r2:au (vs++K6) (us++ds):=r.append hd;have hl:(us++ds).length=ps.length:=by rw[<-r2.length];exact F.len _ _ _ _ h
 refine wpAny_call (codeAny_mono (F.run X.A X.stack s H ⟨us,[]⟩ (us++ds) (vs++K6) Q E hr I.env0 (hb s us I.kIn hl) r2 h) fun r s' hq=> ?_);cases r with
 |error e=>exact hx KO σ H s e s' I hq
 |ok fl=>
  cases fl with
  |ret u=>exact I.after hq
  |next=>exact False.elim hq
  |brk=>exact False.elim hq
  |cont=>exact False.elim hq
theorem fu (F:FnOk X.prog X.w X.K X.mg X.base CX k f fd ps sp) (hr:Room k X.A) (hg:Gl X x) (hm:X.mg x=some (.ref f)) (hk:W.keepIn X.K (.ref f)=true) (hb:gD X.K fd ps ds) (hd:au K6 ds) (hx:lN CX X E)
  (ha:PA X (e::es) t) (NI:(x==("__debug__":Str))=false:=by decide) (he:starEach (e::es) X.env=(false,eval e X.env)::starEach es X.env:=by rfl) (MI:(backTo pos (starEach es X.env)).any (·.1)=false:=by rfl):
  PE X (.Call (.Name x p) (e::es) [] pos) (qP sp K6 E t):=by
 intro KO s σ H Q I h;refine Be (qx I hg hm ?_ NI);refine W.callWith_K (h₀:=X.base) I.ok.mod.kin hk (thn (ha pos KO s σ H _ I h) fun us s1 ⟨vs,H1,I1,r,q⟩=>⟨I1.kIn, ?_⟩) he MI;exact yP F hr hb hd hx I1 r q
end
structure FnScope (N P:Qt Str) (sc:Scope):Prop where
 kind:sc.kind= .function
 co:sc.isCoroutine=false
 gen:sc.isGenerator=false
 nd:N.Nodup
 pre:N.take P.length=P
 par:∀x∈P,sc.names.lookup x=some .local\/sc.names.lookup x=some .cell
 nofree:∀y∈sc.names,y.2≠ .free
theorem qQ {kindOf:Str->Qw NameKind}{x:Str}:∀{binds:Qt (Str×NR)}{m:Str->Qw NR},(∀v,(x,v)∉binds)->bindL kindOf binds m x=m x
 |[],_,_=>rfl
 |(n,v)::r,m,h=>by
  unfold bindL;rw[qQ fun w hw=>h w (AQ _ hw)];split
  .have:x≠n:=by rintro rfl;exact h v AW
   simp[this]
  .rfl
theorem qR {kindOf:Str->Qw NameKind}{x:Str}:∀{binds:Qt (Str×NR)}{m:Str->Qw NR},(∀v,(x,v)∉binds)->bindC kindOf binds m x=m x
 |[],_,_=>rfl
 |(n,v)::r,m,h=>by
  unfold bindC;rw[qR fun w hw=>h w (AQ _ hw)];split
  .rfl
  .have:x≠n:=by rintro rfl;exact h v AW
   simp[this]
theorem qS {kindOf:Str->Qw NameKind}{x:Str}{v:NR}:∀{P:Qt Str}{vs:Qt NR}{i:Nat}{m:Str->Qw NR},P.Nodup->P[i]? =some x->vs[i]? =some v->kindOf x=some .local->
  bindL kindOf (P.zip vs) m x=some v
 |[],_,_,_,_,h,_,_=>by simp at h
 |_::_,[],_,_,_,_,h,_=>by simp at h
 |p::P,w::vs,0,m,nd,h1,h2,hk=>by
  simp at h1 h2;subst h1;subst h2;show bindL kindOf ((p,w)::P.zip vs) m p=_;unfold bindL;rw[qQ fun v hv=>(BI.mp nd).1 (List.of_mem_zip hv).1,A7 hk];simp
 |p::P,w::vs,i+1,m,nd,h1,h2,hk=>by
  show bindL kindOf ((p,w)::P.zip vs) m x=_;unfold bindL;exact qS (i:=i) (BI.mp nd).2 (by simpa using h1) (by simpa using h2) hk
theorem qT {kindOf:Str->Qw NameKind}{x:Str}{v:NR}:∀{P:Qt Str}{vs:Qt NR}{i:Nat}{m:Str->Qw NR},P.Nodup->P[i]? =some x->vs[i]? =some v->kindOf x≠some .local->
  bindC kindOf (P.zip vs) m x=some v
 |[],_,_,_,_,h,_,_=>by simp at h
 |_::_,[],_,_,_,_,h,_=>by simp at h
 |p::P,w::vs,0,m,nd,h1,h2,hk=>by
  simp at h1 h2;subst h1;subst h2;show bindC kindOf ((p,w)::P.zip vs) m p=_;unfold bindC;rw[qR fun v hv=>(BI.mp nd).1 (List.of_mem_zip hv).1,A5 hk];simp
 |p::P,w::vs,i+1,m,nd,h1,h2,hk=>by
  show bindC kindOf ((p,w)::P.zip vs) m x=_;unfold bindC;exact qT (i:=i) (BI.mp nd).2 (by simpa using h1) (by simpa using h2) hk
def start (N:Qt Str) (vs:Qt V):St:=vs.map some++List.replicate (N.length-vs.length) none
def fS (CX:CXT) (P:Qp) (w:Qr) (K:W.Frag) (mg:Str->Qw NR) (base:Qv) (N:Qt Str) (KZ:Str) (scope:Scope) (f:Qo) (cd:NR) (A:Qs) (outer:Qt Env) (s:Qn) (H:Hp) (E:XK):Cx where
 prog:=P
 w:=w
 K:=K
 mg:=mg
 base:=base
 A:=A.deeper (envOfC KZ scope s.heap.objs.size f cd)
 N:=N
 s₀:=s
 H₀:=H
 env:=envOfC KZ scope s.heap.objs.size f cd
 outer:=outer
 stack:=envOfC KZ scope s.heap.objs.size f cd::outer
 ex:=[]
 calm:=true
 fn:=fun _=>true
 pn:=[]
 xe:=fun e s'=>wpAny (model P w) (A.deeper (envOfC KZ scope s.heap.objs.size f cd)) (leaving (envOfC KZ scope s.heap.objs.size f cd) e) (fun _ s''=>CX outer H s E e s'') (fun e' s''=>CX outer H s E e' s'') s'
theorem qU {sc:Scope}(h:sc.names.lookup x=some .cell):∃c,(cellsFrom n sc.names []).lookup x=some c:=by
 have q:=W.cellsFrom_some sc.names n [] (.inl h);exact Option.isSome_iff_exists.mp q
theorem yQ {f:Qo}{cd:NR}{outer:Qt Env}{s1:Qn}{E:XK}
  (S:FnScope N ps scope) (hd:A.handled=none) (e0:Env0 P w K mg base A outer s H) (hl:vs.length=ps.length) (r:au vs us)
  (x:InCallC s s.heap.objs.size (bindL (envOfC KZ scope s.heap.objs.size f cd).kindOf (ps.zip us) fun _=>none) (cellsFrom (s.heap.objs.size+1) scope.names []) (bindC (envOfC KZ scope s.heap.objs.size f cd).kindOf (ps.zip us) fun _=>none) s1):
  Inv (fS CX P w K mg base N KZ scope f cd A outer s H E) [] (start N vs) H s1:=by
 have MI:ps.length<=N.length:=by have:=BU List.length S.pre;rw[AS] at this;lia
 obtain⟨h1,tk,rfl,hk⟩:=x.done;have noA:∀b:Qo,b∉(fS CX P w K mg base N KZ scope f cd A outer s H E).ex:=fun b z=>absurd (show b∈([]:Qt Qo) from z) (by simp);refine⟨⟨e0.mod,S.kind,rfl,rfl,A' _,fun y z c h1 h2=> ?_,fun y hy=> ?_,fun y c _ h=> ?_,fun _=>hd,Around.frames_deeper e0.frames, .inr ⟨rfl,rfl⟩,fun b z=>absurd z (noA b),e0.bs,e0.bsz,fun b _ _=>noA b,fun b z=>absurd z (noA b),e0.funs,e0.frf⟩,
  rfl,e0.bare,Un.kept hk,⟨_,x.toInCall.ns,fun i y v h1 h2 h3=> ?_⟩,fun y c h=>⟨_,x.cell y c h⟩,e0.hok.fresh (A' _),fun y c h=> ?_,fun p hp=>absurd (show p∈([]:Qt (Qo×Obj)) from hp) (by simp),e0.hok.kept hk, ?_⟩
 .exact name_of_addr x.apart (C3 h1) (C3 h2)
 .have hy:scope.names.lookup y=some .cell\/scope.names.lookup y=some .free:=hy;rcases hy with hy|hy
  .exact qU hy
  .exact absurd rfl (S.nofree _ (C3 hy))
 .exact Ad (x.above y c (C3 h))
 .have hi:i<vs.length:=by
   unfold start at h2;by_cases hi:i<vs.length
   .exact hi
   .rw [BO (by simpa using hi)] at h2;rw[List.getElem?_replicate] at h2;split at h2<;>cases h2
  have ha:vs[i]? =some v:=by
   unfold start at h2;rw[Bf (by simpa using hi),AC] at h2;cases e:vs[i]? with
   |none=>rw[e] at h2;cases h2
   |some a=>rw[e] at h2;cases h2;rfl
  obtain⟨u,hu,rv⟩:=r.get ha;have hp:ps[i]? =some y:=by
   rw[<-S.pre,List.getElem?_take_of_lt (by lia)];exact h1
  have ndP:ps.Nodup:=by rw[<-S.pre];exact S.nd.sublist (List.take_sublist _ _)
  refine⟨u,rv, ?_⟩;rcases S.par y (AH hp) with k|k
  .exact .inl ⟨k,qS ndP hp hu k⟩
  .obtain⟨c,e⟩:=qU (n:=s.heap.objs.size+1) k;refine .inr ⟨.inl k,c,e, ?_⟩;have q:=x.cell y c e;rw[qT ndP hp hu (by show scope.names.lookup y≠_;rw[k];decide)] at q;exact q
 .exact e0.hok.fresh (Ad (x.above y c (C3 h)))
 .unfold start;show _=N.length;rw[AA,A1,Bk];lia
theorem yR {k:Nat}{f:Qo}{name:Str}{params:Arguments}{dV kV MB pm Lb ct oc:NR}{an od:Qw Qo}
  {OV:Array (Qw NR)}{sp:Sp} (lk:K.lookup f=some ⟨oc,od, .func (W.fnOf name KZ params body scope dV kV MB pm an Lb ct),OV⟩) (NH:W.codeIn K Lb KZ=true) (S:FnScope N ps scope)
  (len:∀vs H Q E,sp vs H Q E->vs.length=ps.length)
  (MJ:∀(A:Qs) (outer:Qt Env) (s:Qn) (H:Hp) (vs:Qt V) (Q:VK) (E:XK),Room k (A.deeper (envOfC KZ scope s.heap.objs.size f Lb))->sp vs H Q E->
   ∃t,PSs (fS CX P w K mg base N KZ scope f Lb A outer s H E) body t/\t {nx:=fun _ H'=>Q .non H',rt:=Q} (start N vs) H):
  FnOk P w K mg base CX (k+1) f (W.fnOf name KZ params body scope dV kV MB pm an Lb ct) ps sp:=by
 refine⟨len,fun A outer s H args us vs Q E hr e0 hb r OW=> ?_⟩;have hl:=len _ _ _ _ OW;have KX:K.In s.heap:=e0.mod.kin.keeps fun b o e=>(e0.bs b o e).1;have lim:s.heap.NoLimit:=e0.mod.nolimit.keeps fun b o e=>(e0.bs b o e).1;have Lx:∀y∈ps.zip us,scope.names.lookup y.1=some .local\/(scope.names.lookup y.1=some .cell/\((cellsFrom (s.heap.objs.size+1) scope.names []).lookup y.1).isSome=true):=fun⟨n,v⟩ hy=>by
  rcases S.par n (List.of_mem_zip hy).1 with q|q
  .exact .inl q
  .exact .inr ⟨q,W.cellsFrom_some _ _ _ (.inl q)⟩
 refine codeAny_call_function hr.depth (KX _ _ lk) rfl S.co S.gen rfl (W.codeRec_of KX NH) (hb _ _ _ _ ?_);refine wpAny_newFunctionEnv_cells S.kind Lx fun env he s1 x=> ?_;subst he;refine⟨lim.keeps x.toInCall.keep,codeAny_func ?_⟩;obtain⟨t,ht,hq⟩:=MJ A outer s H vs Q E (hr.deeper _) OW;have I:Inv (fS CX P w K mg base N KZ scope f Lb A outer s H E) [] (start N vs) H s1:=yQ S hr.hd e0 hl r x;refine Bv (ht [] s1 (start N vs) H _ I hq) (fun fl s' hs=> ?_) fun e s' hs=>hs;have fin:∀{σ':St}{H':Hp}{v:V}{u:NR},Inv (fS CX P w K mg base N KZ scope f Lb A outer s H E) [] σ' H' s'->aw v u->Q v H'->CE outer P w H s Q u s':=
  fun{σ' H' v u} J rv q=>⟨v,H',J.os,J.bare,J.base,J.hok,rv,q⟩
 cases fl with
 |ret u=>
  obtain⟨v,σ',H',J,rv,q⟩:=hs;exact fin J rv q
 |next=>
  obtain⟨σ',H',J,q⟩:=hs;exact fin (v:=V.non) (u:=Value.none) J rfl q
 |brk=>
  obtain⟨_,_,_,q⟩:=hs;exact False.elim q
 |cont=>
  obtain⟨_,_,_,q⟩:=hs;exact False.elim q
section
variable {X:Cx}{x:Str}{p pos:Pos}{e:Qu}{es:Qt Qu}{t:TA}{id T:String}{r:Qt V->Hp->VK->Prop}
def tCB (r:Qt V->Hp->VK->Prop) (t:TA):TE:=fun σ H Q=>t σ H fun vs H1=>r vs H1 Q
theorem bm (hc:bL X (.builtin id) r) (hg:Gl X x) (hm:X.mg x=none) (hv:bootBuiltins x=some (.builtin id)) (ha:PA X (e::es) t) (hn:x≠"__name__":=by decide) (NI:(x==("__debug__":Str))=false:=by decide)
  (he:starEach (e::es) X.env=(false,eval e X.env)::starEach es X.env:=by rfl) (MI:(backTo pos (starEach es X.env)).any (·.1)=false:=by rfl):PE X (.Call (.Name x p) (e::es) [] pos) (tCB r t):=by
 intro KO s σ H Q I h;refine Be (cQ I hg hm hv ?_ hn NI);exact DB (thn (ha pos KO s σ H _ I h) fun us s1 ⟨vs,H1,I1,r1,q1⟩=>hc KO s1 σ H1 vs us Q I1 r1 q1) he MI
theorem iJ (hc:bL X (.type T) r) (hg:Gl X x) (hm:X.mg x=none) (hv:bootBuiltins x=some (.type T)) (ha:PA X (e::es) t) (hn:x≠"__name__":=by decide) (NI:(x==("__debug__":Str))=false:=by decide)
  (he:starEach (e::es) X.env=(false,eval e X.env)::starEach es X.env:=by rfl) (MI:(backTo pos (starEach es X.env)).any (·.1)=false:=by rfl):PE X (.Call (.Name x p) (e::es) [] pos) (tCB r t):=by
 intro KO s σ H Q I h;refine Be (cQ I hg hm hv ?_ hn NI);exact B3 (thn (ha pos KO s σ H _ I h) fun us s1 ⟨vs,H1,I1,r1,q1⟩=>hc KO s1 σ H1 vs us Q I1 r1 q1) he MI
end
end L2
namespace HT
open PySem PyProof.Rows
variable {Q:NR->Qn->Prop}{hi lo:Qw Int}{sl:Qo}{vl vu:NR}
section
open PySem.SeqAt
open PySem.AutoSeq1 (wpAny_loadPart')
open PySem.MeetsSeq PySem.MeetsSeq2 PySem.MeetsSeq3
end
section
variable {prog:Qp}{w:Qr}{A:Qs}{E:NR->Qn->Prop}{s:Qn}
theorem cat_tup {t b:Qo}{vs ws:Qt NR}(ht:IsTup s.heap t vs.toArray) (hb:IsTup s.heap b ws.toArray) (hv:vs≠[])
  (h1:ws=[]->Q (.ref t) s) (h2:ws≠[]->Q (.ref s.heap.objs.size) {s with heap:=s.heap.push {cls:= .type "tuple",data:= .seq (vs++ws).toArray}})
  (hsz:vs.length+ws.length<=sizeLine):wpAny (model prog w) A (binaryOp .Add (.ref t) (.ref b)) Q E s:=by
 obtain⟨⟨cls,dd,data,sl⟩,ho,hc,n,hd⟩:=id ht;obtain⟨⟨NJ,Mg,data2,Mh⟩,LK,LO,n2,LW⟩:=id hb;simp only at hc hd LO LW;subst hc hd LO LW;have e:vs.toArray++ws.toArray=(vs++ws).toArray:=by simp
 by_cases hw:ws=[]
 .exact concat_meets ⟨_,ho,rfl⟩ ⟨_,LK,rfl⟩ noFill_tuple_add seq_tuple_add PySem.F.slot_tuple_add PySem.F.entry_tuple_add (PySem.F.args_tuple_add_2 _ _)
   (tuple_addW1 t b vs.toArray ws.toArray n n2 dd Mg sl Mh (by simpa using hv) (by simp[hw])) ⟨ho,LK,h1 hw⟩
 .refine concat_meets ⟨_,ho,rfl⟩ ⟨_,LK,rfl⟩ noFill_tuple_add seq_tuple_add PySem.F.slot_tuple_add PySem.F.entry_tuple_add (PySem.F.args_tuple_add_2 _ _)
   (tuple_addW2 t b vs.toArray ws.toArray n n2 dd Mg sl Mh (by simpa using hv) (by simpa using hw) (by rw[AJ,AJ];exact hsz)) ⟨ho,LK, ?_⟩
  rw[e];exact h2 hw
def sIx (n d:Nat):Qw Int->Nat
 |none=>d
 |some v=>if v<0 then(v+(n:Int)).toNat else min v.toNat n
def sIx_none (n d:Nat):sIx n d none=d:=rfl
theorem sIx_nat (n d k:Nat):sIx n d (some (k:Int))=min k n:=by
 show(if(k:Int)<0 then((k:Int)+(n:Int)).toNat else min (k:Int).toNat n)=min k n;rw[A5 (by lia),Az]
theorem yS (n d:Nat) (hd:d<=n) (o:Qw Int):sIx n d o<=n:=by
 cases o with
 |none=>exact hd
 |some v=>
  show(if v<0 then(v+(n:Int)).toNat else min v.toNat n)<=n;by_cases hv:v<0
  .rw [A7 hv];lia
  .rw [A5 hv];exact Nat.min_le_right _ _
theorem qV (v:Int) (n d:Nat):(if v<0 then max (v+(n:Int)) 0 else min v (n:Int))=((sIx n d (some v):Nat):Int):=by
 show(if v<0 then max (v+(n:Int)) 0 else min v (n:Int))=(((if v<0 then(v+(n:Int)).toNat else min v.toNat n):Nat):Int);by_cases hv:v<0
 .simp only[A7 hv];lia
 .simp only[A5 hv];lia
theorem yT (lo hi:Qw Int) (n:Nat):Builtin.Slice.sliceAdjust lo hi 1 (n:Int)=(((sIx n 0 lo:Nat):Int),((sIx n n hi:Nat):Int)):=by
 have h1:¬((1:Int)<0):=by lia
 unfold Builtin.Slice.sliceAdjust;simp only[h1,Ap];refine Prod.ext ?_ ?_
 .cases lo with
  |none=>rfl
  |some v=>exact qV v n 0
 .cases hi with
  |none=>rfl
  |some v=>exact qV v n n
theorem yU (i j:Nat):Builtin.Slice.slicePlaces (i:Int) (j:Int) 1=j-i:=by
 unfold Builtin.Slice.slicePlaces;have h1:(1:Int)>0:=by lia
 simp only[h1,C0,Int.ediv_one];split<;>lia
theorem qW {v:NR}{o:Qw Int}{Q:Qw Int->Qn->Prop} (p:IsPart v o) (h:Q o s):wpAny (model prog w) A (Builtin.Slice.slicePartIndex v) Q E s:=by
 cases p with
 |none=>exact slicePart_none h
 |int i t=>exact slicePart_int h
theorem qX {n:Nat}{Q:Int×Int×Nat->Qn->Prop} (hs:s.heap.IsSliceOf sl vl vu .none) (pl:IsPart vl lo) (pu:IsPart vu hi)
  (h:Q (((sIx n 0 lo:Nat):Int),1,sIx n n hi-sIx n 0 lo) s):wpAny (model prog w) A (Builtin.Slice.sliceApplied (.ref sl) (pure (n:Int))) Q E s:=by
 obtain⟨os,Pw,OX,hds⟩:=id hs;unfold Builtin.Slice.sliceApplied Builtin.Slice.sliceFields;refine A0 (A0 (Bp Pw hds (x:=vl) rfl (A0 (Bp Pw hds (x:=vu) rfl (A0 (Bp Pw hds (x:= .none) rfl (A3 ?_)))))));refine A0 (slicePart_none ?_);show wpAny _ _ (if((1:Int)==0)=true then _ else _) _ _ s;rw[A5 (by decide)];refine A0 (qW pl (A0 (qW pu (A0 (A3 ?_)))));show wpAny _ _ (match Builtin.Slice.sliceAdjust lo hi 1 (n:Int) with|(lo,hi)=>pure (lo,(1:Int),Builtin.Slice.slicePlaces lo hi 1)) _ _ s;rw[yT lo hi n];show wpAny _ _ (pure (((sIx n 0 lo:Nat):Int),(1:Int),Builtin.Slice.slicePlaces ((sIx n 0 lo:Nat):Int) ((sIx n n hi:Nat):Int) 1)) _ _ s;rw[yU];exact A3 h
theorem yV (xs:Array NR) (i k:Nat):((List.range k).filterMap fun(m:Nat)=>xs[((i:Int)+(m:Int)*1).toNat]?).toArray=((xs.toList.drop i).take k).toArray:=by
 have e:(fun(m:Nat)=>xs[((i:Int)+(m:Int)*1).toNat]?)=fun m=>xs[i+m]? :=by
  funext m
  have:((i:Int)+(m:Int)*1).toNat=i+m:=by lia
  rw[this]
 rw[e];have:=pick_run xs i k;rw[List.filterMap_map] at this;have e2:((fun x=>xs[x]?)∘fun x=>i+x)=fun m=>xs[i+m]? :=rfl;rw[e2] at this;rw[this]
theorem getItem_tuple_cut {t:Qo}{items:Array NR}(ht:IsTup s.heap t items) (hs:s.heap.IsSliceOf sl vl vu .none) (pl:IsPart vl lo) (pu:IsPart vu hi)
  (hw:¬(sIx items.size 0 lo=0/\sIx items.size items.size hi=items.size))
  (h:Q (.ref s.heap.objs.size) {s with heap:=s.heap.push {cls:= .type "tuple",data:= .seq ((items.toList.drop (sIx items.size 0 lo)).take (sIx items.size items.size hi-sIx items.size 0 lo)).toArray}})
  (hsz:items.size<=sizeLine):wpAny (model prog w) A (getItem (.ref t) (.ref sl)) Q E s:=by
 have Ng:sizeOk (.seq ((items.toList.drop (sIx items.size 0 lo)).take (sIx items.size items.size hi-sIx items.size 0 lo)).toArray):=by
  show((items.toList.drop (sIx items.size 0 lo)).take (sIx items.size items.size hi-sIx items.size 0 lo)).toArray.size<=sizeLine;rw[AJ,AS,Bs,Ao];lia
 have hj:sIx items.size items.size hi<=items.size:=yS _ _ (A' _) hi;obtain⟨os,Pw,OX,hds⟩:=id hs;have hTs:s.TypeIs (.ref sl) "slice":=⟨os,Pw,OX⟩;unfold getItem;try with_reducible refine Ar ?_
 first|refine A0 (A3 ?_)|skip
 refine A0 (wpAny_sequenceKey ht.typeIs (by decide) ?_);refine A0 (B2 (name:=Str.ofString "__getitem__") ht.typeIs BY
  (Af BY ht.typeIs entry_tuple_getitem ?_ (args_tuple_getitem _ _)))
 show wpAny _ _ (Builtin.Tuple.tupleItemsOf (.ref t)>>=_) _ _ s;refine A0 (tupleItemsOf_ ht ?_);refine A0 (Cu hTs ?_);rw[A7 (by decide)];refine A0 (qX hs pl pu ?_);have hno:¬((((sIx items.size 0 lo:Nat):Int)==0&&(1:Int)==1&&(sIx items.size items.size hi-sIx items.size 0 lo)==items.size)=true):=by
  intro q;rw[AN,AN] at q;have q1:((sIx items.size 0 lo:Nat):Int)=0:=eq_of_beq q.1.1;have q2:sIx items.size items.size hi-sIx items.size 0 lo=items.size:=eq_of_beq q.2;exact hw ⟨by lia,by lia⟩
 show wpAny _ _ (if(((sIx items.size 0 lo:Nat):Int)==0&&(1:Int)==1&&(sIx items.size items.size hi-sIx items.size 0 lo)==items.size)=true then _ else _) _ _ s;rw[A5 hno,yV];first
  |exact A0 (m:=Builtin.Tuple.tupleExact _) (Am (A3 ⟨_,rfl,A3 h⟩) Ng)
  |exact A0 (m:=Builtin.Tuple.tupleExact _) (Am (A0 (A3 (A3 ⟨_,rfl,A3 h⟩))) Ng)
  |exact A0 (A0 (m:=Builtin.Tuple.tupleExact _) (Am (A3 (A3 ⟨_,rfl,A3 h⟩)) Ng))
  |exact A0 (A0 (m:=Builtin.Tuple.tupleExact _) (Am (A3 ⟨_,rfl,A3 h⟩) Ng))
end
end HT
namespace L2
open PySem PySem.Spec PyProof.Rows
variable {H:Hp}{KO:Qt (Qo×Obj)}{i:Int}{j n:Nat}{s:Qn}{xs:Qt V}
abbrev TO:=St->Hp->(Qw Int->Hp->Prop)->Prop
def PO (X:Cx) (e:Qw Qu) (t:TO):Prop:=
 ∀(KO:Qt (Qo×Obj)) (s:Qn) (σ:St) (H:Hp) (Q:Qw Int->Hp->Prop),Inv X KO σ H s->t σ H Q->
  wpAny (model X.prog X.w) X.A (evalPart e X.env) (fun u s'=>∃o H',Inv X KO σ H' s'/\IsPart u o/\Q o H') X.xe s
def yW:TO:=fun _ H Q=>Q none H
inductive tPart_ (Q:(Option Int->Hp->Prop)) (x:V) (H1:Hp):Prop
 |mk i:x= .int i->Q (some i) H1->tPart_ Q x H1
def yX (t:TE):TO:=fun σ H Q=>t σ H fun x H1=>tPart_ Q x H1
theorem lO {ns:Qt Int}:∀{us:Qt NR},au (ns.map V.int) us->IntsAre us ns:=by
 induction ns with
 |nil=>intro us r;rw[List.map_nil] at r;cases r;exact .nil
 |cons n ns ih=>
  intro us r;rw[AE] at r;cases r with
  |cons r1 r2=>
   obtain⟨t,e⟩:=r1;subst e;exact .cons n t (ih r2)
section
variable {X:Cx}{e:Qu}{te:TE}{lo hi:Qw Qu}{tl th:TO}{pos p2:Pos}
theorem eT:PO X none yW:=by
 intro KO s σ H Q I h;rw[evalPart_none];exact A3 ⟨none,H,I, .none,h⟩
theorem dN (h:PE X e te):PO X (some e) (yX te):=by
 intro KO s σ H Q I hw;rw[evalPart_some];refine thn (h KO s σ H _ I hw) fun u s1 ⟨x,H1,I1,r1,q1⟩=> ?_;obtain⟨i,rfl,q⟩:=q1;obtain⟨t,rfl⟩:=r1;exact⟨some i,H1,I1, .int i t,q⟩
def SlR (X:Cx) (r:V->Qw Int->Qw Int->Hp->VK->Prop):Prop:=
 ∀(KO:Qt (Qo×Obj)) (s:Qn) (σ:St) (H:Hp) (x:V) (v vl vu:NR) (lo hi:Qw Int) (sl:Qo) (Q:VK),Inv X KO σ H s->aw x v->s.heap.IsSliceOf sl vl vu .none->IsPart vl lo->IsPart vu hi->r x lo hi H Q->
  ∃T id,typeLookup (.type T) "__getitem__"=pure (some (.builtin id))/\s.TypeIs v T/\wpAny (model X.prog X.w) X.A (getItem v (.ref sl)) (EP X KO σ Q) X.xe s
def tSl (r:V->Qw Int->Qw Int->Hp->VK->Prop) (te:TE) (tl th:TO):TE:=fun σ H Q=>te σ H fun x H1=>tl σ H1 fun l H2=>th σ H2 fun u H3=>r x l u H3 Q
theorem dZ {r:V->Qw Int->Qw Int->Hp->VK->Prop} (hr:SlR X r) (he:PE X e te) (hl:PO X lo tl) (hu:PO X hi th):PE X (.Subscript e (.Slice lo hi none p2) pos) (tSl r te tl th):=by
 intro KO s σ H Q I h;refine Subscript_ (thn (he KO s σ H _ I h) fun v s1 ⟨x,H1,I1,r1,q1⟩=> ?_);refine wpAny_Slice (thn (hl KO s1 σ H1 _ I1 q1) fun vl s2 ⟨l,H2,I2,pl,q2⟩=>thn (hu KO s2 σ H2 _ I2 q2) fun vu s3 ⟨u,H3,I3,pu,q3⟩=> ?_);rw[evalPart_none];refine A3 ?_;have I4:Inv X KO σ H3 {s3 with heap:=s3.heap.push {cls:= .type "slice",data:= .fields #[vl,vu, .none]}}:=I3.kept (t':=s3.toks) fun b ob q=>A4 _ q;obtain⟨T,id,hT,ht,hg⟩:=hr KO {s3 with heap:=s3.heap.push {cls:= .type "slice",data:= .fields #[vl,vu, .none]}} σ H3 x v vl vu l u s3.heap.objs.size Q I4 r1 (Heap.IsSliceOf.new ..) pl pu q3;show wpAny (model X.prog X.w) X.A (subscriptTail e (.Slice lo hi none p2) v (.ref s3.heap.objs.size)) (EP X KO σ Q) X.xe {s3 with heap:=s3.heap.push {cls:= .type "slice",data:= .fields #[vl,vu, .none]}};exact tail_any (ops:=[.ref s3.heap.objs.size,v]) ht hT hg (by with_unfolding_all rfl)
def cc (xs:Qt V) (lo hi:Qw Int):Qt V:=(xs.drop (HT.sIx xs.length 0 lo)).take (HT.sIx xs.length xs.length hi-HT.sIx xs.length 0 lo)
theorem qY (xs:Qt V) (lo hi:Qw Int):(cc xs lo hi).length<=xs.length:=by
 unfold cc;rw[AS,Bs];lia
inductive rSlT (K:W.Frag) (x:V) (lo:Option Int) (hi:Option Int) (H:Hp) (Q:VK):Prop
 |mk a xs:x= .ref a->SqT K H a xs->¬(HT.sIx xs.length 0 lo=0/\HT.sIx xs.length xs.length hi=xs.length)->(∀p,H p=none->Q (.ref p) (upd H p (.tup (cc xs lo hi))))->rSlT K x lo hi H Q
theorem yY:SlR X (rSlT X.K):=by
 intro KO s σ H x v vl vu lo hi sl Q I rx hs pl pu h;obtain⟨a,xs,rfl,hx,hw,q⟩:=h;cases rx;obtain⟨KQ,r,ht,hz⟩:=I.tuple hx;have KS:KQ.toArray.size=xs.length:=by rw[AJ];exact r.length.symm
 refine⟨"tuple",_,BY.lookup,ht.typeIs, ?_⟩;refine HT.getItem_tuple_cut ht hs pl pu (by rw[KS];exact hw) ?_ (by rw[KS];exact hz);rw[KS];refine⟨.ref s.heap.objs.size,_,I.laid (t':=s.toks) (o:= .tup (cc xs lo hi)) (fun b ob q=>A4 _ q) (A' _) ?_,rfl,q _ (I.hok.fresh (A' _))⟩;exact⟨B9 (qY xs lo hi) hz,_,(r.drop (HT.sIx xs.length 0 lo)).take (HT.sIx xs.length xs.length hi-HT.sIx xs.length 0 lo),IsTup.new _ _⟩
inductive rCatT (K:W.Frag) (x:V) (y:V) (H:Hp) (Q:VK):Prop
 |mk a b xs ys:x= .ref a->y= .ref b->SqT K H a xs->SqT K H b ys->xs≠[]->xs.length+ys.length<=sizeLine->((ys=[]->Q (.ref a) H))->((ys≠[]->∀p,H p=none->Q (.ref p) (upd H p (.tup (xs++ys)))))->rCatT K x y H Q
theorem au.nil_iff {us:Qt NR} (r:au xs us):us=[]↔xs=[]:=by
 cases r with
 |nil=>simp
 |cons _ _=>simp
theorem yZ:OpR X (binaryOp .Add) (rCatT X.K):=by
 intro KO s σ H x y v u Q I rx ry h;obtain⟨a,b,xs,ys,rfl,rfl,ha,hb,hx,hz,q1,q2⟩:=h;cases rx;cases ry;obtain⟨KQ,r1,p1,_⟩:=I.tuple ha;obtain⟨Mq,r2,p2,_⟩:=I.tuple hb;refine HT.cat_tup p1 p2 (fun z=>hx (r1.nil_iff.mp z)) (fun z=>⟨.ref a,H,I,rfl,q1 (r2.nil_iff.mp z)⟩) (fun z=> ?_) (by rw[<-r1.length,<-r2.length];exact hz);refine⟨.ref s.heap.objs.size,_,I.laid (t':=s.toks) (o:= .tup (xs++ys)) (fun b ob q=>A4 _ q) (A' _) ?_,rfl,q2 (fun w=>z (r2.nil_iff.mpr w)) _ (I.hok.fresh (A' _))⟩;exact⟨by rw[AA];exact hz,_,r1.append r2,IsTup.new _ _⟩
end
def ixN (n:Nat) (i:Int):Qw Nat:=if 0<=i then(if i<n then some i.toNat else none) else if -(n:Int)<=i then some (i+n).toNat else none
def atI {α:Type} (xs:Qt α) (i:Int):Qw α:=(ixN xs.length i).bind fun j=>xs[j]?
theorem qZ (h:ixN n i=some j):seqIndex? i n=some j/\j<n/\-(n:Int)<=i/\i<n:=by
 unfold ixN at h;by_cases h0:0<=i
 .rw [A7 h0] at h;by_cases h1:i<n
  .rw [A7 h1] at h;have e:i.toNat=j:=Ac h;exact⟨by rw[seqIndex_of h0 h1,e],by lia,by lia,h1⟩
  .rw [A5 h1] at h;cases h
 .rw [A5 h0] at h;by_cases h1: -(n:Int)<=i
  .rw [A7 h1] at h;have e:(i+n).toNat=j:=Ac h;exact⟨by rw[seqIndex_neg (by lia) h1,e],by lia,h1,by lia⟩
  .rw [A5 h1] at h;cases h
theorem rc {α:Type}{xs:Qt α}{v:α} (h:atI xs i=some v):∃j,seqIndex? i xs.length=some j/\xs[j]? =some v/\j<xs.length/\-(xs.length:Int)<=i/\i<xs.length:=by
 unfold atI at h;cases e:ixN xs.length i with
 |none=>rw[e] at h;cases h
 |some j=>
  rw[e] at h;obtain⟨h1,h2,h3,h4⟩:=qZ e;exact⟨j,h1,h,h2,h3,h4⟩
theorem lP {α:Type}{xs:Qt α}{v:α} (h:xs[j]? =some v):atI xs (j:Int)=some v:=by
 have hj:j<xs.length:=(A8.mp h).1;have e:ixN xs.length (j:Int)=some j:=by
  unfold ixN;rw[A7 (by lia),A7 (by lia)];simp
 unfold atI;rw[e];exact h
def y4 (b:Qu):Prop:=∀o i,subscripted b false o i=operate [o,i] (getItem o i)
def IxR (X:Cx) (r:R2):Prop:=
 ∀(value K':Qu) (KO:Qt (Qo×Obj)) (s:Qn) (σ:St) (H:Hp) (x y:V) (v u:NR) (Q:VK),Inv X KO σ H s->aw x v->aw y u->r x y H Q->
  subscripted K' false v u=operate [v,u] (getItem v u)->wpAny (model X.prog X.w) X.A (subscriptTail value K' v u) (EP X KO σ Q) X.xe s
def MtR (X:Cx) (id:String) (r:V->Qt V->Hp->VK->Prop):Prop:=
 ∀(KO:Qt (Qo×Obj)) (s:Qn) (σ:St) (H:Hp) (x:V) (xs:Qt V) (v:NR) (us:Qt NR) (Q:VK),Inv X KO σ H s->aw x v->au xs us->r x xs H Q->
  wpAny (model X.prog X.w) X.A (call (.builtin id) (v::us)) (EP X KO σ Q) X.xe s
section
variable {X:Cx}{a b:Qu}{ta tb:TE}{pos:Pos}
theorem ax {r:R2} (hr:IxR X r) (ha:PE X a ta) (hb:PE X b tb) (hs:y4 b):PE X (.Subscript a b pos) (tOp r ta tb):=by
 intro KO s σ H Q I h;exact Subscript_ (lK ha hb I h fun v u s2 x y H2 I2 rx ry q=>hr a b KO s2 σ H2 x y v u Q I2 rx ry q (hs _ _))
inductive rIxL (K:W.Frag) (x:V) (y:V) (H:Hp) (Q:VK):Prop
 |mk p xs i v:x= .ref p->y= .int i->SqL K H p xs->atI xs i=some v->Q v H->rIxL K x y H Q
inductive rIxT (K:W.Frag) (x:V) (y:V) (H:Hp) (Q:VK):Prop
 |mk p xs i v:x= .ref p->y= .int i->SqT K H p xs->atI xs i=some v->Q v H->rIxT K x y H Q
theorem ee:IxR X (rIxL X.K):=by
 intro value K' KO s σ H x y v u Q I rx ry h hs;obtain⟨p,xs,i,z,rfl,rfl,hq,he,q⟩:=h;cases rx;obtain⟨t,rfl⟩:=ry;obtain⟨KQ,r,pl,hz⟩:=I.list hq;obtain⟨j,h1,h2,h3,h4,h5⟩:=rc he;obtain⟨w,ew,Mr⟩:=r.get h2;have hl:=r.length;have hn:=fQ;have fin:EP X KO σ Q w s:=⟨z,H,I,Mr,q⟩;by_cases h0:0<=i
 .have hj:i.toNat=j:=by
   rw[seqIndex_of h0 h5] at h1;exact Ac h1
  exact item_listR pl.isList h0 (by lia) (by rw[hj];simpa using ew) fin hs
 .have hj:(i+(KQ.toArray.size:Int)).toNat=j:=by
   rw[seqIndex_neg (by lia) h4] at h1;rw[AJ,<-hl];exact Ac h1
  exact subscriptTail_builtinR (x:=w) pl.isList.typeIs slot_list_getitem.lookup
   (wpAny_getItem_list_neg (Q:=fun r s'=>r=w/\EP X KO σ Q r s') pl.isList (by lia) (by rw[AJ]<;>lia) (by lia) (by rw[hj];simpa using ew) ⟨rfl,fin⟩) hs
theorem y6:IxR X (rIxT X.K):=by
 intro value K' KO s σ H x y v u Q I rx ry h hs;obtain⟨p,xs,i,z,rfl,rfl,hq,he,q⟩:=h;cases rx;obtain⟨t,rfl⟩:=ry;obtain⟨KQ,r,pl,hz⟩:=I.tuple hq;obtain⟨j,h1,h2,h3,h4,h5⟩:=rc he;obtain⟨w,ew,Mr⟩:=r.get h2;have hl:=r.length;have hn:=fQ;have fin:EP X KO σ Q w s:=⟨z,H,I,Mr,q⟩;exact subscriptTail_builtinR (x:=w) pl.typeIs slot_tuple_getitem.lookup
  (getItem_tuple (j:=j) (Q:=fun r s'=>r=w/\EP X KO σ Q r s') pl (by lia) (by lia) (by rw[AJ,<-hl];exact h1) (by simpa using ew) ⟨rfl,fin⟩) hs
theorem y7 (KQ:Qt NR) (n j:Nat) (u:NR):Obj.mapSeq (·.setIfInBounds j u) {cls:= .type "list",data:= .seq KQ.toArray n}={cls:= .type "list",data:= .seq (KQ.set j u).toArray n}:=by
 simp[Obj.mapSeq]
theorem Inv.lst {KO:Qt (Qo×Obj)}{σ:St}{H:Hp}{s:Qn}{p:Qo}{xs:Qt V} (I:Inv X KO σ H s) (h:H p=some (.lst xs)):
  ∃(KQ:Qt NR) (n:Nat),au xs KQ/\s.heap.get? p=some {cls:= .type "list",data:= .seq KQ.toArray n}/\xs.length<=sizeLine:=by
 obtain⟨z,KQ,n,r,e⟩:=I.hok p _ h;exact⟨KQ,n,r,e,z⟩
theorem Inv.lstUpd {σ:St}{p:Qo}{ys:Qt V}{KQ its':Qt NR}{n n':Nat}{f:Obj->Obj} (I:Inv X KO σ H s) (h:H p=some (.lst xs))
  (ho:s.heap.get? p=some {cls:= .type "list",data:= .seq KQ.toArray n}) (hf:f {cls:= .type "list",data:= .seq KQ.toArray n}={cls:= .type "list",data:= .seq its'.toArray n'}) (r:au ys its') (hz:ys.length<=sizeLine) (t:Nat):
  Inv X KO σ (upd H p (.lst ys)) {s with heap:=s.heap.update p f,toks:=t}:=by
 have e:(s.heap.update p f).get? p=some {cls:= .type "list",data:= .seq its'.toArray n'}:=by
  rw[B4 f ho (by rw[hf]<;>rfl),hf]
 refine I.write (x:=p) (e:=p) (by rw[h];trivial) (.inl rfl) (fun b u hb q=>(AX _ _ (BG hb)).trans q) ⟨_,e⟩ ?_;exact⟨hz,its',n',r,e⟩
inductive rSetL (o:V) (i:V) (v:V) (H:Hp) (Q:(Hp->Prop)):Prop
 |mk p xs k j:o= .ref p->i= .int k->H p=some (.lst xs)->ixN xs.length k=some j->Q (upd H p (.lst (xs.set j v)))->rSetL o i v H Q
theorem lQ:lJ X rSetL:=by
 intro KO s σ H o i v ov iv u Q I ro ri rv h;obtain⟨p,xs,k,j,rfl,rfl,hp,hj,q⟩:=h;cases ro;obtain⟨t,rfl⟩:=ri;obtain⟨KQ,n,r,ho,hz⟩:=I.lst hp;obtain⟨h1,h2,h3,h4⟩:=qZ hj;have hl:=r.length;have hn:=fQ;have I':Inv X KO σ (upd H p (.lst (xs.set j v))) {s with heap:=s.heap.update p (Obj.mapSeq (·.setIfInBounds j u))}:=
  I.lstUpd hp ho (y7 KQ n j u) (r.set rv j) (by rw[C1];exact hz) s.toks
 by_cases h0:0<=k
 .have hk:k.toNat=j:=by
   rw[seqIndex_of h0 h4] at h1;exact Ac h1
  exact W.ki_setAt ho h0 (by lia) (by rw[AJ,<-hl];exact h4) (by rw[hk];exact⟨_,I',q⟩)
 .have hk:(k+(KQ.toArray.size:Int)).toNat=j:=by
   rw[seqIndex_neg (by lia) h3] at h1;rw[AJ,<-hl];exact Ac h1
  exact W.ki_setBack ho (by lia) (by rw[AJ,<-hl];exact h3) (by lia) (by rw[hk];exact⟨_,I',q⟩)
theorem y8 (lo hi:Qw Int) (n:Nat):(sliceBounds lo hi none n).1=((HT.sIx n 0 lo:Nat):Int)/\(sliceBounds lo hi none n).2.1=((HT.sIx n n hi:Nat):Int)/\(sliceBounds lo hi none n).2.2=1:=by
 refine⟨?_, ?_,rfl⟩
 .cases lo with
  |none=>simp[sliceBounds,HT.sIx]
  |some i=>
   simp only[sliceBounds,HT.sIx,Option.getD_none,show(1:Int)>0 by decide,C0];by_cases h:i<0
   .simp only[h,C0]<;>lia
   .simp only[h,Ap]<;>lia
 .cases hi with
  |none=>simp[sliceBounds,HT.sIx]
  |some i=>
   simp only[sliceBounds,HT.sIx,Option.getD_none,show(1:Int)>0 by decide,C0];by_cases h:i<0
   .simp only[h,C0]<;>lia
   .simp only[h,Ap]<;>lia
theorem y9 (KQ:Qt NR) (lo hi:Qw Int):slicePick KQ.toArray lo hi none=((KQ.drop (HT.sIx KQ.length 0 lo)).take (HT.sIx KQ.length KQ.length hi-HT.sIx KQ.length 0 lo)).toArray:=by
 obtain⟨h1,h2,h3⟩:=y8 lo hi KQ.toArray.size;unfold slicePick;rw[h1,h2,h3];simp only[sliceRange_one,pick_run,AJ]<;>rfl
inductive rSlL (K:W.Frag) (x:V) (lo:Option Int) (hi:Option Int) (H:Hp) (Q:VK):Prop
 |mk a xs:x= .ref a->SqL K H a xs->(∀p,H p=none->Q (.ref p) (upd H p (.lst (cc xs lo hi))))->rSlL K x lo hi H Q
theorem fw:SlR X (rSlL X.K):=by
 intro KO s σ H x v vl vu lo hi sl Q I rx hs pl pu h;obtain⟨a,xs,rfl,hx,q⟩:=h;cases rx;obtain⟨KQ,r,ht,hz⟩:=I.list hx;have KS:=r.length;refine⟨"list",_,slot_list_getitem.lookup,ht.isList.typeIs, ?_⟩;refine wpAny_getItem_list_slice ht.isList hs pl pu .none (by simp) ?_ (by rw[AJ]<;>lia)
 rw[y9,<-KS];refine⟨.ref s.heap.objs.size,_,I.laid (t':=s.toks) (o:= .lst (cc xs lo hi)) (fun b ob q=>A4 _ q) (A' _) ?_,rfl,q _ (I.hok.fresh (A' _))⟩;exact⟨B9 (qY xs lo hi) hz,_,0,(r.drop (HT.sIx xs.length 0 lo)).take (HT.sIx xs.length xs.length hi-HT.sIx xs.length 0 lo),AB _ rfl⟩
theorem iK:bL X (.builtin "len") (fun xs H Q=>∃p ys,xs=[.ref p]/\(SqL X.K H p ys\/SqT X.K H p ys)/\Q (.int ys.length) H):=by
 intro KO s σ H xs us Q I r h;obtain⟨p,ys,rfl,hq,q⟩:=h;obtain⟨u,rfl,rx⟩:=dM r;cases rx;have hn:=fQ;rcases hq with hq|hq
 .obtain⟨KQ,r',pl,hz⟩:=I.list hq;have KS:=r'.length;exact Calls.call_len_list pl.isList (by simp only[AJ]<;>lia) ⟨.int ys.length,H,I.tok _,⟨s.toks+1,by rw[AJ,KS]⟩,q⟩
 .obtain⟨KQ,r',pl,hz⟩:=I.tuple hq;have KS:=r'.length;exact len_tuple pl (by simp only[AJ]<;>lia) ⟨.int ys.length,H,I.tok _,⟨s.toks+1,by rw[AJ,KS]⟩,q⟩
theorem zc:bL X (.type "list") (fun xs H Q=>∃p ys,xs=[.ref p]/\(SqL X.K H p ys\/SqT X.K H p ys)/\∀l,H l=none->Q (.ref l) (upd H l (.lst ys))):=by
 intro KO s σ H xs us Q I r h;obtain⟨p,ys,rfl,hq,q⟩:=h;obtain⟨u,rfl,rx⟩:=dM r;cases rx;have fin:∀(KQ:Qt NR),au ys KQ->ys.length<=sizeLine->∀(h':Qv) (c':Nat),(∀b o',s.heap.get? b=some o'->h'.get? b=some o')->
   h'.get? s.heap.objs.size=some {cls:= .type "list",dict:=none,data:= .seq KQ.toArray c',slots:= #[]}->EP X KO σ Q (.ref s.heap.objs.size) {s with heap:=h'}:=fun KQ r' hz h' c' kp e=>
  ⟨.ref s.heap.objs.size,_,I.laid (t':=s.toks) kp (A' _) (show aD X.prog X.w _ h' _ (.lst ys) from⟨hz,KQ,c',r',e⟩),rfl,q _ (I.hok.fresh (A' _))⟩
 rcases hq with hq|hq
 .obtain⟨KQ,r',pl,hz⟩:=I.list hq;have KS:=r'.length;obtain⟨o,ho,hc,n,hd⟩:=pl.isList;exact call_list_seq p (.inl rfl) ho hc hd (fun h' c' kp e=>fin KQ r' hz h' c' kp e) (by simp only[AJ]<;>lia)
 .obtain⟨KQ,r',pl,hz⟩:=I.tuple hq;have KS:=r'.length;obtain⟨o,ho,hc,n,hd⟩:=pl;exact call_list_seq p (.inr rfl) ho hc hd (fun h' c' kp e=>fin KQ r' hz h' c' kp e) (by simp only[AJ]<;>lia)
theorem zd:bL X (.type "tuple") (fun xs H Q=>∃p ys,xs=[.ref p]/\((SqL X.K H p ys/\∀l,H l=none->Q (.ref l) (upd H l (.tup ys)))\/(SqT X.K H p ys/\Q (.ref p) H))):=by
 intro KO s σ H xs us Q I r h;obtain⟨p,ys,rfl,h⟩:=h;obtain⟨u,rfl,rx⟩:=dM r;cases rx;rcases h with⟨hq,q⟩|⟨hq,q⟩
 .obtain⟨KQ,r',pl,hz⟩:=I.list hq;have KS:=r'.length;refine call_tuple_list pl.isList (fun h' kp=> ?_) (by simp only[AJ]<;>lia)
  have I1:Inv X KO σ H {s with heap:=h'}:=I.kept (t':=s.toks) kp;have I2:Inv X KO σ (upd H h'.objs.size (.tup ys)) {s with heap:=h'.push {cls:= .type "tuple",data:= .seq KQ.toArray}}:=
   I1.laid (t':=s.toks) (fun b o e=>A4 _ e) (A' _) (show aD X.prog X.w _ _ _ (.tup ys) from⟨hz,KQ,r',IsTup.new _ _⟩)
  exact⟨.ref h'.objs.size,_,I2,rfl,q _ (I1.hok.fresh (A' _))⟩
 .obtain⟨KQ,r',pl,hz⟩:=I.tuple hq;exact call_tuple_same pl ⟨.ref p,H,I,rfl,q⟩
def tyV (K:W.Frag) (T:String) (x:V) (H:Hp):Prop:=match x with
 | .str _=>T="str"
 | .int _=>T="int"
 | .ref p=>(T="list"/\∃xs,SqL K H p xs)\/(T="tuple"/\∃o,K.lookup p=some o/\o.cls= .type "tuple"/\o.dict=none)\/
   (T="dict"/\((∃kvs,H p=some (.dK kvs))\/∃kvs,H p=some (.dT kvs)))\/(T="set"/\∃S n,H p=some (.set S n))
 |_=>False
theorem ze {σ:St}{T:String}{x:V}{v:NR} (I:Inv X KO σ H s) (r:aw x v) (ty:tyV X.K T x H):
  s.TypeIs v T/\∀a,v= .ref a->∃ob,s.heap.get? a=some ob/\ob.dict=none:=by
 cases x with
 |str z=>
  obtain⟨t,rfl⟩:=r;cases (show T="str" from ty);exact⟨typeIs_str s z t,fun _ e=>nomatch e⟩
 |int i=>
  obtain⟨t,rfl⟩:=r;cases (show T="int" from ty);exact⟨typeIs_int s i t,fun _ e=>nomatch e⟩
 |ref p=>
  cases r;rcases ty with⟨rfl,xs,hq⟩|⟨rfl,o,hk,hc,hd⟩|⟨rfl,hk⟩|⟨rfl,S,n,hk⟩
  .obtain⟨KQ,_,pl,_⟩:=I.list hq;refine⟨pl.isList.typeIs,fun a e=> ?_⟩;cases e;obtain⟨o,n,e,c,hd,_⟩:=pl;exact⟨o,e,hd⟩
  .refine⟨⟨o,I.kIn p o hk,hc⟩,fun a e=> ?_⟩;cases e;exact⟨o,I.kIn _ o hk,hd⟩
  .have z:∃o,s.heap.get? p=some o/\o.ExactDict:=by
    rcases hk with⟨kvs,hk⟩|⟨kvs,hk⟩
    .obtain⟨_,_,_,_,o,_,_,e,ex,_⟩:=I.hok p _ hk;exact⟨o,e,ex⟩
    .obtain⟨_,_,_,_,o,_,_,e,ex,_⟩:=I.hok p _ hk;exact⟨o,e,ex⟩
   obtain⟨o,e,ex⟩:=z;refine⟨⟨o,e,ex.1⟩,fun a e2=> ?_⟩;cases e2;exact⟨o,e,ex.2.1⟩
  .obtain⟨o,_,_,_,e,ex,_⟩:=I.hok p _ hk;refine⟨⟨o,e,ex.1⟩,fun a e2=> ?_⟩;cases e2;exact⟨o,e,ex.2.1⟩
 |_=>exact False.elim ty
def tBM (K:W.Frag) (T:String) (r:V->Qt V->Hp->VK->Prop) (to:TE) (t:TA):TE:=fun σ H Q=>to σ H fun x H1=>tyV K T x H1/\t σ H1 fun xs H2=>r x xs H2 Q
variable {o e:Qu}{es:Qt Qu}{to:TE}{t:TA}{name:Str}{Li K3:Pos}{T id:String}{r:V->Qt V->Hp->VK->Prop}
theorem bG (pa:PlainAttrs T) (slot:Slot T name id) (hty:typeOf (.builtin id)=pure (.type "method_descriptor")) (hm:MtR X id r) (ho:PE X o to) (ha:PA X (e::es) t)
  (NK:attributeBase o name X.env (eval o X.env)=eval o X.env:=by rfl)
  (hfew:((backTo K3 (starEach (e::es) X.env)).all (fun x=> !x.1)&&(backToKw K3 (keywordEach [] X.env)).all (fun x=>x.1.isSome)
   &&decide ((e::es).length+([]:Qt Keyword).length+(if([]:Qt Keyword).isEmpty then 0 else 1)<30))=true:=by rfl)
  (NL:(Li.endLine==K3.line)=true:=by rfl) (hs:starEach (e::es) X.env=(false,eval e X.env)::starEach es X.env:=by rfl) (Px:(backTo K3 (starEach es X.env)).any (·.1)=false:=by rfl):
  PE X (.Call (.Attribute o name Li) (e::es) [] K3) (tBM X.K T r to t):=by
 intro KO s σ H Q I h;refine wpAny_Call_method_late NK hfew NL rfl (thn (ho KO s σ H _ I h) fun v s1 ⟨x,H1,I1,r1,ty,q1⟩=> ?_);obtain⟨h1,h2⟩:=ze I1 r1 ty;refine⟨T,id,pa,slot,hty,h1,h2, ?_⟩;have hA:=ha K3 KO s1 σ H1 _ I1 q1;rw[hs] at hA⊢;refine Calls.callWith_builtin (by show(false||(backTo K3 (starEach es X.env)).any (·.1))=false;rw[Px]<;>rfl) (Calls.evalArgs_plain ?_)
 exact thn hA fun us s2 ⟨vs,H2,I2,r2,q2⟩=>hm KO s2 σ H2 x vs v us Q I2 r1 r2 q2
end
def MtM (X:Cx) (id:String) (r:V->Qt V->Hp->VK->Prop):Prop:=
 ∀(KO:Qt (Qo×Obj)) (s:Qn) (σ:St) (H:Hp) (x:V) (xs:Qt V) (v:NR) (us:Qt NR) (Q:VK),Inv X KO σ H s->aw x v->au xs us->r x xs H Q->
  wpAny (model X.prog X.w) X.A (call (.builtin id) (v::us)) (EP X KO σ Q) X.xe s
def au.one:∀{x:V}{us:Qt NR},au [x] us->∃u,us=[u]/\aw x u
 |_,_, .cons r .nil=>⟨_,rfl,r⟩
theorem au.rep {xs:Qt V}{us:Qt NR} (h:au xs us):∀k:Nat,au (List.replicate k xs).flatten (List.replicate k us).flatten
 |0=> .nil
 |k+1=>by
  rw[Bh,Bh,D6,D6];exact au.append h (au.rep h k)
theorem rg (KQ:Qt NR):∀(k:Nat) (acc:Qt NR),
  List.foldl (fun x1 x2=>x1++x2) acc.toArray (List.replicate k KQ.toArray)=(acc++(List.replicate k KQ).flatten).toArray
 |0,acc=>by simp
 |k+1,acc=>by
  have e:acc.toArray++KQ.toArray=(acc++KQ).toArray:=by simp
  have e2:(acc++KQ)++(List.replicate k KQ).flatten=acc++(List.replicate (k+1) KQ).flatten:=by
   rw[Bh,D6,BP]
  rw[<-e2,<-rg KQ k (acc++KQ),<-e,Bh,Cs]
section
variable {X:Cx}{KO:Qt (Qo×Obj)}{σ:St}{H:Hp}{s:Qn}{l b:Qo}{xs ys zs:Qt V}
theorem Inv.lset {KQ its':Qt NR}{n:Nat}{f:Array NR->Array NR}{t':Nat} (I:Inv X KO σ H s) (hH:H l=some (.lst xs))
  (e:s.heap.get? l=some {cls:= .type "list",data:= .seq KQ.toArray n}) (hf:f KQ.toArray=its'.toArray) (hv:au ys its') (hz:ys.length<=sizeLine):
  Inv X KO σ (upd H l (.lst ys)) {s with heap:=s.heap.update l (Obj.mapSeq f),toks:=t'}:=by
 have q:=PySem.IsL.update e f;rw[hf] at q;refine I.write (x:=l) (e:=l) (by rw[hH];exact trivial) (.inl rfl) (fun b' u hb hu=>(AX s.heap (Obj.mapSeq f) (BG hb)).trans hu) ⟨_,q⟩ ?_;exact⟨hz,its',_,hv,q⟩
def Inv.lnew {KQ:Qt NR}{t':Nat} (I:Inv X KO σ H s) (hv:au ys KQ) (hz:ys.length<=sizeLine):
  Inv X KO σ (upd H s.heap.objs.size (.lst ys)) {s with heap:=s.heap.push {cls:= .type "list",data:= .seq KQ.toArray},toks:=t'}:=
 I.laid (fun _ _ q=>A4 _ q) (A' _) ⟨hz,KQ,0,hv,AB _ rfl⟩
theorem Inv.fresh (I:Inv X KO σ H s):H s.heap.objs.size=none:=I.hok.fresh (A' _)
theorem Inv.lstM (I:Inv X KO σ H s) (hH:H l=some (.lst xs)):xs.length<=sizeLine/\∃(KQ:Qt NR) (n:Nat),au xs KQ/\xs.length=KQ.length/\s.heap.get? l=some {cls:= .type "list",data:= .seq KQ.toArray n}:=by
 obtain⟨z,KQ,n,r,e⟩:=I.hok l _ hH;exact⟨z,KQ,n,r,r.length,e⟩
theorem rh (h:n<=sizeLine):Builtin.List.listTooLong n=false:=by
 unfold Builtin.List.listTooLong;exact Ae (by lia)
end
section
variable {X:Cx}
inductive rAppend (x:V) (vs:List V) (H:Hp) (Q:VK):Prop
 |mk l xs y:x= .ref l->vs=[y]->H l=some (.lst xs)->xs.length<sizeLine->Q .non (upd H l (.lst (xs++[y])))->rAppend x vs H Q
theorem ck:MtM X "list.append" rAppend:=by
 intro KO s σ H x vs v us Q I rx rv h;obtain⟨l,xs,y,rfl,rfl,hH,hz,q⟩:=h;cases rx;obtain⟨u,rfl,ru⟩:=rv.one;obtain⟨z,KQ,n,r,hl,e⟩:=I.lstM hH;refine call_meets F.slot_list_append ⟨_,e,rfl⟩ F.entry_list_append (F.args_list_append_2 _ _) (PySem.list_append l KQ.toArray n u (by rw[AJ];lia)) ⟨e, ?_⟩;refine⟨.non,_,I.lset (its':=KQ++[u]) hH e (by simp) (r.append (.cons ru .nil)) ?_,rfl,q⟩;rw[AA,DA];lia
inductive rExtend (x:V) (vs:List V) (H:Hp) (Q:VK):Prop
 |mk l b xs zs:x= .ref l->vs=[.ref b]->H l=some (.lst xs)->H b=some (.lst zs)->xs.length+zs.length<=sizeLine->Q .non (upd H l (.lst (xs++zs)))->rExtend x vs H Q
theorem iL:MtM X "list.extend" rExtend:=by
 intro KO s σ H x vs v us Q I rx rv h;obtain⟨l,b,xs,zs,rfl,rfl,hH,hB,hz,q⟩:=h;cases rx;obtain⟨u,rfl,ru⟩:=rv.one;cases ru;obtain⟨z,KQ,n,r,hl,e⟩:=I.lstM hH;obtain⟨z2,Mq,n2,r2,Ly,e2⟩:=I.lstM hB;have hsz:KQ.toArray.size+Mq.toArray.size<=sizeLine:=by rw[AJ,AJ];lia
 have NM:¬(!KQ.toArray.isEmpty&&Builtin.List.listTooLong (KQ.toArray.size+Mq.toArray.size))=true:=by
  rw[rh hsz,DR];exact AV
 refine call_meets F.slot_list_extend ⟨_,e,rfl⟩ F.entry_list_extend (F.args_list_extend_2 _ _)
  (AutoSeq1.list_extend_list_list_0 l KQ.toArray n b Mq.toArray n2 NM (by rw[AJ];lia) (by lia)) ⟨e,e2, ?_⟩
 refine⟨.non,_,I.lset (its':=KQ++Mq) hH e (by simp) (r.append r2) ?_,rfl,q⟩;rw[AA];lia
inductive rCat (x:V) (y:V) (H:Hp) (Q:VK):Prop
 |mk l b xs zs:x= .ref l->y= .ref b->H l=some (.lst xs)->H b=some (.lst zs)->xs.length+zs.length<=sizeLine->(∀p,H p=none->Q (.ref p) (upd H p (.lst (xs++zs))))->rCat x y H Q
theorem jO:OpR X (binaryOp .Add) rCat:=by
 intro KO s σ H x y v u Q I rx ry h;obtain⟨l,b,xs,zs,rfl,rfl,hH,hB,hz,q⟩:=h;cases rx;cases ry;obtain⟨z,KQ,n,r,hl,e⟩:=I.lstM hH;obtain⟨z2,Mq,n2,r2,Ly,e2⟩:=I.lstM hB;refine PySem.P.add_list e e2 ?_ (by rw[AJ,AJ];lia);have ea:KQ.toArray++Mq.toArray=(KQ++Mq).toArray:=by simp
 rw[ea];exact⟨.ref _,_,I.lnew (t':=s.toks) (r.append r2) (by rw[AA];lia),rfl,q _ I.fresh⟩
inductive rRep (x:V) (y:V) (H:Hp) (Q:VK):Prop
 |mk l k xs:x= .ref l->y= .int k->H l=some (.lst xs)->-(2^63)<=k->k<2^63->xs.length*k.toNat<=sizeLine->(∀p,H p=none->Q (.ref p) (upd H p (.lst (List.replicate k.toNat xs).flatten)))->rRep x y H Q
theorem zf {α:Type} (xs:Qt α) (k:Nat):(List.replicate k xs).flatten.length=k*xs.length:=by
 induction k with
 |zero=>simp
 |succ k ih=>rw[Bh,D6,AA,ih,Ci,Nat.add_comm]
theorem zg:OpR X (binaryOp .Mult) rRep:=by
 intro KO s σ H x y v u Q I rx ry h;obtain⟨l,k,xs,rfl,rfl,hH,h1,h2,hz,q⟩:=h;cases rx;obtain⟨t,rfl⟩:=ry;obtain⟨z,KQ,n,r,hl,e⟩:=I.lstM hH;have KS:KQ.toArray.size*k.toNat<=sizeLine:=by rw[AJ,<-hl];exact hz
 have MU:¬KQ.toArray.size*k.toNat>(2^63-1)/8:=by
  have:(sizeLine:Nat)<=(2^63-1)/8:=by decide
  lia
 have hfit:¬(!Builtin.List.listFitsIndex k)=true:=by
  rw[fitsIndex_both h1 h2];exact AV
 have NM:¬Builtin.List.listTooLong (KQ.toArray.size*k.toNat)=true:=by
  rw[rh KS];exact AV
 have hnew:List.foldl (fun x1 x2=>x1++x2) #[] (List.replicate (if KQ.toArray.isEmpty=true then 0 else k.toNat) KQ.toArray)=(List.replicate k.toNat KQ).flatten.toArray:=by
  have f0:∀m:Nat,List.foldl (fun x1 x2=>x1++x2) #[] (List.replicate m KQ.toArray)=(List.replicate m KQ).flatten.toArray:=fun m=>by
   have:=rg KQ m [];rw[List.nil_append] at this;exact this
  rw[f0];cases KQ with
  |nil=>simp
  |cons a r'=>rw[A5 (by simp)]
 refine wpAny_binaryOp_repeat_ref (T:="list") (U:="int") (by decide) ⟨_,e,rfl⟩ (fun s'=>typeIs_int s' k t) noFill_list_mul F.fills_int_mul F.slot_int_rmul repeat_list F.slot_int_index.lookup
  (call_meets F.slot_int_rmul (typeIs_int s k t) F.entry_int_rmul (F.args_int_rmul_2 _ _) (int___rmul___int_list k t l KQ.toArray n)
   ⟨e,rfl,⟨_,e,rfl⟩,call_meets F.slot_list_mul ⟨_,e,rfl⟩ F.entry_list_mul (F.args_list_mul_2 _ _) (AutoListH.list___mul___list_int_3 l KQ.toArray n k t hfit MU NM) ⟨e, ?_⟩⟩)
 rw[hnew];exact⟨.ref _,_,I.lnew (t':=s.toks) (r.rep k.toNat) (by rw[zf,Nat.mul_comm];exact hz),rfl,q _ I.fresh⟩
end
end L2
namespace Att
open PySem PySem.W PySem.Calls PyProof.Rows
variable {P:Params}{h:Qv}{l:OpenLaw}{n:Nat}
theorem zh :∀(ns:Qt Int) (vs:Qt NR),WellAll P h vs (ns.map WData.int)->IntsAre vs ns:=by
 intro ns;induction ns with
 |nil=>
  intro vs w;rw[List.map_nil] at w;cases w;exact .nil
 |cons n ns ih=>
  intro vs w;rw[AE] at w;cases w with
  |cons a b=>
   cases a;exact .cons _ _ (ih _ b)
theorem zi (hn:l.most=some n) {args:Qt WData}{NN:Qt NR}
  (Ow:l.row.toRowW.claim.pre args=true) (hwl:WellAll P h NN args):
  ∃a vs ns,NN=[Value.ref a]/\args=[WData.list (ns.map WData.int)]/\h.get? a=some {cls:= .type "list",data:= .seq vs.toArray}/\IntsAre vs ns/\ns.length<=n:=by
 have Py:WShape.hasAll [] args [.list .int]=true:=(pre_splitW Ow).1;have hc:l.pre.holds [] {args:=args}=true:=(pre_splitW Ow).2;obtain⟨d,r,rfl,h1,h2⟩:=hasAllW_cons Py;obtain rfl:=hasAllW_nil h2;obtain⟨xs,rfl,h3⟩:=hasW_list h1;obtain⟨ns,rfl⟩:=items_int h3;have KS:ns.length<=n:=by
  unfold OpenLaw.pre at hc;have h4:(WTm.not (.lt (.lit (.int (n:Int))) (.len (.arg 0)))).holds [] {args:=[.list (ns.map .int)]}=true:=by
   have h4:=(holds_andW hc).1;rw[hn] at h4;exact h4
  have h5:=condW_of h4 (w_not (w_lt w_lit (w_len_list (w_arg rfl))));rw[A1] at h5;refine Nat.le_of_not_lt fun q=> ?_;have q':(n:Int)<((ns.length:Nat):Int):=by lia
  first
   |(rw[At q'] at h5;exact absurd h5 (by decide))
   |(simp at h5;lia)
 cases hwl with
 |cons w1 w2=>
  cases w2;cases w1 with
  |list ho Lm=>exact⟨_,_,ns,rfl,rfl,ho,zh ns _ Lm,KS⟩
theorem zj (l:OpenLaw) (args:Qt WData):l.row.toRowW.claim.post args (.bool true) args=true:=
 postW_of (r:=l.row.toRowW) (X:=(true==true))
  (show WShape.has [] (.bool true) .bool=true by first|rfl|decide|simp[WShape.has,WShape.arms,WShape.armsAll])
  (show(WTm.eq .res (.lit (.bool true))).value [] {args:=args,res:=some (.bool true),after:=args}=some (.bool (true==true)) from w_eq_bool (w_res rfl) w_lit) rfl
theorem attach_call {q:Qp}{Mm:Qt Str}{XP:(Str->Qw NR)->Qv->Prop}{YP:Qr->Qv->Prop}{d:DefRec}
  (hn:l.most=some n) (hdf:d.params.defaults=[])
  (call:∀(w:Qr) (s₀ s₁:Qn) (mg mb:Str->Qw NR) (fa:Qo) (o:Obj) (pm cd MB:NR) (a:Qo) (vs:Qt NR) (ns:Qt Int),
   Ground q Mm [] XP w s₀ mg mb s₁.heap->YP w s₁.heap->
   s₁.heap.get? fa=some o->o.data= .func (docDef d.name d.params d.body d.scope pm cd MB)->s₁.heap.CodeRec cd d.name->mg d.name=some (.ref fa)->
   s₁.heap.get? a=some {cls:= .type "list",data:= .seq vs.toArray}->IntsAre vs ns->ns.length<=n->s₁.gens= #[]->
   codeAny (model l.prog w) callerA (.call (.ref fa) ⟨[.ref a],[]⟩) (fun r s'=>r= .ok (.ret (.bool true))/\OldK s₁.heap s'.heap/\s'.os=s₁.os/\AllBare s'.gens) s₁):
  WalkO q Mm XP YP l.row.toRowW d [] (fun f vs=>PySem.call f vs):=by
 intro w s₀ s₁ mg mb G Y fa o pm cd MB dV kV ho hd NH hD hmg hg args NN as Ow hlay hrd hwl hlo;obtain rfl:dV= .none:=Dflts.none hD hdf;obtain rfl:kV= .none:=Dflts.noKw hD;obtain⟨a,vs,ns,rfl,rfl,PB,NO,KS⟩:=zi hn Ow hwl;refine enter_call (codeAny_mono (call w s₀ s₁ mg mb fa o pm cd MB a vs ns G Y ho (fd_plain hd) NH hmg PB NO KS hg) fun r s' hq=> ?_);obtain⟨rfl,h2,h3,h4⟩:=hq;exact⟨.inl ⟨.bool true, .bool true,[],rfl,fun _=>rfl, .bool true,zj l _,fun _=>⟨List.Pairwise.nil,fun _ hm=>(nomatch hm)⟩⟩,h2,h3,h4⟩
section
variable {prog:Qp}{w:Qr}{A:Qs}{E:NR->Qn->Prop}{s:Qn}{K:Frag}
def KN (h:Qv) (L d:Qo):Qt (Qo×Obj):=(List.range h.objs.size).filterMap fun a=>if a=L\/a=d then none else(h.get? a).map fun o=>(a,o)
end
end Att
namespace L2
open PySem PySem.Spec PyProof.Rows
variable {A B c:Prop}{E Q:NR->Qn->Prop}{H H' H1:Hp}{K:W.Frag}{KO:Qt (Qo×Obj)}{KY Mi:Expr}{KZ x:Str}{LX:List Expr}{N ps:Qt Str}{NP pos py:Pos}{P:Qp}{X:Cx}{a acc b f l:Qo}{d i n own:Nat}{e:Bool}{env:Env}{fd:Qq}{g:TG}{h':Qv}{j:Int}{js:Qt Nat}{kvs:Qt (Qt Key×V)}{o:Qw V}{s:Qn}{scope:Scope}{st:Qx}{te:TE}{tg:Qu}{u:NR}{v y:V}{w:Qr}{xs:Qt (Qt Key×Qo×NR)}
theorem rj:∀{vs:Qt NR}{ns:Qt Int},IntsAre vs ns->au (ns.map V.int) vs
 |_,_, .nil=> .nil
 |_,_, .cons n t h=> .cons ⟨t,rfl⟩ (rj h)
def lR (H:Hp):Prop:=∀b,H b=none\/∃o xs,H b=some (.frz o (.lst xs))
theorem zm {P:Qp}{w:Qr}{mg mb:Str->Qw NR}{CX:CXT}{k:Nat}{fa:Qo}{fd:Qq}{sp:Sp}{s₁:Qn}{vs:Qt NR}{ns:Qt Int}
  (KX:K.In s₁.heap) (hns:s₁.heap.Ns mainGlobals mg) (hb:s₁.heap.Ns builtinsNs mb) (hbb:∀x:Str,x≠"__name__"->mb x=bootBuiltins x) (hlim:s₁.heap.NoLimit) (hg:s₁.gens= #[])
  (ha:s₁.heap.get? a=some {cls:= .type "list",data:= .seq vs.toArray}) (hi:IntsAre vs ns) (hl:ns.length<=sizeLine) (hr:Room k callerA)
  (F:∀base:Qv,K.In base->base.Ns mainGlobals mg->FnOk P w K mg base CX k fa fd [x] sp) (hbind:∀(s:Qn) (u:NR),BindsTo s fd ⟨[u],[]⟩ [(x,u)])
  (OW:∀H:Hp,lR H->SqL K H a (ns.map V.int)->sp [.ref a] H (fun v _=>v= .bl true) fun _ _ _=>False)
  (hCX:∀H e s',CX [] H s₁ (fun _ _ _=>False) e s'->False):
  codeAny (model P w) callerA (.call (.ref fa) ⟨[.ref a],[]⟩) (fun r s'=>r= .ok (.ret (.bool true))/\OldK s₁.heap s'.heap/\s'.os=s₁.os/\AllBare s'.gens) s₁:=by
 have rv:=rj hi;have lenV:=hi.length;have core:∀H:Hp,lR H->SqL K H a (ns.map V.int)->HOk P w H s₁.heap->(∀b,H b≠none->b=a)->(H a≠none->K.lookup a=none)->
   codeAny (model P w) callerA (.call (.ref fa) ⟨[.ref a],[]⟩) (fun r s'=>r= .ok (.ret (.bool true))/\OldK s₁.heap s'.heap/\s'.os=s₁.os/\AllBare s'.gens) s₁:=by
  intro H hO hS hok hA hK;have base_of:∀{b:Qo}{o:Obj},s₁.heap.get? b=some o->H b=none->(eR s₁.heap H).get? b=some o:=fun e n=>xN e n;have noA:∀{b:Qo}{o:Obj}{es:Array DictEntry}{ep:Nat},s₁.heap.get? b=some o->o.data= .dict es ep->H b=none:=fun{b o es ep} e d=>by
   cases q:H b with
   |none=>rfl
   |some u=>
    have e':b=a:=hA b (by rw[q];simp);subst e';rw[ha] at e;cases e;have d':Data.seq vs.toArray _=Data.dict es ep:=d;cases d'
  have nsK:∀{b:Qo}{m:Str->Qw NR},s₁.heap.Ns b m->(eR s₁.heap H).Ns b m:=fun{b m} ⟨o,es,ep,e,d,r⟩=>⟨o,es,ep,base_of e (noA e d),d,r⟩;have hKb:K.In (eR s₁.heap H):=fun b o e=>base_of (KX b o e) (by
   cases q:H b with
   |none=>rfl
   |some u=>
    have e':b=a:=hA b (by rw[q];simp);subst e';rw[hK (by rw[q];simp)] at e;cases e)
  have hM:Mod K mg (eR s₁.heap H):=⟨hKb,nsK hns,⟨mb,nsK hb,hbb⟩,let ⟨mc,h1,h2⟩:=hlim;⟨mc,nsK h1,h2⟩⟩;have e0:Env0 P w K mg (eR s₁.heap H) callerA [] s₁ H:=⟨rfl,hM,fun b o e=>xO e,Nat.le_of_eq (xM _ _),trivial,fun b hb=>absurd (show b∈([]:Qt Qo) from hb) (by simp),hok, .of_eq hg⟩;refine codeAny_mono ((F _ hKb (nsK hns)).run callerA [] s₁ H ⟨[.ref a],[]⟩ [.ref a] [.ref a] _ _ hr e0 (hbind s₁ (.ref a)) (.cons rfl .nil) (OW H hO hS)) fun r s' h=> ?_;cases r with
  |error e=>exact(hCX H e s' h).elim
  |ok fl=>
   cases fl with
   |next=>exact False.elim h
   |brk=>exact False.elim h
   |cont=>exact False.elim h
   |ret u=>
    obtain⟨v,H',os,bare,un,hok',r',q⟩:=h;have q':v= .bl true:=q;subst q';obtain rfl:u=Value.bool true:=r';refine⟨rfl,OldK.of_keep fun b o e=> ?_,os,bare⟩;cases q:H b with
    |none=>exact un.keep b o e q (by intro z;exact absurd (show b∈([]:Qt Qo) from z) (by simp)) (by simp)
    |some u=>
     rcases hO b with z|⟨ob,xs,z⟩
     .rw [q] at z;cases z
     .have z2:=un.frzs b ob _ z;obtain⟨e1,_⟩:=hok b _ z;obtain⟨e2,_⟩:=hok' b _ z2;rw[e] at e1;cases e1;exact e2
 cases hk:K.lookup a with
 |some o=>
  have e:=KX a o hk;rw[ha] at e;cases e;refine core (fun _=>none) (fun _=> .inl rfl) (.inr ⟨_,vs.toArray,_,hk,rfl,rfl,rfl,by rw[AJ,lenV];exact hl,by simpa using rv⟩) (fun b u z=>by have z':(none:Qw HO)=some u:=z;cases z') (fun b z=>absurd rfl z) fun z=>absurd rfl z
 |none=>
  refine core (fun b=>if b=a then some (.frz {cls:= .type "list",data:= .seq vs.toArray} (.lst (ns.map V.int))) else none) (fun b=> ?_) (.inl (.inr ⟨{cls:= .type "list",data:= .seq vs.toArray},A7 rfl⟩)) (fun b u z=> ?_) (fun b z=> ?_) fun _=>hk
  .by_cases hb:b=a
   .exact .inr ⟨_,_,A7 hb⟩
   .exact .inl (A5 hb)
  .by_cases hb:b=a
   .have z':=(A7 hb).symm.trans z;cases z';subst hb;exact⟨ha,by rw[A1];exact hl,vs,_,rv,ha⟩
   .have z':=(A5 hb).symm.trans z;cases z'
  .by_cases hb:b=a
   .exact hb
   .exact absurd (A5 hb) z
theorem zn {l:W.OpenLaw}{k:Nat}{q:Qp}{Mm:Qt Str}{XP:(Str->Qw NR)->Qv->Prop}{YP:Qr->Qv->Prop}{d:DefRec}{K:Params->W.Frag}{CX:Qr->CXT}{sp:Qr->Sp}
  (hn:l.most=some n) (Oi:n<=sizeLine) (hdf:d.params.defaults=[]) (hr:Room k callerA)
  (hY:∀(w:Qr) (h:Qv),YP w h->(K w.params).In h)
  (F:∀(w:Qr) (mg:Str->Qw NR) (fa:Qo) (h:Qv),(K w.params).In h->h.Ns mainGlobals mg->mg d.name=some (.ref fa)->
   ∃fd:Qq,(∀(s:Qn) (u:NR),BindsTo s fd ⟨[u],[]⟩ [(x,u)])/\
    ∀base:Qv,(K w.params).In base->base.Ns mainGlobals mg->FnOk l.prog w (K w.params) mg base (CX w) k fa fd [x] (sp w))
  (OW:∀(w:Qr) (H:Hp) (a:Qo) (ns:Qt Int),ns.length<=n->lR H->SqL (K w.params) H a (ns.map V.int)->sp w [.ref a] H (fun v _=>v= .bl true) fun _ _ _=>False)
  (hCX:∀(w:Qr) (H:Hp) (s:Qn) (e:NR) (s':Qn),CX w [] H s (fun _ _ _=>False) e s'->False):
  W.WalkO q Mm XP YP l.row.toRowW d [] (fun f vs=>PySem.call f vs):=by
 refine Att.attach_call hn hdf fun w s₀ s₁ mg mb fa o pm cd MB a vs ns G Y ho hd NH hmg PB NO KS hg=> ?_;have KX:=hY w _ Y;obtain⟨fd,hb,hF⟩:=F w mg fa _ KX G.T.g hmg;exact zm KX G.T.g G.T.b G.T.builtins G.T.nolimit hg PB NO (B9 KS Oi) hr hF hb (fun H hO hS=>OW w H a ns KS hO hS) fun H e s'=>hCX w H s₁ e s'
def eU (s:Qx):Arguments:=match s with
 | .FunctionDef _ a _ _ _ _ _ _ _ _=>a
 |_=>{posonlyargs:=[],args:=[],vararg:=none,kwonlyargs:=[],kw_defaults:=[],kwarg:=none,defaults:=[]}
def dO (s:Qx):Qt Qx:=match s with
 | .FunctionDef _ _ b _ _ _ _ _ _ _=>b
 |_=>[]
def am (s:Qx):Scope:=match s with
 | .FunctionDef _ _ _ _ _ _ sc _ _ _=>sc
 |_=>{kind:= .function,names:=[],isGenerator:=false,isCoroutine:=false}
abbrev CX0:CXT:=fun _ _ _ _ _ _=>False
abbrev E0:XK:=fun _ _ _=>False
def fx :lN CX0 X E0:=fun _ _ _ _ _ _ _ h=>h.elim
structure Fun (K:W.Frag) (x KZ:Str) (st:Qx) (f:Qo) (fd:Qq):Prop where
 ex:∃(oc:Value) (od:Option Addr) (kV MB pm:Value) (an:Option Addr) (Lb ct:Value) (OV:Array (Option Value)),
  fd=W.fnOf x KZ (eU st) (dO st) (am st) .none kV MB pm an Lb ct/\K.lookup f=some ⟨oc,od, .func fd,OV⟩/\W.codeIn K Lb KZ=true
 kp:W.keepIn K (.ref f)=true
section
variable {P:Qp}{w:Qr}{K:W.Frag}{mg:Str->Qw NR}{base:Qv}
theorem Fun.ok {k:Nat}{sp:Sp} (F:Fun K x KZ st f fd) (S:FnScope N ps (am st)) (len:∀vs H Q E,sp vs H Q E->vs.length=ps.length)
  (MJ:∀(Lb:NR) (A:Qs) (outer:Qt Env) (s:Qn) (H:Hp) (vs:Qt V) (Q:VK) (E:XK),Room k (A.deeper (envOfC KZ (am st) s.heap.objs.size f Lb))->sp vs H Q E->
   ∃t,PSs (fS CX0 P w K mg base N KZ (am st) f Lb A outer s H E).nox (dO st) t/\t {nx:=fun _ H'=>Q .non H',rt:=Q} (start N vs) H):FnOk P w K mg base CX0 (k+1) f fd ps sp:=by
 obtain⟨oc,od,kV,MB,pm,an,Lb,ct,OV,rfl,lk,NH⟩:=F.ex;refine yR lk NH S len fun A outer s H vs Q E hr OW=> ?_;obtain⟨t,h,q⟩:=MJ Lb A outer s H vs Q E hr OW;exact⟨t,h.nox,q⟩
theorem Fun.binds (F:Fun K x KZ st f fd)
  (h:∀(kV MB pm:NR) (an:Qw Qo) (Lb ct:NR) (us:Qt NR),us.length=ps.length->bindArgs (W.fnOf x KZ (eU st) (dO st) (am st) .none kV MB pm an Lb ct) ⟨us,[]⟩=pure (ps.zip us)):gD K fd ps []:=by
 obtain⟨oc,od,kV,MB,pm,an,Lb,ct,OV,rfl,lk,NH⟩:=F.ex;exact .all (h kV MB pm an Lb ct)
def zo {oc:NR}{od an:Qw Qo}{OV:Array (Qw NR)}{kV MB pm Lb ct:NR} (l:K.lookup f=some ⟨oc,od, .func (W.fnOf x KZ (eU st) (dO st) (am st) .none kV MB pm an Lb ct),OV⟩)
  (c:W.codeIn K Lb KZ=true) (k:W.keepIn K (.ref f)=true):Fun K x KZ st f (W.fnOf x KZ (eU st) (dO st) (am st) .none kV MB pm an Lb ct):=⟨⟨oc,od,kV,MB,pm,an,Lb,ct,OV,rfl,l,c⟩,k⟩
end
theorem bx {A:Qs}{k:Nat} (hr:Room k A):A.units+1<cLine:=Nat.lt_of_le_of_lt (Nat.add_le_add_left (by decide:1<=64) _) hr.units
theorem ay (h:n<=1000):n<sizeLine:=Nat.lt_of_le_of_lt h (by decide)
section
variable {X:Cx}
theorem pv (i:Nat) {pos:Pos} (hN:X.N[i]? =some x:=by rfl) (hv:Vis X.env.scope x:=by first|exact Or.inl rfl|exact Or.inr (Or.inl rfl)|exact Or.inr (Or.inr rfl)) (hd:(x==("__debug__":Str))=false:=by decide)
  (NH:(x==("__classdict__":Str))=false:=by decide):PE X (.Name x pos) (tVar i):=xS hN hv hd NH
end
theorem bM (h:B):if false=true then A else B:=by
 rw[A5 AV];exact h
theorem dy (h:A):if true=true then A else B:=by
 rw[A7 rfl];exact h
theorem rk [Decidable c] (hc:c) (h:B):if(!decide c)=true then A else B:=by
 rw[At hc];exact bM h
def ae (H H':Hp):Prop:=∀b o,H b=some o->H' b=some o
def ae.refl (H:Hp):ae H H:=fun _ _ h=>h
def ae.trans {H2:Hp} (a:ae H H1) (b:ae H1 H2):ae H H2:=fun c o h=>b c o (a c o h)
theorem ae.free (e:ae H H') (h:H' l=Option.none):H l=Option.none:=by
 cases q:H l with
 |none=>rfl
 |some o=>
  rw[e l o q] at h;cases h
theorem ae.seq {xs:Qt V} (e:ae H H') (h:SqL K H a xs):SqL K H' a xs:=by
 rcases h with(h|⟨o,h⟩)|h
 .exact .inl (.inl (e _ _ h))
 .exact .inl (.inr ⟨o,e _ _ h⟩)
 .exact .inr h
set_option maxHeartbeats 4000000
section
variable {κ:Type} [DecidableEq κ]
def aJ (kvs:Qt (κ×V)) (k:κ):Qw V:=(kvs.find? fun kv=>decide (kv.1=k)).map (·.2)
def aR (kvs:Qt (κ×V)) (k:κ) (v:V):Qt (κ×V):=
 if(kvs.any fun kv=>decide (kv.1=k))=true then kvs.map (fun kv=>if kv.1=k then(kv.1,v) else kv) else kvs++[(k,v)]
theorem c9 {p:κ×V}{r:Qt (κ×V)}{k:κ} (e:p.1=k):aJ (p::r) k=some p.2:=by simp[aJ,Bc,e]
theorem cR {p:κ×V}{r:Qt (κ×V)}{k:κ} (e:¬p.1=k):aJ (p::r) k=aJ r k:=by simp[aJ,Bc,e]
theorem fy (k:κ):∀kvs:Qt (κ×V),(kvs.any fun kv=>decide (kv.1=k))=(aJ kvs k).isSome
 |[]=>rfl
 |p::r=>by
  rw[List.any_cons];by_cases e:p.1=k
  .simp only[c9 e,At e,Bool.true_or,Option.isSome_some]
  .rw [cR e,Ae e,Bool.false_or];exact fy k r
theorem rm (k j:κ) (y:V):∀kvs:Qt (κ×V),aJ kvs k=none->aJ (kvs++[(k,y)]) j=if j=k then some y else aJ kvs j
 |[],_=>by
  by_cases e:k=j
  .rw [A7 e.symm];exact c9 (p:=(k,y)) e
  .rw [A5 (fun z=>e z.symm)];exact cR (p:=(k,y)) e
 |p::r,hn=>by
  rw[DC];have hk:¬p.1=k:=fun z=>by rw[c9 z] at hn;cases hn
  rw[cR hk] at hn;have ih:=rm k j y r hn;by_cases e:p.1=j
  .rw [c9 e,c9 e,A5 (fun z=>hk (e.trans z))]
  .rw [cR e,cR e,ih]
theorem lS (kvs:Qt (κ×V)) (k:κ) (v:V):(aR kvs k v).length<=kvs.length+1:=by
 unfold aR;split
 .rw [A1];lia
 .rw [AA,AT,CB];lia
theorem lT {kvs:Qt (κ×V)}{k:κ} (v:V) (h:aJ kvs k=none):aR kvs k v=kvs++[(k,v)]:=by
 unfold aR;rw[fy,h];exact A5 (by decide)
theorem cG.isSome_eq {u:Qw NR} (r:cG o u):o.isSome=u.isSome:=by
 cases o with
 |none=>cases u with
  |none=>rfl
  |some _=>exact(show False from r).elim
 |some _=>cases u with
  |none=>exact(show False from r).elim
  |some _=>rfl
theorem cG.getD {o:Qw V}{u:Qw NR}{d:V}{d':NR} (r:cG o u) (rd:aw d d'):aw (o.getD d) (u.getD d'):=by
 cases o with
 |none=>cases u with
  |none=>exact rd
  |some _=>exact(show False from r).elim
 |some _=>cases u with
  |none=>exact(show False from r).elim
  |some _=>exact r
theorem KV.val {kvs:Qt (κ×V)}{vs:Qt (κ×NR)} (r:KV kvs vs) (k:κ):cG (aJ kvs k) (valueAt vs k):=by
 unfold KV at r;induction r with
 |nil=>exact True.intro
 | @cons p q ps qs h t ih=>
  obtain⟨h1,h2⟩:=h;by_cases e:p.1=k
  .have e':q.1=k:=h1.symm.trans e;have b:valueAt (q::qs) k=some q.2:=by simp[valueAt,Bc,e']
   rw[c9 e,b];exact h2
  .have e':¬q.1=k:=fun z=>e (h1.trans z);have b:valueAt (q::qs) k=valueAt qs k:=by simp[valueAt,Bc,e']
   rw[cR e,b];exact ih
theorem KV.any {kvs:Qt (κ×V)}{vs:Qt (κ×NR)} (r:KV kvs vs) (k:κ):(kvs.any fun kv=>decide (kv.1=k))=vs.any fun kv=>decide (kv.1=k):=by
 unfold KV at r;induction r with
 |nil=>rfl
 |cons h t ih=>rw[List.any_cons,List.any_cons,ih,h.1]
theorem KV.repl {kvs:Qt (κ×V)}{vs:Qt (κ×NR)} (r:KV kvs vs) (k:κ) (ry:aw y u):
  KV (kvs.map fun kv=>if kv.1=k then(kv.1,y) else kv) (vs.map fun kv=>if kv.1=k then(kv.1,u) else kv):=by
 unfold KV at r⊢;induction r with
 |nil=>exact .nil
 | @cons p q ps qs h t ih=>
  rw[AE,AE];refine .cons ?_ ih;obtain⟨h1,h2⟩:=h;by_cases e:p.1=k
  .rw [A7 e,A7 (h1.symm.trans e)];exact⟨h1,ry⟩
  .rw [A5 e,A5 (fun z=>e (h1.trans z))];exact⟨h1,h2⟩
theorem KV.put {kvs:Qt (κ×V)}{vs:Qt (κ×NR)} (r:KV kvs vs) (k:κ) (ry:aw y u):KV (aR kvs k y) (stored vs k u):=by
 unfold aR stored;rw[r.any k];by_cases e:(vs.any fun kv=>decide (kv.1=k))=true
 .rw [A7 e,A7 e];exact r.repl k ry
 .rw [A5 e,A5 e];exact Paired.snoc r ⟨rfl,ry⟩
theorem KV.length {kvs:Qt (κ×V)}{vs:Qt (κ×NR)} (r:KV kvs vs):kvs.length=vs.length:=BL r
end
theorem jP {k:Key}(r:aw (kV k) u):(bT P w).is k u=true:=by
 cases k with
 |inl i=>obtain⟨t,e⟩:=(show∃t,u=Value.int i t from r);subst e;exact xJ P w i t
 |inr x=>obtain⟨t,e⟩:=(show∃t,u=Value.str x t from r);subst e;exact xK P w x t
theorem rn {P:Qp}{w:Qr}:∀{ks:Qt Key}{us:Qt NR},au (ks.map kV) us->ItemsAre (bT P w) ks us
 |[],_,r=>by rw[List.map_nil] at r;cases r;exact .nil
 |k::ks,_,r=>by
  rw[AE] at r;cases r with
  |cons h t=>exact .cons (jP h) (rn t)
abbrev KT (H:Hp):Qt (Qt Key×V)->Qt (Qt Key×Qo×NR)->Prop:=Paired fun p q=>p.1=q.1/\H q.2.1=some (.tup (p.1.map kV))/\aw p.2 q.2.2
theorem KT.val {H:Hp}{kvs:Qt (Qt Key×V)}{xs:Qt (Qt Key×Qo×NR)} (r:KT H kvs xs) (k:Qt Key):cG (aJ kvs k) ((atKey xs k).map (·.2)):=by
 induction r with
 |nil=>exact True.intro
 | @cons p q ps qs h t ih=>
  obtain⟨h1,_,h2⟩:=h;by_cases e:p.1=k
  .have e':q.1=k:=h1.symm.trans e;have b:atKey (q::qs) k=some q.2:=by simp[atKey,Bc,e']
   rw[c9 e,b];exact h2
  .have e':¬q.1=k:=fun z=>e (h1.trans z);have b:atKey (q::qs) k=atKey qs k:=by simp[atKey,Bc,e']
   rw[cR e,b];exact ih
theorem KT.repl (r:KT H kvs xs) (k:Qt Key) (ry:aw y u):
  KT H (kvs.map fun kv=>if kv.1=k then(kv.1,y) else kv) (xs.map (putAt k u)):=by
 induction r with
 |nil=>exact .nil
 | @cons p q ps qs h t ih=>
  rw[AE,AE];refine .cons ?_ ih;obtain⟨h1,h2,h3⟩:=h;unfold putAt;by_cases e:p.1=k
  .rw [A7 e,A7 (h1.symm.trans e)];exact⟨h1,h2,ry⟩
  .rw [A5 e,A5 (fun z=>e (h1.trans z))];exact⟨h1,h2,h3⟩
theorem KT.put (r:KT H kvs xs) (k:Qt Key) (hb:H b=some (.tup (k.map kV))) (ry:aw y u):
  KT H (aR kvs k y) (storedH xs k b u):=by
 have e:(kvs.any fun kv=>decide (kv.1=k))=(atKey xs k).isSome:=by
  rw[fy,(r.val k).isSome_eq,Option.isSome_map]
 unfold aR storedH;rw[e];by_cases q:(atKey xs k).isSome=true
 .rw [A7 q,A7 q];exact r.repl k ry
 .rw [A5 q,A5 q];exact Paired.snoc r ⟨rfl,hb,ry⟩
def KT.keeps (r:KT H kvs xs) (ht:∀b ys,H b=some (.tup ys)->H' b=some (.tup ys)):KT H' kvs xs:=
 Paired.mapP r fun _ _ z=>⟨z.1,ht _ _ z.2.1,z.2.2⟩
section
variable {P:Qp}{w:Qr}{H:Hp}{h:Qv}{a:Qo}
def iM {u:HO} (ok:HOk P w H h) (e:Rd H a u):aD P w H h a u:=e.ok ok
def gF {kvs:Qt (Key×V)} (ok:HOk P w H h) (e:Rd H a (.dK kvs)):kvs.length<=sizeLine/\(a==sysModules)=false/\∃vs,KV kvs vs/\h.DictOf (bT P w) a vs:=
 show aD P w H h a (.dK kvs) from iM ok e
def zp {kvs:Qt (Key×V)} (ok:HOk P w H h) (e:H a=some (.dK kvs)):kvs.length<=sizeLine/\(a==sysModules)=false/\∃vs,KV kvs vs/\h.DictOf (bT P w) a vs:=gF ok (.inl e)
theorem iN {ks:Qt Key} (ok:HOk P w H h) (e:H a=some (.tup (ks.map kV))):(tupleKind (bT P w)).is h ks a:=by
 obtain⟨_,KQ,r,o,h1,h2,n,h3⟩:=(show aD P w H h a (.tup (ks.map kV)) from ok a _ e);exact⟨o,KQ.toArray,n,h1,h2,h3,by simpa using rn r⟩
theorem iO (ok:HOk P w H h) (e:Rd H a (.dT kvs)):kvs.length<=sizeLine/\(a==sysModules)=false/\
  ∃xs,KT H kvs xs/\h.DictOfH (tupleKind (bT P w)) a xs:=by
 obtain⟨z,y,xs,r,o,es,ep,h1,h2,h3,h4,h5⟩:=(show aD P w H h a (.dT kvs) from iM ok e);refine⟨z,y,xs,r,o,es,ep,h1,h2,h3,h4,fun x hx=> ?_,h5⟩;have all:∀{l:Qt (Qt Key×V)}{m:Qt (Qt Key×Qo×NR)},KT H l m->∀x∈m,(tupleKind (bT P w)).is h x.1 x.2.1:=by
  intro l m q;induction q with
  |nil=>intro x hx;exact nomatch hx
  | @cons p q ps qs hq t ih=>
   intro x hx;rcases AI.mp hx with e|hx
   .subst e;exact iN ok (by rw[<-hq.1];exact hq.2.1)
   .exact ih x hx
 exact all r x hx
def rp (ok:HOk P w H h) (e:H a=some (.dT kvs)):kvs.length<=sizeLine/\(a==sysModules)=false/\
  ∃xs,KT H kvs xs/\h.DictOfH (tupleKind (bT P w)) a xs:=iO ok (.inl e)
end
def cJ (H:Hp) (a:Qo) (y:V) (r:Qw V):Prop:=
 (∃kvs k,Rd H a (.dK kvs)/\y=kV k/\r=aJ kvs k)\/∃kvs k b,Rd H a (.dT kvs)/\y= .ref b/\H b=some (.tup (k.map kV))/\r=aJ kvs k
def cS (H:Hp) (a:Qo) (y v:V) (H':Hp):Prop:=
 (∃kvs k,H a=some (.dK kvs)/\y=kV k/\kvs.length<sizeLine/\H'=upd H a (.dK (aR kvs k v)))\/
 ∃kvs k b,H a=some (.dT kvs)/\y= .ref b/\H b=some (.tup (k.map kV))/\kvs.length<sizeLine/\H'=upd H a (.dT (aR kvs k v))
theorem cJ.k {H:Hp}{a:Qo}{kvs:Qt (Key×V)}{k:Key} (e:H a=some (.dK kvs)):cJ H a (kV k) (aJ kvs k):= .inl ⟨kvs,k, .inl e,rfl,rfl⟩
def cJ.t {k:Qt Key} (e:H a=some (.dT kvs)) (eb:H b=some (.tup (k.map kV))):cJ H a (.ref b) (aJ kvs k):= .inr ⟨kvs,k,b, .inl e,rfl,eb,rfl⟩
theorem cS.k {H:Hp}{a:Qo}{kvs:Qt (Key×V)}{k:Key}{v:V} (e:H a=some (.dK kvs)) (hl:kvs.length<sizeLine):cS H a (kV k) v (upd H a (.dK (aR kvs k v))):= .inl ⟨kvs,k,e,rfl,hl,rfl⟩
def cS.t {k:Qt Key}(e:H a=some (.dT kvs)) (eb:H b=some (.tup (k.map kV))) (hl:kvs.length<sizeLine):
  cS H a (.ref b) v (upd H a (.dT (aR kvs k v))):= .inr ⟨kvs,k,b,e,rfl,eb,hl,rfl⟩
section
variable {X:Cx}{KO:Qt (Qo×Obj)}{σ:St}{H:Hp}{s:Qn}{a:Qo}{y v:V}{u r:NR}{o:Qw V}{A:Qs}{E:NR->Qn->Prop}
theorem Inv.big (I:Inv X KO σ H s):sysModules<s.heap.objs.size:=by
 have h:mainGlobals<s.heap.objs.size:=(I.mod.glob.keeps I.bk).lt;exact Nat.lt_trans (by decide) h
theorem zq (hu:A.units+1<cLine) (I:Inv X KO σ H s) (g:cJ H a y (some v)) (ry:aw y u) (h:∀w' s',Inv X KO σ H s'->aw v w'->Q w' s'):
  wpAny (model X.prog X.w) A (getItem (.ref a) u) Q E s:=by
 rcases g with⟨kvs,k,e,ey,l⟩|⟨kvs,k,b,e,ey,eb,l⟩
 .subst ey;obtain⟨z,hd,vs,K2,dd⟩:=gF I.hok e;obtain⟨w',hw,Mr⟩:=cG.some_of (v:=v) (o:=valueAt vs k) (by rw[l];exact K2.val k);exact wpAny_getItem_of (jP ry) dd.mapOf hw (h w' _ (I.tok _) Mr)
 .subst ey;cases (show u=Value.ref b from ry);obtain⟨z,hd,xs,K2,dd⟩:=iO I.hok e;obtain⟨w',hw,Mr⟩:=cG.some_of (v:=v) (o:=(atKey xs k).map (·.2)) (by rw[l];exact K2.val k);obtain⟨p,hp,Ox⟩:=AR.mp hw;refine wpAny_getItem_heap (tupleKind_room_in1 hu) (iN I.hok eb) dd hp ?_;rw[Ox];exact h w' _ (I.tok _) Mr
def gG {t':Nat}{ob:HO} (I:Inv X KO σ H s) (mu:Mut (H a)) (hs:Heap.SameBut a s.heap h') (he:∃q,h'.get? a=some q) (new:aD X.prog X.w (upd H a ob) h' a ob):
  Inv X KO σ (upd H a ob) {s with heap:=h',toks:=t'}:=
 I.write (x:=a) (e:=a) mu (.inl rfl) (fun b q hb z=>(hs.2 b hb).trans z) he new
def rq {kvs:Qt (Key×V)}{vs:Qt (Key×NR)} (z:kvs.length<=sizeLine) (hd:(a==sysModules)=false) (K2:KV kvs vs) (dd:h'.DictOf (bT P w) a vs):
  aD P w H' h' a (.dK kvs):=⟨z,hd,vs,K2,dd⟩
theorem zr {Q:Unit->Qn->Prop} (hu:A.units+1<cLine) (I:Inv X KO σ H s) (g:cS H a y v H') (ry:aw y u) (rv:aw v r) (h:∀s',Inv X KO σ H' s'->Q () s'):
  wpAny (model X.prog X.w) A (setItem (.ref a) u r) Q E s:=by
 rcases g with⟨kvs,k,e,ey,l,eH⟩|⟨kvs,k,b,e,ey,eb,l,eH⟩
 .subst ey eH;obtain⟨z,hd,vs,K2,dd⟩:=zp I.hok e;have hz:vs.length<=sizeLine:=by rw[<-K2.length];exact z
  have hl:(aR kvs k v).length<=sizeLine:=by have:=lS kvs k v;lia
  refine wpAny_setItem_pairs (hsz:=hz) (jP ry) dd fun h' Oj hs=>h _ ?_;have he:∃q,h'.get? a=some q:=let ⟨q,_,_,hq,_⟩:=Oj;⟨q,hq⟩;exact gG I (by rw[e];exact True.intro) hs he (rq hl hd (K2.put k rv) Oj)
 .subst ey eH;cases (show u=Value.ref b from ry);obtain⟨z,hd,xs,K2,dd⟩:=rp I.hok e;have hz:xs.length<=sizeLine:=by rw[<-BL K2];exact z
  have hl:(aR kvs k v).length<=sizeLine:=by have:=lS kvs k v;lia
  refine wpAny_setItem_heap (hsz:=hz) (tupleKind_room_in1 hu) (iN I.hok eb) dd fun h' Oj hs=>h _ ?_;obtain⟨q,es,ep,hq,h2,h3,h4,_,h5⟩:=Oj;refine gG I (by rw[e];exact True.intro) hs ⟨q,hq⟩ ⟨hl,hd,_,(K2.put k eb rv).keeps fun c ys ec=> ?_,q,es,ep,hq,h2,h3,h4,h5⟩;rw[ar (lG ec e (fun z=>nomatch z))];exact ec
end
def fT (i:Qu):Prop:=∀ov iv,subscripted i false ov iv=operate [ov,iv] (getItem ov iv)
theorem lU {prog:Qp}{A:Qs}{value K':Qu}{T id:String}
  (hl:typeLookup (.type T) "__getitem__"=pure (some (.builtin id))) (hs:fT K')
  (h:wpAny (model prog w) A (eval value env) (fun o s₁=>wpAny (model prog w) A (eval K' env) (fun i s₂=>s₂.TypeIs o T/\wpAny (model prog w) A (getItem o i) Q E s₂) E s₁) E s):
  wpAny (model prog w) A (eval (.Subscript value K' pos) env) Q E s:=by
 refine Subscript_ (Bv h (fun o s₁ h₁=>Bv h₁ (fun i s₂ h₂=> ?_) fun _ _ x=>x) fun _ _ x=>x);obtain⟨hT,h₂⟩:=h₂;unfold subscriptTail;refine A0 ?_;rw[getitemInPython_of_ne hT.not_modules];refine A0 (Bt hT hl ?_);have fin:wpAny (model prog w) A (subscripted K' false o i) (fun r s₃=>wpAny (model prog w) A (letTemporaryGo value o r>>=fun _=>pure r) Q E s₃) E s₂:=by
  rw[hs o i];exact wpAny_operating (Bv h₂ (fun r s₃ h₃=>A0 (wpAny_letTemporaryGo (A3 h₃))) fun _ _ x=>x)
 first
  |exact A3 (A0 fin)
  |exact A0 (A3 (A0 fin))
  |exact A0 fin
theorem zt {σ:St}(I:Inv X KO σ H s) (g:cJ H a y o):s.TypeIs (.ref a) "dict":=by
 rcases g with⟨kvs,k,e,_,_⟩|⟨kvs,k,b,e,_,_,_⟩
 .obtain⟨_,_,vs,_,dd⟩:=gF I.hok e;exact dd.typeIs
 .obtain⟨_,_,xs,_,dd⟩:=iO I.hok e;exact dd.typeIs
inductive tDGet_ (Q:VK) (x:V) (y:V) (H2:Hp):Prop
 |mk a v:x= .ref a->cJ H2 a y (some v)->Q v H2->tDGet_ Q x y H2
def zu (td ty:TE):TE:=fun σ H Q=>td σ H fun x H1=>ty σ H1 fun y H2=>tDGet_ Q x y H2
inductive sDPut_ (D:Ends) (σ:St) (v:V) (x:V) (y:V) (H3:Hp):Prop
 |mk a H4:x= .ref a->cS H3 a y v H4->D.nx σ H4->sDPut_ D σ v x y H3
def zw (td ty tv:TE):TS:=fun D σ H=>tv σ H fun v H1=>td σ H1 fun x H2=>ty σ H2 fun y H3=>sDPut_ D σ v x y H3
section
variable {X:Cx}{o i e value:Qu}{pos K9 Mf:Pos}{td ty tv:TE}
theorem db (hu:X.A.units+1<cLine) (ho:PE X o td) (hi:PE X i ty) (hs:fT i):PE X (.Subscript o i pos) (zu td ty):=by
 intro KO s σ H Q I h;refine lU PySem.F.slot_dict_getitem.lookup hs (thn (ho KO s σ H _ I h) fun u s1 ⟨x,H1,I1,rx,q1⟩=>thn (hi KO s1 σ H1 _ I1 q1) fun iv s2 ⟨y,H2,I2,ry,a,v,ex,g,q2⟩=> ?_);subst ex;obtain rfl:u=Value.ref a:=rx;exact⟨zt I2 g,zq hu I2 g ry fun w' s3 I3 Mr=>⟨v,H2,I3,Mr,q2⟩⟩
theorem fU (hu:X.A.units+1<cLine) (ho:PE X o td) (hi:PE X i ty) (hv:PE X value tv) (hs:swapsWith value (some (.Subscript o i K9)) pos.line X.env=pure false):
  PS X (.Assign [.Subscript o i K9] value pos) (zw td ty tv):=by
 intro KO s σ H D I h;refine wpAny_Assign_Subscript (thn (hv KO s σ H _ I h) fun r s1 ⟨v,H1,I1,rv,q1⟩=>thn (ho KO s1 σ H1 _ I1 q1) fun u s2 ⟨x,H2,I2,rx,q2⟩=>thn (hi KO s2 σ H2 _ I2 q2) fun iv s3 ⟨y,H3,I3,ry,a,H4,ex,g,q3⟩=> ?_) hs;subst ex;obtain rfl:u=Value.ref a:=rx;exact zr hu I3 g ry rv fun s4 I4=>⟨σ,H4,I4,q3⟩
end
def zx (h:Qv) (hb:sysModules<h.objs.size):aD P w H (h.push {cls:= .type "dict",data:= .dict #[]}) h.objs.size (.dK []):=
 ⟨AL _,CK.mpr (BG (AO hb)),[], .nil,Heap.DictOf.new h⟩
def rA (h:Qv) (hb:sysModules<h.objs.size):aD P w H (h.push {cls:= .type "dict",data:= .dict #[]}) h.objs.size (.dT []):=
 ⟨AL _,CK.mpr (BG (AO hb)),[], .nil,_, #[],0,AB _ rfl,⟨rfl,rfl,rfl⟩,rfl,rfl,DQ⟩
def zy:TE:=fun _ H Q=>∀p,H p=none->Q (.ref p) (upd H p (.dK []))
def zA:TE:=fun _ H Q=>∀p,H p=none->Q (.ref p) (upd H p (.dT []))
section
variable {X:Cx}{pos:Pos}
def jQ:PE X (.Dict [] [] pos) zy:=fun KO s σ H Q I h=>
 wpAny_Dict_empty ⟨.ref s.heap.objs.size,_,I.laid (a:=s.heap.objs.size) (o:= .dK []) (t':=s.toks) (fun _ _ q=>A4 _ q) (A' _) (zx s.heap I.big),rfl,h _ (I.hok.fresh (A' _))⟩
def zC:PE X (.Dict [] [] pos) zA:=fun KO s σ H Q I h=>
 wpAny_Dict_empty ⟨.ref s.heap.objs.size,_,I.laid (a:=s.heap.objs.size) (o:= .dT []) (t':=s.toks) (fun _ _ q=>A4 _ q) (A' _) (rA s.heap I.big),rfl,h _ (I.hok.fresh (A' _))⟩
end
structure M2 (X:Cx) (o:Qu) (m:Str) (Li:Pos) (e f:Qu) (K3:Pos):Prop where
 base:attributeBase o m X.env (eval o X.env)=eval o X.env
 few:((backTo K3 (starEach [e,f] X.env)).all (fun x=> !x.1)&&(backToKw K3 (keywordEach [] X.env)).all (fun x=>x.1.isSome)
  &&decide (([e,f]:List Expr).length+([]:List Keyword).length+(if([]:List Keyword).isEmpty then 0 else 1)<30))=true
 line:(Li.endLine==K3.line)=true
 trees:backTo K3 (starEach [e,f] X.env)=[(false,eval e X.env),(false,eval f X.env)]
def IsD (H:Hp) (a:Qo):Prop:=(∃kvs,Rd H a (.dK kvs))\/∃kvs,Rd H a (.dT kvs)
theorem rB {σ:St}(I:Inv X KO σ H s) (d:IsD H a):
  s.TypeIs (.ref a) "dict"/\(∀b,Value.ref a= .ref b->∃ob,s.heap.get? b=some ob/\ob.dict=none)/\(a==sysModules)=false:=by
 rcases d with⟨kvs,e⟩|⟨kvs,e⟩
 .obtain⟨_,hd,vs,_,dd⟩:=gF I.hok e;refine⟨dd.typeIs,fun b q=> ?_,hd⟩;cases q;obtain⟨ob,_,_,h1,h2,_⟩:=dd;exact⟨ob,h1,h2.2.1⟩
 .obtain⟨_,hd,xs,_,dd⟩:=iO I.hok e;refine⟨dd.typeIs,fun b q=> ?_,hd⟩;cases q;obtain⟨ob,_,_,h1,h2,_⟩:=dd;exact⟨ob,h1,h2.2.1⟩
section
variable {X:Cx}{KO:Qt (Qo×Obj)}{σ:St}{H:Hp}{s:Qn}{a:Qo}{y d:V}{u r:NR}{o:Qw V}{A:Qs}{E:NR->Qn->Prop}
theorem zD (hu:A.units+1<cLine) (I:Inv X KO σ H s) (g:cJ H a y o) (ry:aw y u) (rd:aw d r) (h:∀w' s',Inv X KO σ H s'->aw (o.getD d) w'->Q w' s'):
  wpAny (model X.prog X.w) A (call (.builtin "dict.get") [.ref a,u,r]) Q E s:=by
 rcases g with⟨kvs,k,e,ey,l⟩|⟨kvs,k,b,e,ey,eb,l⟩
 .subst ey;obtain⟨z,hd,vs,K2,dd⟩:=gF I.hok e;refine call_meetsIn PySem.F.slot_dict_get dd.typeIs PySem.F.entry_dict_get (PySem.F.args_dict_get_3 _ _ _) (meets_dict_get_default (bT X.prog X.w) a (jP ry) hd r) ⟨_,dd.mapOf,h _ _ (I.tok _) ?_⟩;rw[l];exact(K2.val k).getD rd
 .subst ey;cases (show u=Value.ref b from ry);obtain⟨z,hd,xs,K2,dd⟩:=iO I.hok e;refine call_meetsIn PySem.F.slot_dict_get dd.typeIs PySem.F.entry_dict_get (PySem.F.args_dict_get_3 _ _ _) (meetsH_dict_get_default (tupleKind (bT X.prog X.w)) a b hd r) ⟨tupleKind_room_in1 hu,k,xs,iN I.hok eb,dd,h _ _ (I.tok _) ?_⟩;rw[l];exact(K2.val k).getD rd
end
inductive tDGet2_ (ty:TE) (tx:TE) (σ:St) (Q:VK) (x:V) (H1:Hp):Prop
 |mk a:x= .ref a->IsD H1 a->(ty σ H1 fun y H2=>tx σ H2 fun z H3=>∃o,cJ H3 a y o/\Q (o.getD z) H3)->tDGet2_ ty tx σ Q x H1
def zE (td ty tx:TE):TE:=fun σ H Q=>td σ H fun x H1=>tDGet2_ ty tx σ Q x H1
section
variable {X:Cx}{o e f:Qu}{Li K3:Pos}{td ty tx:TE}
theorem lV (hu:X.A.units+1<cLine) (ho:PE X o td) (he:PE X e ty) (hf:PE X f tx) (m:M2 X o "get" Li e f K3):PE X (.Call (.Attribute o "get" Li) [e,f] [] K3) (zE td ty tx):=by
 intro KO s σ H Q I h;refine wpAny_Call_method m.base m.few m.line PySem.F.plainAttrs_dict PySem.F.slot_dict_get PySem.F.type_dict_get (thn (ho KO s σ H _ I h) fun u s1 ⟨x,H1,I1,rx,a,ex,d,q1⟩=> ?_);subst ex;obtain rfl:u=Value.ref a:=rx;obtain⟨t1,t2,_⟩:=rB I1 d;refine⟨t1,t2, ?_⟩;rw[m.trees];refine Calls.callWith_builtin rfl (Calls.evalArgs_plain (Ca (thn (he KO s1 σ H1 _ I1 q1) fun iv s2 ⟨y,H2,I2,ry,q2⟩=>
  Ca (thn (hf KO s2 σ H2 _ I2 q2) fun fv s3 ⟨z,H3,I3,rz,ov,g,q3⟩=>Calls.spliced_nil ?_))))
 exact zD hu I3 g ry rz fun w' s4 I4 Mr=>⟨_,H3,I4,Mr,q3⟩
end
section
variable {X:Cx}{KO:Qt (Qo×Obj)}{σ:St}{H:Hp}{s:Qn}{a:Qo}{kvs:Qt (Key×V)}{A:Qs}{E:NR->Qn->Prop}
theorem zF (I:Inv X KO σ H s) (e:Rd H a (.dK kvs)) (h:∀p s',H p=none->Inv X KO σ (upd H p (.dK kvs)) s'->Q (.ref p) s'):wpAny (model X.prog X.w) A (call (.type "dict") [.ref a]) Q E s:=by
 obtain⟨z,hd,vs,K2,dd⟩:=gF I.hok e;refine kt_call_dict hd dd (by rw[<-K2.length];exact z) fun h' Oj hs=> ?_;refine h _ _ (I.hok.fresh (A' _)) (I.laid (a:=s.heap.objs.size) (o:= .dK kvs) (t':=s.toks) (fun b q hq=> ?_) (A' _) (rq z (CK.mpr (BG (AO I.big))) K2 Oj));exact(hs.2 b (AO (AM hq))).trans (A4 _ hq)
end
section
variable {X:Cx}{pos:Pos}{a b c d:Qu}{ta tb tc td:TE}
theorem lW:bL X (.builtin "isinstance") (fun xs H Q=>∃x n t b,xs=[x, .ty n]/\TyOf X.K H x t/\W.kitOne X.K t (.type n)=some b/\Q (.bl b) H):=by
 intro KO s σ H xs us Q I r h;obtain⟨x,n,t,b,rfl,ty,e,q⟩:=h;obtain⟨u,w',rfl,ru,Mr⟩:=fR r;obtain rfl:w'=Value.type n:=Mr;exact yL I ru ty e fun tk=>⟨.bl b,H,I.tok tk,rfl,q⟩
end
section
open PySem.W
variable {K:Frag}
theorem rC {t:String}:kitOne K (.type t) (.type t)=some true:=by
 unfold kitOne;rw[A7 (by simp)]
theorem gH {t c:String}{b:Bool} (h1:(Value.type t==Value.type c)=false) (h2:kitMeta c=true) (h3:(fastBuiltinMro t).map (·.contains (Value.type c))=some b):kitOne K (.type t) (.type c)=some b:=by
 unfold kitOne;rw[A5 (by rw[h1];decide)];unfold kitCls;show(if kitMeta c=true then subIn K (.type t) (.type c) else none)=some b;rw[A7 h2];exact h3
theorem zG:kitOne K (.type "int") (.type "bool")=some false:=gH (by ac_nf) (by ac_nf) (by ac_nf)
theorem zH:kitOne K (.type "bool") (.type "int")=some true:=gH (by ac_nf) (by ac_nf) (by ac_nf)
end
theorem bz [Decidable c] (h1:c->A) (h2:¬c->B):if decide c=true then A else B:=by
 by_cases h:c
 .rw [A7 (At h)];exact h1 h
 .rw [A5 (by rw[Ae h];decide)];exact h2 h
theorem zI [Decidable c] (h1:¬c->A) (h2:c->B):if(!decide c)=true then A else B:=by
 by_cases h:c
 .rw [A5 (by rw[At h];decide)];exact h2 h
 .rw [A7 (by rw[Ae h];rfl)];exact h1 h
def de {i:Int} (h1:i=j->A) (h2:i≠j->B):if decide (V.int i=V.int j)=true then A else B:=bz (fun h=>h1 (V.int.inj h)) fun h=>h2 fun e=>h (BU V.int e)
def zJ {i:Int} (h1:i≠j->A) (h2:i=j->B):if(!decide (V.int i=V.int j))=true then A else B:=zI (fun h=>h1 fun e=>h (BU V.int e)) fun h=>h2 (V.int.inj h)
theorem ae.put {o:HO} (s:ae H H1) (n:H l=none):ae H (upd H1 l o):=fun b u e=>by
 rw[ar (bw e n)];exact s b u e
def ae.new {o:HO} (n:H l=none):ae H (upd H l o):=(ae.refl H).put n
theorem zK {prog:Program}{w:World}{A:Around}{R:Result->Shared->Prop}{s:Shared}{LF:Expr}{it acc:Value}(I:Nat->Shared->Prop)
  (turn:∀n s,I n s->wpAny (model prog w) A (pyNext it) (fun r s₁=>match r with
   |none=>R (.ok .next) s₁
   |some v=>wpAny (model prog w) A (letOwnedTupleGo LF it v) (fun _ s₁'=>wpAny (model prog w) A (assign LF env v) (fun _ s₂=>
     wpAny (model prog w) A (forIn LX true fun c r=>if r=true then do let ok<-isTrue c env (eval c env);pure (ForInStep.yield ok) else pure (ForInStep.yield r)) (fun ok s₃=>
      if ok=true then wpAny (model prog w) A (eval Mi env) (fun x s₄=>
       wpAny (model prog w) A (call (.builtin "list.append") [acc,x]) (fun _ s₅=>∃m,m<n/\I m s₅) (notedBy (model prog w) A env fun e s'=>R (.error e) s') s₄) (notedBy (model prog w) A env fun e s'=>R (.error e) s') s₃
      else∃m,m<n/\I m s₃) (notedBy (model prog w) A env fun e s'=>R (.error e) s') s₂) (notedBy (model prog w) A env fun e s'=>R (.error e) s') s₁') (notedBy (model prog w) A env fun e s'=>R (.error e) s') s₁) (notedBy (model prog w) A env fun e s'=>R (.error e) s') s)
  (n:Nat) (h:I n s):
  codeAny (model prog w) A (.compLoop (.ListComp Mi [⟨LF,KY,LX,0⟩] scope pos) 0 it acc env) R s:=by
 refine codeAny_loop rfl I (fun n s hI=> ?_) n h;show wpAny _ A ((compTurn (.ListComp Mi [⟨LF,KY,LX,0⟩] scope pos) 0 it acc env).onRaise (fun x=>do noteFrame x env;theTreesLotGoes x)) _ _ s;refine wpAny_noted ?_;rw[compTurn_list];refine A0 (wpAny_standAt (A0 (Bv (turn n s hI) (fun r s₁ h₁=> ?_) fun _ _ h'=>h')));cases r with
 |none=>exact A3 h₁
 |some v=>
  refine A0 (Bv h₁ (fun _ s₁' h₁'=>A0 (Bv h₁' (fun _ s₂ h₂=>A0 (Bv h₂ (fun ok s₃ h₃=> ?_) fun _ _ h'=>h')) fun _ _ h'=>h')) fun _ _ h'=>h');cases ok with
  |false=>exact A3 ⟨rfl,h₃⟩
  |true=>
   exact A0 (A0 (Bv h₃ (fun x s₄ h₄=>A0 (Bv h₄ (fun _ s₅ h₅=>A3 (A3 ⟨rfl,h₅⟩)) fun _ _ h'=>h')) fun _ _ h'=>h'))
def cK (env:Env):Qt (Str×NameKind)->Qt (Str×Qo)->Qt (Str×Qo)
 |[],cs=>cs
 |(n,k)::r,cs=>cK env r (if k= .free then(n,(env.cells.lookup n).getD 0)::cs else cs)
theorem lX {env:Env}:∀(ns:List (Str×NameKind)) (cs:List (Str×Addr)),(∀y∈ns,y.2= .free->∃c,env.cells.lookup y.1=some c)->
  (forIn ns cs fun(x:Str×NameKind) (r:List (Str×Addr))=>(if(x.2== .free)=true then do let c<-cellOf env x.1;pure (ForInStep.yield ((x.1,c)::r)) else pure (ForInStep.yield r):Sem (ForInStep (List (Str×Addr)))))=(pure (cK env ns cs):Sem _)
 |[],cs,_=>rfl
 |(n,k)::r,cs,h=>by
  have hr:=fun y hy=>h y (AQ _ hy);by_cases hk:k= .free
  .obtain⟨c,hc⟩:=h (n,k) AW hk;subst hk;rw[List.forIn_cons];have e:cellOf env n=pure c:=by unfold cellOf;rw[hc]
   simp only[beq_self_eq_true,C0,e,pure_bind];rw[lX r _ hr];show _=pure (cK env r (if NameKind.free=NameKind.free then(n,(env.cells.lookup n).getD 0)::cs else cs));rw[A7 rfl,show env.cells.lookup n=some c from hc];rfl
  .have hb:(k==NameKind.free)=false:=by simpa using hk
   rw[List.forIn_cons];simp only[hb,AG,Ap,pure_bind];rw[lX r _ hr];show _=pure (cK env r (if k=NameKind.free then(n,(env.cells.lookup n).getD 0)::cs else cs));rw[A5 hk]
theorem zL (h:∀y∈scope.names,y.2= .free->∃c,env.cells.lookup y.1=some c):closureFor scope env=pure (cK env scope.names []):=by
 unfold closureFor;have e:=lX scope.names [] h;simp only[bind_pure] at e⊢;exact e
theorem rD {env:Env}{x:Str}{c:Qo}:∀(ns:Qt (Str×NameKind)) (cs:Qt (Str×Qo)),(∀y∈ns,y.2= .free->∃c,env.cells.lookup y.1=some c)->(∀x c,cs.lookup x=some c->env.cells.lookup x=some c)->
  (cK env ns cs).lookup x=some c->env.cells.lookup x=some c
 |[],cs,_,hc,e=>hc x c e
 |(n,k)::r,cs,h,hc,e=>by
  unfold cK at e;refine rD r _ (fun y hy=>h y (AQ _ hy)) (fun x' c' e'=> ?_) e;by_cases hk:k= .free
  .rw [A7 hk] at e';obtain⟨c0,h0⟩:=h (n,k) AW hk;rw[h0] at e';rw[CM] at e';by_cases q:x'==n
   .rw [q] at e';cases e';rw[DO.mp q];exact h0
   .have q':(x'==n)=false:=by simpa using q
    rw[q'] at e';exact hc x' c' e'
  .rw [A5 hk] at e';exact hc x' c' e'
theorem rE {env:Env}{x:Str}:∀(ns:Qt (Str×NameKind)) (cs:Qt (Str×Qo)),(∃c,cs.lookup x=some c)->∃c,(cK env ns cs).lookup x=some c
 |[],cs,h=>h
 |(n,k)::r,cs,h=>by
  unfold cK;refine rE r _ ?_;by_cases hk:k= .free
  .rw [A7 hk,CM];by_cases q:x==n
   .rw [q];exact⟨_,rfl⟩
   .have q':(x==n)=false:=by simpa using q
    rw[q'];exact h
  .rw [A5 hk];exact h
theorem lY {env:Env}{x:Str}:∀(ns:Qt (Str×NameKind)) (cs:Qt (Str×Qo)),(x,NameKind.free)∈ns->∃c,(cK env ns cs).lookup x=some c
 |(n,k)::r,cs,h=>by
  unfold cK;rcases AI.mp h with e|e
  .cases e;rw[A7 rfl];exact rE r _ ⟨_,by rw[CM,beq_self_eq_true]⟩
  .exact lY r _ e
def Cx.comp (X:Cx) (scope:Scope) (C:Qo) (N:Qt Str) (s₀:Qn) (H₀:Hp) (ex:Qt Qo) (E:NR->Qn->Prop):Cx where
 prog:=X.prog
 w:=X.w
 K:=X.K
 mg:=X.mg
 base:=X.base
 A:=X.A
 N:=N
 s₀:=s₀
 H₀:=H₀
 env:=compEnvC scope (cK X.env scope.names []) C X.env
 outer:=X.stack
 stack:=X.stack
 ex:=ex
 fn:=fun _=>false
 calm:=X.calm
 pn:=[]
 xe:=E
def fV (X:Cx) (LX:List Expr) (t:TT):Prop:=
 ∀(KO:List (Addr×Obj)) (s:Shared) (σ:St) (H:Hp) (Q:Bool->Hp->Prop),Inv X KO σ H s->t σ H Q->
  wpAny (model X.prog X.w) X.A (forIn LX true fun c r=>if r=true then do let ok<-isTrue c X.env (eval c X.env);pure (ForInStep.yield ok) else pure (ForInStep.yield r)) (TP X KO σ Q) X.xe s
def jR:TT:=fun _ H Q=>Q true H
def dz :fV X [] jR:=fun _ _ _ H _ I h=>wpAny_tests_nil ⟨H,I,h⟩
def iP {c:Qu}{t:TT} (h:PT X c t):fV X [c] t:=fun KO s σ H Q I q=>wpAny_tests_one (h KO s σ H Q I q)
def dA (own:Nat) (js:Qt Nat) (σ:St):St:=List.replicate own none++js.map fun j=>(σ[j]?).getD none
def iQ (J:It) (own:Nat) (js:Qt Nat) (g:TG) (ti:TT) (te:TE) (σ:St) (H1:Hp) (acc:Qo) (Q:VK):Prop:=
 ∃Wq:Nat->Nat->Hp->Prop,(∃m,Wq 0 m (upd H1 acc (.lst [])))/\∀i m H2,Wq i m H2->
  (J.stop i H2/\Q (.ref acc) H2)\/(J.go i H2/\∀x H3,J.yld i H2 x H3->g x (dA own js σ) H3 fun σ4 H4=>ti σ4 H4 fun b H5=>
   if b=true then te σ4 H5 fun y H6=>rAppend (.ref acc) [y] H6 fun _ H7=>∃m',m'<m/\Wq (i+1) m' H7 else∃m',m'<m/\Wq (i+1) m' H5)
def iR (own:Nat) (js:Qt Nat) (wi:TI) (g:TG) (ti:TT) (te:TE):TE:=fun σ H Q=>wi σ H fun J H1=>∀acc,H1 acc=none->iQ J own js g ti te σ H1 acc Q
def fW {α:Type}{t:Sem α}{Q Q':α->Qn->Prop}{M:Model}{A:Qs}(h:wpAny M A t Q (fun _ _=>False) s) (hQ:∀a s,Q a s->Q' a s):wpAny M A t Q' E s:=Bv h hQ fun _ _ f=>f.elim
theorem lZ {scope:Scope}{env:Env}{x:Str}:∀{names:Qt (Str×NameKind)},((names.map fun(n,k)=>if(k==NameKind.free&&env.scope.kind== .function&&env.kindOf n==some .cell) then(n,NameKind.cell) else(n,k)).lookup x=some .cell\/
  (names.map fun(n,k)=>if(k==NameKind.free&&env.scope.kind== .function&&env.kindOf n==some .cell) then(n,NameKind.cell) else(n,k)).lookup x=some .free)->(∀y∈names,y.2≠ .cell)->(x,NameKind.free)∈names
 |[],h,_=>by simp at h
 |(n,k)::r,h,hc=>by
  have hr:∀y∈r,y.2≠ .cell:=fun y hy=>hc y (AQ _ hy);have h0:k≠ .cell:=hc (n,k) AW;rw[AE,CM] at h;by_cases hb:(k==NameKind.free&&env.scope.kind== .function&&env.kindOf n==some .cell)=true
  .rw [A7 hb] at h;dsimp only at h;by_cases q:x==n
   .have hk:k= .free:=by simp only[AN,DO] at hb;exact hb.1.1
    rw[DO.mp q,hk];exact AW
   .have q':(x==n)=false:=by simpa using q
    rw[q'] at h;exact AQ _ (lZ (scope:=scope) h hr)
  .rw [A5 hb] at h;dsimp only at h;by_cases q:x==n
   .rw [q] at h;dsimp only at h;have hk:k= .free:=by
     rcases h with h|h
     .exact absurd (Ac h) h0
     .exact Ac h
    rw[DO.mp q,hk];exact AW
   .have q':(x==n)=false:=by simpa using q
    rw[q'] at h;exact AQ _ (lZ (scope:=scope) h hr)
def fX (own:Nat) (g:TG):Prop:=∀v σ H (Q:St->Hp->Prop),g v σ H Q->g v σ H fun σ' H'=>Q σ' H'/\σ'.length=σ.length/\∀i,own<=i->σ'[i]? =σ[i]?
theorem cU (h:i<own):fX own (cq i):=fun v σ H Q q=>⟨q,C1 ..,fun j hj=>by rw[Cc (by lia)]⟩
theorem zM (own:Nat) (js:Qt Nat) (σ:St):(dA own js σ).length=own+js.length:=by simp[dA]
theorem rF {σ:St}(h:(dA own js σ)[i]? =some (some v)):own<=i/\∃j,js[i-own]? =some j/\σ[j]? =some (some v):=by
 unfold dA at h;by_cases hi:i<own
 .rw [Bf (by simpa using hi),List.getElem?_replicate,A7 hi] at h;cases h
 .rw [BO (by simpa using hi),Bk,AC] at h;refine⟨by lia, ?_⟩;cases e:js[i-own]? with
  |none=>rw[e] at h;cases h
  |some j=>
   rw[e] at h;refine⟨j,rfl, ?_⟩;have h':(σ[j]?).getD none=some v:=Ac h;cases e2:σ[j]? with
   |none=>rw[e2] at h';cases h'
   |some o=>rw[e2] at h';exact BU some h'
theorem rG {Mi KY:Qu}{LX:Qt Qu}{pos ps:Pos}{wi:TI}{ti:TT}(hc:X.calm=true)
  (Ll:∀y∈scope.names,y.2≠ .cell) (Lx:scope.kind= .function) (LY:∀y∈scope.names,y.2= .local->scope.names.lookup y.1=some .local)
  (LJ:∀y∈scope.names,y.2= .free->X.env.kindOf y.1=some .cell\/X.env.kindOf y.1=some .free) (KS:N.length=own+js.length)
  (MU:∀(i j:Nat) (x:Str),js[i]? =some j->N[own+i]? =some x->X.N[j]? =some x/\(x,NameKind.free)∈scope.names/\(X.env.kindOf x=some .cell\/X.env.kindOf x=some .free)/\((relabel scope X.env).names.lookup x=some .cell\/(relabel scope X.env).names.lookup x=some .free))
  (hi:PI X tg KY wi) (hg:∀C s₀ H₀ ex,PG (X.comp scope C N s₀ H₀ ex fun _ _=>False) tg g) (ho:fX own g) (ht:∀C s₀ H₀ ex,fV (X.comp scope C N s₀ H₀ ex fun _ _=>False) LX ti) (he:∀C s₀ H₀ ex,PE (X.comp scope C N s₀ H₀ ex fun _ _=>False) Mi te)
  {σ:St}{Q:VK}{use:Qw (NR->Sem Unit)}{RQ:NR->Qn->Prop} (I:Inv X KO σ H s) (h:iR own js wi g ti te σ H Q)
  (fin:∀(acc C:Qo) (H3:Hp) (s4:Qn) (m:Str->Qw NR),Inv X KO σ H3 s4->s4.heap.Ns C m->H3 C=none->C≠X.env.locals->C∉X.fs->X.s₀.heap.objs.size<=C->(∀x c,X.env.cells.lookup x=some c->c≠C)->(∀p∈X.pn++KO,p.1≠C)->
   Q (.ref acc) H3->compPost (model X.prog X.w) X.A X.xe use RQ (.ref acc) C (.ok .next) s4)
  (hs:∀x,foldedSetIterable KY X.env x=pure x:=by intro _;rfl):
  wpAny (model X.prog X.w) X.A (comprehension (.ListComp Mi [⟨tg,KY,LX,0⟩] scope pos) scope X.env ps (newList []) false (eval KY X.env) use) RQ X.xe s:=by
 have PD:∀y∈scope.names,y.2= .free->∃c,X.env.cells.lookup y.1=some c:=fun y hy hf=>I.ok.has y.1 (LJ y hy hf);refine wpAny_comprehension_free (use:=use) rfl hs (zL PD) Lx LY (thn (hi KO s σ H _ I h) fun v s1 h1=>thn h1 fun itv s2 h2=> ?_);obtain⟨it,fp,tn,J,H2,e,I2,T,Nm,f2,q⟩:=h2;subst e;have nf:H2 s2.heap.objs.size=none:=I2.hok.fresh (A' _);obtain⟨Wq,⟨m0,w0⟩,turn⟩:=q s2.heap.objs.size nf;refine Am (wpAny_newFunctionEnv Ll (by intro y hy;simp at hy) (fun h₁ PF Oy=> ?_) Lx);dsimp only at PF Oy⊢;generalize hP2:s2.heap.push {cls:= .type "list",dict:=none,data:= .seq ([]:Qt NR).toArray}=P2 at PF Oy⊢;have hC:P2.objs.size=s2.heap.objs.size+1:=by rw[<-hP2,An]
 have OY:s2.heap.objs.size<P2.objs.size:=by rw[hC];exact BN _
 have kp:∀b o,s2.heap.get? b=some o->h₁.get? b=some o:=fun b o e=>Oy.extBut b o (AO (Nat.lt_trans (AM e) OY)) (A4 _ (hP2▸A4 _ e));have KR:h₁.get? s2.heap.objs.size=some {cls:= .type "list",dict:=none,data:= .seq ([]:Qt NR).toArray}:=Oy.extBut _ _ (AO OY) (A4 _ (hP2▸AB _ rfl));have PH:∀x c,(cK X.env scope.names []).lookup x=some c->X.env.cells.lookup x=some c:=fun x c e=>rD scope.names [] PD (fun _ _ z=>by simp at z) e;have cne:∀x c,(cK X.env scope.names []).lookup x=some c->c<s2.heap.objs.size/\H2 c=none:=fun x c e=>by
  obtain⟨v,o,ho,hd⟩:=I2.cell x c (PH x c e);exact⟨AM ho,I2.freeC x c (PH x c e)⟩
 have fpl:∀b∈fp,b<s2.heap.objs.size:=fun b hb=>by
  obtain⟨o,e,_⟩:=T.obj 0 _ Nm b hb;exact AM e
 have hX:(X.comp scope P2.objs.size N s2 H2 fp fun _ _=>False).Ok:={
  mod:=I.ok.mod
  kind:=Lx
  glob:=I.ok.glob
  blt:=I.ok.blt
  above:=Ad OY
  inj:=fun x y c a b=>I.ok.inj x y c (PH x c a) (PH y c b)
  has:=fun x hx=>lY scope.names [] (lZ (scope:=scope) (env:=X.env) hx Ll)
  cab:=fun x c a _=>by cases (show false=true from a)
  hd:=I.ok.hd
  frames:=I.ok.frames
  stk:= .inl rfl
  exf:=fun b hb=>⟨AO (Nat.lt_trans (fpl b hb) OY),fun x c a=>(f2 b hb).2.2.2.2.1 x c (PH x c a)⟩
  bs:=I2.bs
  bsz:=B9 I.ok.bsz I2.sz
  noex:=fun b o e hb=>by
   rcases(f2 b hb).2.2.2.1 with z|z
   .exact I.ok.noex b o e z
   .exact absurd (Aj (Aj (AM e) I.ok.bsz) z) (Bb _)
  exfs:=fun b hb z=>by
   rcases AI.mp (I2.stkSub b z) with z|z
   .exact(f2 b hb).2.1 z
   .exact(f2 b hb).2.2.1 z
  funs:=I2.stack
  frf:=I2.stkFree}
 have I3:∀tk,Inv (X.comp scope P2.objs.size N s2 H2 fp fun _ _=>False) [] (dA own js σ) (upd H2 s2.heap.objs.size (.lst [])) {s2 with heap:=h₁,toks:=tk}:=fun tk=>{
  ok:=hX
  os:=rfl
  bare:=I2.bare
  base:=Un.laid kp (A' _) nf
  loc:=⟨_,PF,fun i x v a b c=>by
   obtain⟨hio,j,hj,hv⟩:=rF b;obtain⟨h3,h4,h5,h6⟩:=MU (i-own) j x hj (by rw[show own+(i-own)=i by lia];exact a);obtain⟨m,hn,hl⟩:=I2.loc;obtain⟨u,ru,lk⟩:=hl j x v h3 hv (.inr h5);refine⟨u,ru, .inr ⟨h6, ?_⟩⟩;rcases lk with⟨z,_⟩|⟨_,c0,z1,z2⟩
   .rcases h5 with h5|h5<;>(rw[h5] at z;cases z)
   .obtain⟨c1,hc1⟩:=lY (env:=X.env) scope.names [] h4;have:=PH x c1 hc1;rw[z1] at this;cases this;obtain⟨o,ho,hd⟩:=z2;exact⟨c0,hc1,o,kp _ _ ho,hd⟩⟩
  cell:=fun x c a=>by
   obtain⟨v,o,ho,hd⟩:=I2.cell x c (PH x c a);exact⟨v,o,kp _ _ ho,hd⟩
  free:=by
   show upd H2 _ _ P2.objs.size=none;rw[ar (Bn OY)];exact I2.hok.fresh (Ad OY)
  freeC:=fun x c a=>by
   rw[ar (AO (cne x c a).1)];exact(cne x c a).2
  pin:=fun p hp=>absurd (show p∈([]:Qt (Qo×Obj)) from hp) (by simp)
  hok:=I2.hok.laid kp (A' _) ⟨AL _,[],0, .nil,KR⟩
  len:=by rw[zM];exact KS.symm}
 have fr0:∀b∈fp,upd H2 s2.heap.objs.size (.lst []) b=none:=fun b hb=>by
  rw[ar (AO (fpl b hb))];exact(f2 b hb).1
 have st3:tn 0 h₁:=T.keep 0 _ _ Nm fun b _ o e=>kp b o e;have MT:∀{H':Hp},(∀b∈fp,H' b=none)->∀b∈fp,cr (X.comp scope P2.objs.size N s2 H2 fp fun _ _=>False) [] H' b:=fun hn b hb=>
  ⟨hn b hb,(hX.exf b hb).1,hX.exfs b hb, .inl hb,fun x c a=>(hX.exf b hb).2 x c a,fun p hp=>absurd (show p∈([]:Qt (Qo×Obj)) from hp) (by simp)⟩
 have loop:∀s₃:Qn,s₃={s2 with heap:=h₁,toks:=s2.toks+([]:Qt (Str×NR)).length}->
   codeAny (model X.prog X.w) X.A (.compLoop (.ListComp Mi [⟨tg,KY,LX,0⟩] scope pos) 0 (.ref it) (.ref s2.heap.objs.size) (compEnvC scope (cK X.env scope.names []) P2.objs.size X.env))
    (compPost (model X.prog X.w) X.A X.xe use RQ (.ref s2.heap.objs.size) P2.objs.size) s₃:=by
  rintro s₃ rfl;refine zK (fun n s'=>∃i H',Inv (X.comp scope P2.objs.size N s2 H2 fp fun _ _=>False) [] (dA own js σ) H' s'/\tn i s'.heap/\(∀b∈fp,H' b=none)/\Wq i n H') ?_ m0 ⟨0,_,I3 _,st3,fr0,w0⟩;rintro n s3 ⟨i,H3,J3,t3,fr3,w3⟩;rcases turn i n H3 w3 with⟨stop,qd⟩|⟨go,step⟩
  .refine fW (T.done (X.comp scope P2.objs.size N s2 H2 fp fun _ _=>False) rfl rfl rfl hc i [] s3 _ H3 _ J3 (MT fr3) t3 stop) fun r s4 ⟨hr,J4⟩=> ?_;subst hr;obtain⟨m,hn,_⟩:=J4.loc;have B:Un (frs X.stack) fp H2 H3 s2.heap s4.heap:=J4.base;have I5:Inv X KO σ H3 s4:=I2.call' J4.os B J4.hok J4.bare fun b hb=>by
    obtain⟨a1,a2,a3,a4,a5,a6⟩:=f2 b hb;exact⟨a4,a2,a5,a6⟩
   have hp:=I2.fpOk (H':=H3) (b:=P2.objs.size) (Ad OY) J4.free;obtain⟨a1,a2,a3,a4,a5,a6⟩:=hp;exact fin s2.heap.objs.size P2.objs.size H3 s4 m I5 hn a1 a2 a3 (B9 I2.sz (Ad OY)) a5 a6 qd
  .refine fW (T.item (X.comp scope P2.objs.size N s2 H2 fp fun _ _=>False) rfl rfl rfl hc i [] s3 _ H3 _ J3 (MT fr3) t3 go) fun r s4 ⟨u,hr,h4⟩=> ?_;subst hr;refine fW h4 fun _ s5 ⟨x,H5,J5,r5,y5,t5,fr5⟩=> ?_;have J5':=J5.pinned (MT fr5) (T.obj _ _ t5);refine fW (hg _ _ _ _ _ s5 _ H5 x u _ J5' r5 (ho _ _ _ _ (step x H5 y5))) fun _ s6 ⟨σ6,H6,J6,q6,OZ,NA⟩=> ?_;have again:∀{s7:Qn}{H7:Hp},Inv (X.comp scope P2.objs.size N s2 H2 fp fun _ _=>False) ([]++iG fp s5.heap) σ6 H7 s7->(∃m',m'<n/\Wq (i+1) m' H7)->
     ∃m,m<n/\∃i H',Inv (X.comp scope P2.objs.size N s2 H2 fp fun _ _=>False) [] (dA own js σ) H' s7/\tn i s7.heap/\(∀b∈fp,H' b=none)/\Wq i m H':=fun{s7 H7} J7 z=>by
    obtain⟨m',hm,w7⟩:=z;refine⟨m',hm,i+1,H7,J7.unpinned.weak (by rw[OZ]) (fun k v z=> ?_),T.keep _ _ _ t5 fun b hb o e=>(J7.pin (b,o) (B0 _ (B0 _ (jK hb e)))).1,fun b hb=> ?_,w7⟩
    .rw [NA k (rF z).1];exact z
    .obtain⟨o,e,d⟩:=T.obj _ _ t5 b hb;exact(J7.pin (b,o) (B0 _ (B0 _ (jK hb e)))).2.1
   refine fW (ht _ _ _ _ _ s6 σ6 H6 _ J6 q6) fun ok s7 ⟨H7,J7,q7⟩=> ?_;cases ok with
   |false=>exact again J7 q7
   |true=>
    refine fW (he _ _ _ _ _ s7 σ6 H7 _ J7 q7) fun y s8 ⟨yv,H8,J8,r8,q8⟩=> ?_;exact fW (ck _ s8 σ6 H8 (.ref s2.heap.objs.size) [yv] (.ref s2.heap.objs.size) [y] _ J8 rfl (.cons r8 .nil) q8) fun _ s9 ⟨_,H9,J9,_,q9⟩=>again J9 q9
 exact codeAny_compStart_list (loop _ rfl) (T.self X.A 0 _ _ _ st3 (loop _ rfl))
theorem zN {Mi KY:Qu}{LX:Qt Qu}{pos:Pos}{wi:TI}{ti:TT}(hc:X.calm=true)
  (Ll:∀y∈scope.names,y.2≠ .cell) (Lx:scope.kind= .function) (LY:∀y∈scope.names,y.2= .local->scope.names.lookup y.1=some .local)
  (LJ:∀y∈scope.names,y.2= .free->X.env.kindOf y.1=some .cell\/X.env.kindOf y.1=some .free) (KS:N.length=own+js.length)
  (MU:∀(i j:Nat) (x:Str),js[i]? =some j->N[own+i]? =some x->X.N[j]? =some x/\(x,NameKind.free)∈scope.names/\(X.env.kindOf x=some .cell\/X.env.kindOf x=some .free)/\((relabel scope X.env).names.lookup x=some .cell\/(relabel scope X.env).names.lookup x=some .free))
  (hi:PI X tg KY wi) (hg:∀C s₀ H₀ ex,PG (X.comp scope C N s₀ H₀ ex fun _ _=>False) tg g) (ho:fX own g) (ht:∀C s₀ H₀ ex,fV (X.comp scope C N s₀ H₀ ex fun _ _=>False) LX ti) (he:∀C s₀ H₀ ex,PE (X.comp scope C N s₀ H₀ ex fun _ _=>False) Mi te)
  (hs:∀x,foldedSetIterable KY X.env x=pure x:=by intro _;rfl):PE X (.ListComp Mi [⟨tg,KY,LX,0⟩] scope pos) (iR own js wi g ti te):=by
 intro KO s σ H Q I h;rw[eval_ListComp];refine rG hc Ll Lx LY LJ KS MU hi hg ho ht he I h (use:=none) (fun acc C H3 s4 m I5 hn c1 c2 c3 c4 c5 c6 q=> ?_) hs;refine⟨m,hn,fun h' sb=>⟨.ref acc,H3, ?_,rfl,q⟩⟩;exact I5.turned (t':=s4.toks) (it:=C) (fun b o hb e=>(sb.2 b hb).trans e) c1 c2 (.inr c4) c5 c6
theorem zO {y:Str}{tg:Expr}{N:List Str}{js:List Nat}{wi:TI}{ti:TT}(hN:X.N.Nodup) (LP:X.N[i]? =some y) (hy:Loc X.env.scope y) (hf:X.fn y=true\/X.env.scope.names.lookup y=some .local)
  (hc:X.calm=true)
  (Ll:∀y∈scope.names,y.2≠ .cell) (Lx:scope.kind= .function) (LY:∀y∈scope.names,y.2= .local->scope.names.lookup y.1=some .local)
  (LJ:∀y∈scope.names,y.2= .free->X.env.kindOf y.1=some .cell\/X.env.kindOf y.1=some .free) (KS:N.length=own+js.length)
  (MU:∀(i j:Nat) (x:Str),js[i]? =some j->N[own+i]? =some x->X.N[j]? =some x/\(x,NameKind.free)∈scope.names/\(X.env.kindOf x=some .cell\/X.env.kindOf x=some .free)/\((relabel scope X.env).names.lookup x=some .cell\/(relabel scope X.env).names.lookup x=some .free))
  (hi:PI X tg KY wi) (hg:∀C s₀ H₀ ex,PG (X.comp scope C N s₀ H₀ ex fun _ _=>False) tg g) (ho:fX own g) (ht:∀C s₀ H₀ ex,fV (X.comp scope C N s₀ H₀ ex fun _ _=>False) LX ti) (he:∀C s₀ H₀ ex,PE (X.comp scope C N s₀ H₀ ex fun _ _=>False) Mi te)
  (hsw:swapsWith (.ListComp Mi [⟨tg,KY,LX,0⟩] scope pos) (some (.Name y py)) NP.line X.env=pure true:=by rfl)
  (hs:∀x,foldedSetIterable KY X.env x=pure x:=by intro _;rfl):PS X (.Assign [.Name y py] (.ListComp Mi [⟨tg,KY,LX,0⟩] scope pos) NP) (iF (iR own js wi g ti te) (cq i)):=by
 intro KO s σ H D I h;rw[exec_Assign_Name_used _ _ _ _ hsw];refine A0 (wpAny_standAt (A0 ?_));show wpAny _ X.A (do let _<-comprehension (.ListComp Mi [⟨tg,KY,LX,0⟩] scope pos) scope X.env _ (newList []) false (eval KY X.env) (some (assign (.Name y py) X.env))) _ _ s;refine A0 (Bv (rG hc Ll Lx LY LJ KS MU hi hg ho ht he I h (use:=some (assign (.Name y py) X.env)) (RQ:=fun _ s'=>SP X KO D .next s') (fun acc C H3 s4 m I5 hn c1 c2 c3 c4 c5 c6 q=> ?_) hs) (fun _ s' hq=>A3 (A3 hq)) fun _ _ e=>e);show wpAny _ X.A (assign (.Name y py) X.env (.ref acc)) _ _ _;obtain⟨o,es,ep,Lr,hd,hr⟩:=hn;have I6:Inv X (KO++[(C,o)]) σ H3 s4:=I5.pins_of fun p hp=>by
  rcases BM.mp hp with z|z
  .exact I5.pin p (B0 _ z)
  .rw [Ab.mp z];exact⟨Lr,c1,c2,c3,fun v z=>by rw[hd] at z;cases z⟩
 refine wpAny_assign_Name (jD I6 hN LP hy (v:= .ref acc) rfl (fun s' I7=> ?_) hf);have hp:=I7.pin (C,o) (B0 _ (B0 _ (by simp)));refine⟨m,⟨o,es,ep,hp.1,hd,hr⟩,fun h' sb=>⟨_,H3, ?_,q⟩⟩;exact I7.unpinned.turned (t':=s'.toks) (it:=C) (fun b o hb e=>(sb.2 b hb).trans e) c1 c2 (.inr c4) c5 c6
def jS (XN:Qt Str) (sc scope:Scope) (own:Nat) (js:Qt Nat) (N:Qt Str):Bool:=
 (scope.names.all fun y=>decide (y.2≠ .cell)&&(decide (y.2≠ .local)||decide (scope.names.lookup y.1=some .local))&&(decide (y.2≠ .free)||decide (sc.names.lookup y.1=some .cell)||decide (sc.names.lookup y.1=some .free)))&&
  decide (scope.kind= .function)&&decide (N.length=own+js.length)&&
  (List.range js.length).all fun i=>match js[i]?,N[own+i]? with
   |some j,some x=>decide (XN[j]? =some x)&&decide (scope.names.lookup x=some .free)&&(decide (sc.names.lookup x=some .cell)||decide (sc.names.lookup x=some .free))
   |_,_=>false
theorem l6 {env:Env}:∀{names:Qt (Str×NameKind)}{x:Str},names.lookup x=some .free->
  (names.map fun(n,k)=>if(k==NameKind.free&&env.scope.kind== .function&&env.kindOf n==some .cell) then(n,NameKind.cell) else(n,k)).lookup x=some .cell\/
  (names.map fun(n,k)=>if(k==NameKind.free&&env.scope.kind== .function&&env.kindOf n==some .cell) then(n,NameKind.cell) else(n,k)).lookup x=some .free
 |[],_,h=>by simp at h
 |(n,k)::r,x,h=>by
  have ih:= @l6 env r x;rw[AE,CM];rw[CM] at h;by_cases hc:(k==NameKind.free&&env.scope.kind== .function&&env.kindOf n==some .cell)=true
  .rw [A7 hc];dsimp only;cases hx:x==n with
   |true=>exact .inl rfl
   |false=>
    rw[hx] at h;exact ih h
  .rw [A5 hc];dsimp only;cases hx:x==n with
   |true=>
    rw[hx] at h;exact .inr h
   |false=>
    rw[hx] at h;exact ih h
structure CompOk (XN:Qt Str) (sc scope:Scope) (own:Nat) (js:Qt Nat) (N:Qt Str):Prop where
 cell:∀y∈scope.names,y.2≠ .cell
 names:∀y∈scope.names,y.2= .local->scope.names.lookup y.1=some .local
 free:∀y∈scope.names,y.2= .free->sc.names.lookup y.1=some .cell\/sc.names.lookup y.1=some .free
 kind:scope.kind= .function
 len:N.length=own+js.length
 cap:∀(i j:Nat) (x:Str),js[i]? =some j->N[own+i]? =some x->XN[j]? =some x/\scope.names.lookup x=some .free/\(sc.names.lookup x=some .cell\/sc.names.lookup x=some .free)
theorem rH {XN:Qt Str}{sc:Scope}(h:jS XN sc scope own js N=true):CompOk XN sc scope own js N:=by
 unfold jS at h;rw[AN,AN,AN] at h;obtain⟨⟨⟨h1,h2⟩,h3⟩,h4⟩:=h;rw[AY] at h1 h4;refine⟨fun y hy=> ?_,fun y hy e=> ?_,fun y hy e=> ?_,B8 h2,B8 h3,fun i j x a b=> ?_⟩
 .have:=h1 y hy;rw[AN,AN] at this;exact B8 this.1.1
 .have:=h1 y hy;rw[AN,AN,C2] at this;rcases this.1.2 with z|z
  .exact absurd e (B8 z)
  .exact B8 z
 .have:=h1 y hy;rw[AN,AN,C2,C2,C2] at this;rcases this.2 with(z|z)|z
  .exact absurd e (B8 z)
  .exact .inl (B8 z)
  .exact .inr (B8 z)
 .have hi:i<js.length:=(A8.mp a).1;have:=h4 i (Aa.mpr hi);rw[a,b] at this;dsimp only at this;rw[AN,AN,C2] at this;exact⟨B8 this.1.1,B8 this.1.2,this.2.imp B8 B8⟩
section
variable {X:Cx}{XN:Qt Str}{sc scope:Scope}{Mi tg KY:Qu}{LX:Qt Qu}{pos:Pos}{N:Qt Str}{own:Nat}{js:Qt Nat}{wi:TI}{g:TG}{ti:TT}{te:TE}
theorem cV (hc:X.calm=true) (ok:jS XN sc scope own js N=true) (hsc:X.env.scope=sc) (hXN:X.N=XN) (hi:PI X tg KY wi) (hg:∀C s₀ H₀ ex,PG (X.comp scope C N s₀ H₀ ex fun _ _=>False) tg g) (ho:fX own g)
  (ht:∀C s₀ H₀ ex,fV (X.comp scope C N s₀ H₀ ex fun _ _=>False) LX ti) (he:∀C s₀ H₀ ex,PE (X.comp scope C N s₀ H₀ ex fun _ _=>False) Mi te)
  (hs:∀x,foldedSetIterable KY X.env x=pure x:=by intro _;rfl):PE X (.ListComp Mi [⟨tg,KY,LX,0⟩] scope pos) (iR own js wi g ti te):=by
 obtain⟨h1,h2,h3,h4,h5,h6⟩:=rH ok;subst hsc hXN;refine zN hc h1 h4 h2 h3 h5 (fun i j x a b=> ?_) hi hg ho ht he hs;obtain⟨z1,z2,z3⟩:=h6 i j x a b;exact⟨z1,C3 z2,z3,l6 z2⟩
theorem l' {y:Str}(hN:X.N.Nodup) (LP:X.N[i]? =some y) (hy:Loc X.env.scope y) (hf:X.fn y=true\/X.env.scope.names.lookup y=some .local) (hc:X.calm=true) (ok:jS XN sc scope own js N=true) (hsc:X.env.scope=sc) (hXN:X.N=XN) (hi:PI X tg KY wi)
  (hg:∀C s₀ H₀ ex,PG (X.comp scope C N s₀ H₀ ex fun _ _=>False) tg g) (ho:fX own g)
  (ht:∀C s₀ H₀ ex,fV (X.comp scope C N s₀ H₀ ex fun _ _=>False) LX ti) (he:∀C s₀ H₀ ex,PE (X.comp scope C N s₀ H₀ ex fun _ _=>False) Mi te)
  (hsw:swapsWith (.ListComp Mi [⟨tg,KY,LX,0⟩] scope pos) (some (.Name y py)) NP.line X.env=pure true:=by rfl)
  (hs:∀x,foldedSetIterable KY X.env x=pure x:=by intro _;rfl):PS X (.Assign [.Name y py] (.ListComp Mi [⟨tg,KY,LX,0⟩] scope pos) NP) (iF (iR own js wi g ti te) (cq i)):=by
 obtain⟨h1,h2,h3,h4,h5,h6⟩:=rH ok;subst hsc hXN;refine zO hN LP hy hf hc h1 h4 h2 h3 h5 (fun i j x a b=> ?_) hi hg ho ht he hsw hs;obtain⟨z1,z2,z3⟩:=h6 i j x a b;exact⟨z1,C3 z2,z3,l6 z2⟩
end
theorem jT {lo:Int}{ti:TT}{σ:St}{Q:VK} (Pv:Nat->Hp->Prop) (h0:Pv 0 (upd H1 acc (.lst [])))
  (hs:∀i H2,i<n->Pv i H2->g (.int (lo+i)) (dA own js σ) H2 fun σ4 H4=>ti σ4 H4 fun b H5=>if b=true then te σ4 H5 fun y H6=>rAppend (.ref acc) [y] H6 fun _ H7=>Pv (i+1) H7 else Pv (i+1) H5) (hd:∀H2,Pv n H2->Q (.ref acc) H2)
  (mono:∀σ H (R R':St->Hp->Prop) x,(∀σ' H',R σ' H'->R' σ' H')->g x σ H R->g x σ H R') (LZ:∀σ H (R R':Bool->Hp->Prop),(∀b H',R b H'->R' b H')->ti σ H R->ti σ H R') (L0:∀σ H (R R':VK),(∀v H',R v H'->R' v H')->te σ H R->te σ H R'):
  iQ (Itr lo n) own js g ti te σ H1 acc Q:=by
 refine⟨fun i m H2=>m=n-i/\i<=n/\Pv i H2,⟨n,by simp,AL _,h0⟩, ?_⟩;rintro i m H2 ⟨rfl,hi,p⟩;by_cases KU:i<n
 .refine .inr ⟨KU,fun x H3 y=> ?_⟩;obtain⟨e1,e2⟩:=y;subst e1 e2;refine mono _ _ _ _ _ (fun σ4 H4 q=>LZ _ _ _ _ (fun b H5 q=> ?_) q) (hs i _ KU p);cases b with
  |true=>
   refine L0 _ _ _ _ (fun v H6 q=> ?_) q;obtain⟨l,xs,y,a1,a2,a3,a4,a5⟩:=q;exact⟨l,xs,y,a1,a2,a3,a4,n-(i+1),by lia,rfl,KU,a5⟩
  |false=>exact⟨n-(i+1),by lia,rfl,KU,q⟩
 .have e:i=n:=by lia
  subst e;exact .inl ⟨A' _,hd H2 p⟩
theorem dP {xs:Qt V}{ti:TT}{σ:St}{Q:VK} (Pv:Nat->Hp->Prop) (h0:Pv 0 (upd H1 acc (.lst []))) (hl:∀i H2,i<=xs.length->Pv i H2->SqL K H2 a xs)
  (hs:∀i x H2,xs[i]? =some x->Pv i H2->g x (dA own js σ) H2 fun σ4 H4=>ti σ4 H4 fun b H5=>if b=true then te σ4 H5 fun y H6=>rAppend (.ref acc) [y] H6 fun _ H7=>Pv (i+1) H7 else Pv (i+1) H5) (hd:∀H2,Pv xs.length H2->Q (.ref acc) H2)
  (mono:∀σ H (R R':St->Hp->Prop) x,(∀σ' H',R σ' H'->R' σ' H')->g x σ H R->g x σ H R') (LZ:∀σ H (R R':Bool->Hp->Prop),(∀b H',R b H'->R' b H')->ti σ H R->ti σ H R') (L0:∀σ H (R R':VK),(∀v H',R v H'->R' v H')->te σ H R->te σ H R'):
  iQ (Itl K a) own js g ti te σ H1 acc Q:=by
 refine⟨fun i m H2=>m=xs.length-i/\i<=xs.length/\Pv i H2,⟨xs.length,by simp,AL _,h0⟩, ?_⟩;rintro i m H2 ⟨rfl,hi,p⟩;have q:=hl i H2 hi p;by_cases KU:i<xs.length
 .refine .inr ⟨⟨xs,xs[i],q,by simp[KU]⟩,fun x H3 y=> ?_⟩;obtain⟨e1,y⟩:=y;subst e1;refine mono _ _ _ _ _ (fun σ4 H4 q=>LZ _ _ _ _ (fun b H5 q=> ?_) q) (hs i x _ (y xs q) p);cases b with
  |true=>
   refine L0 _ _ _ _ (fun v H6 q=> ?_) q;obtain⟨l,xs,y,a1,a2,a3,a4,a5⟩:=q;exact⟨l,xs,y,a1,a2,a3,a4,_,by lia,rfl,KU,a5⟩
  |false=>exact⟨_,by lia,rfl,KU,q⟩
 .have e:i=xs.length:=by lia
  subst e;exact .inl ⟨⟨xs,q,A' _⟩,hd H2 p⟩
def cW :∀(σ:St) (H:Hp) (R R':St->Hp->Prop) (x:V),(∀σ' H',R σ' H'->R' σ' H')->cq i x σ H R->cq i x σ H R':=fun _ _ _ _ _ k h=>k _ _ h
theorem eV {A B:St->Hp->Prop}{x:V}{σ:St}(h:A (σ.set i (some x)) H):cq i x σ H fun σ4 H4=>jR σ4 H4 fun b H5=>if b=true then A σ4 H5 else B σ4 H5:=by
 show if true=true then A (σ.set i (some x)) H else B (σ.set i (some x)) H
 rw[A7 rfl];exact h
theorem rJ (h:i<n):ixN n (i:Int)=some i:=by
 unfold ixN;rw[A7 (by lia),A7 (by lia),Az]
def dB:∀(σ:St) (H:Hp) (R R':Bool->Hp->Prop),(∀b H',R b H'->R' b H')->jR σ H R->jR σ H R':=fun _ _ _ _ k h=>k _ _ h
section
variable {X:Cx}{K:W.Frag}
def zQ (h:X.K=K):IxR X (rIxL K):=h▸ee
end
inductive EqR (K:W.Frag) (H:Hp):Nat->V->V->Bool->Prop where
 |int (d:Nat) (i j:Int):EqR K H d (.int i) (.int j) (decide (i=j))
 |lists {d:Nat}{a b:Addr}{xs ys:List V} (es:Nat->Bool) (h1:SqL K H a xs) (h2:SqL K H b ys) (hl:xs.length=ys.length) (he:∀(j:Nat) x y,xs[j]? =some x->ys[j]? =some y->EqR K H d x y (es j)):EqR K H (d+1) (.ref a) (.ref b) ((List.range xs.length).all es)
 |lens {d:Nat}{a b:Addr}{xs ys:List V} (h1:SqL K H a xs) (h2:SqL K H b ys) (hl:xs.length≠ys.length):EqR K H (d+1) (.ref a) (.ref b) false
 |tuples {d:Nat}{a b:Addr}{xs ys:List V} (es:Nat->Bool) (h1:SqT K H a xs) (h2:SqT K H b ys) (he:∀(j:Nat) x y,xs[j]? =some x->ys[j]? =some y->EqR K H d x y (es j)):EqR K H (d+1) (.ref a) (.ref b) ((List.range (min xs.length ys.length)).all es&&xs.length==ys.length)
section
variable {X:Cx}{KO:Qt (Qo×Obj)}{σ:St}{H:Hp}{s:Qn}
theorem EqR.same (I:Inv X KO σ H s) {x:V}(h:EqR X.K H d x y e):x=y->e=true:=by
 induction h with
 |int d i j=>intro q;cases q;simp
 |lists es h1 h2 hl he ih=>
  intro q;cases q;have z:=I.list_inj h1 h2;subst z;rw[AY];intro j hj;rw[Aa] at hj;have hx:=A2 hj;exact ih j _ _ hx hx rfl
 |lens h1 h2 hl=>
  intro q;cases q;exact absurd (BU List.length (I.list_inj h1 h2)) hl
 | @tuples d a b xs ys es h1 h2 he ih=>
  intro q;cases q;have z:=I.tuple_inj h1 h2;subst z;rw[AN];refine⟨?_,by simp⟩;rw[AY];intro j hj;rw[Aa,Nat.min_self] at hj;have hx:=A2 hj;exact ih j _ _ hx hx rfl
def bU (A:Qs):A.in1.units=A.units+1:=rfl
theorem EqR.bN (I:Inv X KO σ H s) {x:V}(h:EqR X.K H d x y e):∀{A:Qs}{u v:NR},A.units+d<cLine->aw x u->aw y v->SeqAt.RcAt A s u v e/\SeqAt.RcNeAt A s u v (!e)/\SeqAt.EqAt A s u v e:=by
 induction h with
 |int d i j=>
  intro A u v hu ru rv;obtain⟨t,rfl⟩:=ru;obtain⟨t',rfl⟩:=rv;have e:decide (i=j)=(i==j):=by rw[Bool.beq_eq_decide_eq]
  rw[e];exact⟨SeqAt.RcAt.int_int i t j t',SeqAt.RcNeAt.int_int i t j t',SeqAt.EqAt.int_int i t j t'⟩
 | @lists d a b xs ys es h1 h2 hl he ih=>
  intro A u v hu ru rv;obtain rfl:u=Value.ref a:=ru;obtain rfl:v=Value.ref b:=rv;obtain⟨is,r1,p1,z1⟩:=I.list h1;obtain⟨js,r2,p2,z2⟩:=I.list h2;have l1:=r1.length;have l2:=r2.length;have ln:xs.length=is.toArray.size:=by simpa using l1
  have sz:is.toArray.size=js.toArray.size:=by simp only[AJ];lia
  have it:∀j (q1:j<is.toArray.size) (q2:j<js.toArray.size),SeqAt.EqAt A.in1 s is.toArray[j] js.toArray[j] (es j):=fun j q1 q2=>by
   simp only[AJ] at q1 q2;have hx:xs[j]? =some xs[j]:=A2 (by lia);have hy:ys[j]? =some ys[j]:=A2 (by lia);obtain⟨u1,e1,ru1⟩:=r1.get hx;obtain⟨u2,e2,ru2⟩:=r2.get hy;have g1:is.toArray[j]=u1:=by
    rw[A2 q1] at e1;simpa using Option.some.inj e1
   have g2:js.toArray[j]=u2:=by
    rw[A2 q2] at e2;simpa using Option.some.inj e2
   rw[g1,g2];exact(ih j _ _ hx hy (by rw[bU];lia) ru1 ru2).2.2
  rw[ln];have R:=SeqAt.RcAt.lists (A:=A) p1.isList p2.isList sz (by lia) it;refine⟨R,SeqAt.RcNeAt.lists p1.isList p2.isList sz (by lia) it, ?_⟩;by_cases q:a=b
  .subst q;have:=(EqR.lists es h1 h2 hl he).same I rfl;rw[ln] at this;rw[this];exact SeqAt.EqAt.same _
  .exact SeqAt.EqAt.of_refs q R
 | @lens d a b xs ys h1 h2 hl=>
  intro A u v hu ru rv;obtain rfl:u=Value.ref a:=ru;obtain rfl:v=Value.ref b:=rv;obtain⟨is,r1,p1,z1⟩:=I.list h1;obtain⟨js,r2,p2,z2⟩:=I.list h2;have l1:=r1.length;have l2:=r2.length;have sz:(is.toArray.size !=js.toArray.size)=true:=by
   simp only[AJ,bne_iff_ne,ne_eq];lia
  have R:=SeqAt.RcAt.lists_lengths (A:=A) p1.isList p2.isList sz (by lia);refine⟨R,SeqAt.RcNeAt.lists_lengths p1.isList p2.isList sz (by lia), ?_⟩;by_cases q:a=b
  .subst q;exact absurd (BU List.length (I.list_inj h1 h2)) hl
  .exact SeqAt.EqAt.of_refs q R
 | @tuples d a b xs ys es h1 h2 he ih=>
  intro A u v hu ru rv;obtain rfl:u=Value.ref a:=ru;obtain rfl:v=Value.ref b:=rv;obtain⟨is,r1,p1,z1⟩:=I.tuple h1;obtain⟨js,r2,p2,z2⟩:=I.tuple h2;have l1:=r1.length;have l2:=r2.length;have ln:xs.length=is.toArray.size:=by simpa using l1
  have ln2:ys.length=js.toArray.size:=by simpa using l2
  have it:∀j (q1:j<is.toArray.size) (q2:j<js.toArray.size),SeqAt.EqAt A.in1 s is.toArray[j] js.toArray[j] (es j):=fun j q1 q2=>by
   simp only[AJ] at q1 q2;have hx:xs[j]? =some xs[j]:=A2 (by lia);have hy:ys[j]? =some ys[j]:=A2 (by lia);obtain⟨u1,e1,ru1⟩:=r1.get hx;obtain⟨u2,e2,ru2⟩:=r2.get hy;have g1:is.toArray[j]=u1:=by
    rw[A2 q1] at e1;simpa using Option.some.inj e1
   have g2:js.toArray[j]=u2:=by
    rw[A2 q2] at e2;simpa using Option.some.inj e2
   rw[g1,g2];exact(ih j _ _ hx hy (by rw[bU];lia) ru1 ru2).2.2
  rw[ln,ln2];have R:=SeqAt.RcAt.tuples (A:=A) (show s.heap.IsTuple a is.toArray from p1) (show s.heap.IsTuple b js.toArray from p2) (by lia) it;refine⟨R,SeqAt.RcNeAt.tuples (show s.heap.IsTuple a is.toArray from p1) (show s.heap.IsTuple b js.toArray from p2) (by lia) it, ?_⟩;by_cases q:a=b
  .subst q;have:=(EqR.tuples es h1 h2 he).same I rfl;rw[ln,ln2] at this;rw[this];exact SeqAt.EqAt.same _
  .exact SeqAt.EqAt.of_refs q R
inductive rEqS (K:W.Frag) (neg:Bool) (x:V) (y:V) (H:Hp) (Q:VK):Prop
 |mk d e:EqR K H d x y e->d<=8->(Q (.bl (if neg then !e else e)) H)->rEqS K neg x y H Q
theorem ma {k:Nat} (hr:Room k X.A):OpR X (compareOp .Eq) (rEqS X.K false):=by
 intro KO s σ H x y v u Q I rx ry h;obtain⟨d,e,r,hd,q⟩:=h;have hu:=hr.un;exact(r.bN I (A:=X.A) (by lia) rx ry).1 X.prog X.w X.xe _ ⟨.bl e,H,I,rfl,q⟩
theorem iS (hc:X.calm=true):bL X (.builtin "sum") (fun xs H Q=>∃(p:Qo) (ns:Qt Int),xs=[.ref p]/\SqL X.K H p (ns.map V.int)/\Q (.int ns.sum) H):=by
 intro KO s σ H xs us Q I r h;obtain⟨p,ns,rfl,hq,q⟩:=h;obtain⟨u,rfl,rx⟩:=dM r;cases rx;obtain⟨KQ,r',pl,hz⟩:=I.list hq;have hi:IntsAre KQ ns:=lO r';obtain⟨ys,e⟩:=hi.allInts.items;have hl:=pl.isList;rw[e] at hl;refine sum_intListG (I.ok.hd hc) hl fun h' tk t' hk=>⟨.int ns.sum,H,I.kept hk,⟨t', ?_⟩,q⟩;have n1:=hi.numsOf;rw[show KQ=KQ.toArray.toList from rfl,e,nums_intItems] at n1;rw[preSum_eq,D4 (by simp),n1]
def CDB (_ j:Int):Prop:=j≠0/\j.natAbs<2^512
theorem zR:OpR X (binaryOp .FloorDiv) (rI CDB fun i j=> .int (i.fdiv j)):=opI fun i j _ _ _ _ _ hc q=>floordiv_int hc.1 q (.inl (PyProof.noPylong_of_log2 (by
 have h0:j.natAbs≠0:=by have:=hc.1;lia
 have:=(Nat.log2_lt h0).mpr hc.2;lia)))
end
def Ite (K:W.Frag) (a:Qo):It:=
 ⟨fun i H=>∃xs x,SqL K H a xs/\xs[i]? =some x,fun i H v H'=>∃x p,(∀xs,SqL K H a xs->xs[i]? =some x)/\v= .ref p/\H p=none/\H'=upd H p (.tup [.int i,x]),fun i H=>∃xs,SqL K H a xs/\xs.length<=i⟩
theorem zS {LM:Qt Qu}{k:Nat}(a e it:Qo) (LD:e≠it):
  Turn P w K (.Tuple LM k pos) (Ite K a) [e,it] e (fun i h=>(∃LL,IsEnum h e it (i:Nat) LL)/\h.IsListIter it a i) where
 mem:=by simp
 obj:=fun i h st b hb=>by
  obtain⟨⟨LL,h1⟩,o,h2,h3,h4⟩:=st;rcases AI.mp hb with z|z
  .subst z;exact⟨_,h1,fun v y=>by cases y⟩
  .rw [Ab.mp z];exact⟨o,h2,fun v y=>by rw[h4] at y;cases y⟩
 keep:=fun i h h' st kk=>⟨st.1.imp fun LL z=>kk e (by simp) _ z,st.2.at fun o z=>kk it (by simp) o z⟩
 item:=by
  intro X hP hw hK hc i KO s σ H E I hf st hg;subst hP hw hK;obtain⟨xs,x,hq,hx⟩:=hg;obtain⟨KQ,rv,p,hz⟩:=I.list hq;obtain⟨u,hu,ru⟩:=rv.get hx;obtain⟨⟨LL,he⟩,KW⟩:=st;have nf:H s.heap.objs.size=none:=I.hok.fresh (A' _);have ltE:e<s.heap.objs.size:=AM he;refine wpAny_pyNext_enum_item he KW p.isList (x:=u) (by simpa using hu) LD fun h' ho Ms hT hsz hk=>⟨.ref s.heap.objs.size,rfl, ?_⟩;refine wpAny_letOwnedTupleGo_enum ho fun h2 Oz sb=> ?_;have k2:∀b o,b≠e->b≠it->s.heap.get? b=some o->h2.get? b=some o:=fun b o n1 n2 z=>(sb.2 b n1).trans (hk b o n1 n2 z);have PJ:h2.get? s.heap.objs.size=some {cls:= .type "tuple",data:= .seq #[.int i s.toks,u]}:=(sb.2 _ (Bn ltE)).trans hT;have MH:∀b,b∉[e,it]->b≠e/\b≠it:=fun b z=>⟨fun y=>z (by simp[y]),fun y=>z (by simp[y])⟩;refine⟨.ref s.heap.objs.size,upd H s.heap.objs.size (.tup [.int i,x]), ?_,rfl,⟨x,_,fun ys hy=>by rw[I.list_inj hy hq];exact hx,rfl,nf,rfl⟩,⟨⟨u,by simpa using Oz⟩,Ms.at fun o z=>(sb.2 it LD.symm).trans z⟩,fun b hb=> ?_⟩
  .refine I.step (s:=s) (h':=h2) (g':=s.gens) (d':=s.drawn) (t':=s.toks+1) (ch:=[e,it]) (fun b hb=> ?_) (fun b o _ _ c z _=>k2 b o (MH b c).1 (MH b c).2 z) (fun b o _ _ c z _=>⟨o.slots,k2 b o (MH b c).1 (MH b c).2 z⟩)
    (fun b o c z n=> ?_) (fun b o c z=>⟨o,k2 b o (MH b c).1 (MH b c).2 z⟩) (fun b ys z=> ?_) (fun b o v z=> ?_) (fun b ps z=>⟨#[], ?_⟩) (fun m hm=> ?_) (fun b v z=> ?_) I.bare
   .obtain⟨a1,a2,a3,a4,a5,a6⟩:=hf b hb;exact⟨a4,a2,a5,a6⟩
   .rw [ar (AO (AM z))];exact n
   .rw [ar (bw z nf)];exact z
   .rw [ar (bw z nf)];exact z
   .rw [ar (bw z nf),z];simp
   .obtain⟨o,es,ep,Lr,r⟩:=hm;exact⟨o,es,ep,k2 _ o (fun y=>(hf e (by simp)).2.1 y.symm) (fun y=>(hf it (by simp)).2.1 y.symm) Lr,r⟩
   .by_cases hb:b=s.heap.objs.size
    .subst hb;rw[al] at z;cases z;exact⟨by show 2<=sizeLine;decide,[.int i s.toks,u], .cons ⟨_,rfl⟩ (.cons ru .nil),⟨_,PJ,rfl,_,rfl⟩⟩
    .rw [ar hb] at z;refine(I.hok b v z).stay (fun c o hc y=>k2 c o ?_ ?_ y) (fun c y=> ?_) fun c ys y=> ?_
     .rcases hc with q|q
      .rw [q];exact fun y=>by rw[y,(hf e (by simp)).1] at z;cases z
      .exact fun y=>by rw[y,(hf e (by simp)).1] at q;cases q
     .rcases hc with q|q
      .rw [q];exact fun y=>by rw[y,(hf it (by simp)).1] at z;cases z
      .exact fun y=>by rw[y,(hf it (by simp)).1] at q;cases q
     .rw [ar (bw y nf)];exact y
     .rw [ar (bw y nf)];exact y
  .obtain⟨o,z,_⟩:=(show∃o,s.heap.get? b=some o/\True from by
    rcases AI.mp hb with q|q
    .rw [q];exact⟨_,he,trivial⟩
    .rw [Ab.mp q];obtain⟨o,y,_⟩:=KW;exact⟨o,y,trivial⟩)
   rw[ar (AO (AM z))];exact(hf b hb).1
 done:=by
  intro X hP hw hK hc i KO s σ H E I hf st hg;subst hP hw hK;obtain⟨xs,hq,hx⟩:=hg;obtain⟨KQ,rv,p,hz⟩:=I.list hq;obtain⟨⟨LL,he⟩,KW⟩:=st;have hl:=rv.length;obtain⟨f0,f1,f2,f3,f4,f5⟩:=hf it (by simp);exact wpAny_pyNext_enum_end (I.ok.hd hc) he KW p.isList (by simp;lia) fun h' eb=>⟨rfl,I.turned (t':=s.toks) (fun b o hb z=>eb b o hb z) f0 f1 f3 f4 f5⟩
 self:=fun _ _ _ _ _ st h=>let ⟨⟨_,z⟩,_⟩:=st;wpAny_pyIter_enum z h
section
variable {X:Cx}{LM:Qt Qu}{k:Nat}{Mf p pos:Pos}{e:Qu}{te:TE}
def zT (K:W.Frag) (tl:TE):TI:=fun σ H R=>tl σ H fun x H1=>∃a,x= .ref a/\(∃xs,SqL K H1 a xs)/\R (Ite K a) H1
theorem md (hg:Gl X "enumerate") (hm:X.mg "enumerate"=none) (hl:PE X e te) (he:starEach [e] X.env=[(false,eval e X.env)]:=by rfl):PI X (.Tuple LM k Mf) (.Call (.Name "enumerate" p) [e] [] pos) (zT X.K te):=by
 intro KO s σ H R I h;refine Be (cQ I hg hm boot_enumerate ?_);refine B3 (thn ((ab hl af he) _ KO s σ H (fun vs H1=>match vs with|[x]=>(∃a,x= .ref a/\(∃xs,SqL X.K H1 a xs)/\R (Ite X.K a) H1)|_=>False) I h) fun us s1 ⟨vs,H1,I1,r1,q1⟩=> ?_) he (by rfl)
 match vs,q1,r1 with
 |[x],q1,r1=>
 obtain⟨a,rfl,⟨xs,hq⟩,q⟩:=q1;obtain⟨u,rfl,ru⟩:=dM r1;obtain rfl:u=Value.ref a:=ru;obtain⟨KQ,rv,pl,hz⟩:=I1.list hq;refine call_enumerate_list pl.isList fun h' hen KW hsz hk=> ?_;refine wpAny_pyIter_enum hen ?_;refine⟨_,[_,_],_,_,H1,rfl,I1.kept (t':=s1.toks) hk,zS a _ _ (Bn (BN _)),⟨⟨_,by simpa using hen⟩,KW⟩,fun b hb=> ?_,q⟩;have fr:∀b,s1.heap.objs.size<=b->cr X KO H1 b:=fun b z=>I1.fpOk z (I1.hok.fresh z);rcases AI.mp hb with z|z
 .rw [z];exact fr _ (D0 _)
 .rw [Ab.mp z];exact fr _ (A' _)
end
theorem rK {xs:Qt V}{tb:TS}{D:Ends}{σ:St}(Pv:Nat->St->Hp->Prop) (h0:Pv 0 σ H) (hl:∀i σ H,i<=xs.length->Pv i σ H->SqL K H a xs)
  (hs:∀i x σ H p,xs[i]? =some x->Pv i σ H->H p=none->g (.ref p) σ (upd H p (.tup [.int i,x])) fun σ2 H2=>tb (eLp D (Pv (i+1))) σ2 H2) (hd:∀σ H,Pv xs.length σ H->D.nx σ H):
  ∃Wq:Nat->Nat->St->Hp->Prop,(∃m,Wq 0 m σ H)/\∀i m σ H,Wq i m σ H->
   ((Ite K a).stop i H/\D.nx σ H)\/((Ite K a).go i H/\∃N:St->Hp->Prop,(∀σ' H',N σ' H'->∃m',m'<m/\Wq (i+1) m' σ' H')/\∀x H',(Ite K a).yld i H x H'->g x σ H' fun σ2 H2=>tb (eLp D (N)) σ2 H2):=by
 refine⟨fun i m σ H=>m=xs.length-i/\i<=xs.length/\Pv i σ H,⟨xs.length,by simp,AL _,h0⟩, ?_⟩;rintro i m σ H ⟨rfl,hi,p⟩;have q:=hl i σ H hi p;by_cases KU:i<xs.length
 .refine .inr ⟨⟨xs,xs[i],q,by simp[KU]⟩,Pv (i+1),fun σ' H' p'=>⟨xs.length-(i+1),by lia,rfl,KU,p'⟩,fun x H' y=> ?_⟩;obtain⟨z,pp,e1,e2,e3,e4⟩:=y;subst e2 e4;exact hs i z σ H pp (e1 xs q) p e3
 .have e:i=xs.length:=by lia
  subst e;exact .inl ⟨⟨xs,q,A' _⟩,hd σ H p⟩
inductive rGetN (K:W.Frag) (o:V) (i:V) (H:Hp) (Q:VK):Prop
 |mk (p:Addr) (xs:List V) (j:Nat) (k:Int) (v:V):o= .ref p->i= .int k->k=j->SqL K H p xs->xs[j]? =some v->Q v H->rGetN K o i H Q
theorem rL :qC X (rGetN X.K):=by
 intro KO s σ H o i ov iv Q I r1 r2 h;obtain⟨p,xs,j,k,v,rfl,rfl,e,hq,hx,q⟩:=h;cases r1;obtain⟨t,rfl⟩:=r2;obtain⟨KQ,r,pl,hz⟩:=I.list hq;obtain⟨w,ew,Mr⟩:=r.get hx;have hl:=r.length;have hn:=fQ;have hj:j<xs.length:=(A8.mp hx).1;exact wpAny_getItem_list pl.isList (by lia) (by lia) (by rw[e,Az];simpa using ew) ⟨v,H,I,Mr,q⟩
inductive D where
 |i (n:Int)|l (xs:List D)|t (xs:List D)
mutual
def Is (H:Hp):D->V->Prop
 | .i n,v=>v= .int n
 | .l xs,v=>∃a vs,v= .ref a/\H a=some (.lst vs)/\Iss H xs vs
 | .t xs,v=>∃a vs,v= .ref a/\H a=some (.tup vs)/\Iss H xs vs
def Iss (H:Hp):Qt D->Qt V->Prop
 |[],vs=>vs=[]
 |x::xs,vs=>∃u us,vs=u::us/\Is H x u/\Iss H xs us
end
theorem bq {H:Hp}{n:Int}:Is H (.i n) (.int n):=by unfold Is;rfl
theorem aB {H:Hp}{a:Qo}{xs:Qt D}{vs:Qt V} (h:H a=some (.lst vs)) (k:Iss H xs vs):Is H (.l xs) (.ref a):=by unfold Is;exact⟨a,vs,rfl,h,k⟩
theorem bd {H:Hp}{a:Qo}{xs:Qt D}{vs:Qt V} (h:H a=some (.tup vs)) (k:Iss H xs vs):Is H (.t xs) (.ref a):=by unfold Is;exact⟨a,vs,rfl,h,k⟩
theorem aE {H:Hp}{n:Int}{v:V} (h:Is H (.i n) v):v= .int n:=by unfold Is at h;exact h
theorem az {H:Hp}{xs:Qt D}{v:V} (h:Is H (.l xs) v):∃a vs,v= .ref a/\H a=some (.lst vs)/\Iss H xs vs:=by unfold Is at h;exact h
theorem bn {H:Hp}{xs:Qt D}{v:V} (h:Is H (.t xs) v):∃a vs,v= .ref a/\H a=some (.tup vs)/\Iss H xs vs:=by unfold Is at h;exact h
theorem ao {H:Hp}:Iss H [] []:=by unfold Iss;rfl
theorem ak {H:Hp}{x:D}{xs:Qt D}{u:V}{us:Qt V} (h:Is H x u) (k:Iss H xs us):Iss H (x::xs) (u::us):=by unfold Iss;exact⟨u,us,rfl,h,k⟩
theorem aK {H:Hp}{x:D}{xs:Qt D}{vs:Qt V} (h:Iss H (x::xs) vs):∃u us,vs=u::us/\Is H x u/\Iss H xs us:=by unfold Iss at h;exact h
theorem bi {H:Hp}{vs:Qt V} (h:Iss H [] vs):vs=[]:=by unfold Iss at h;exact h
mutual
theorem Is.mono {H H':Hp} (s:ae H H'):∀{d:D}{v:V},Is H d v->Is H' d v
 | .i _,_,h=>by rw[aE h];exact bq
 | .l xs,_,h=>by
  obtain⟨a,vs,e,q,r⟩:=az h;rw[e];exact aB (s _ _ q) (Iss.mono s r)
 | .t xs,_,h=>by
  obtain⟨a,vs,e,q,r⟩:=bn h;rw[e];exact bd (s _ _ q) (Iss.mono s r)
theorem Iss.mono {H H':Hp} (s:ae H H'):∀{xs:Qt D}{vs:Qt V},Iss H xs vs->Iss H' xs vs
 |[],_,h=>by rw[bi h];exact ao
 |x::xs,_,h=>by
  obtain⟨u,us,e,q,r⟩:=aK h;rw[e];exact ak (Is.mono s q) (Iss.mono s r)
end
theorem Iss.length {H:Hp}:∀{xs:Qt D}{vs:Qt V},Iss H xs vs->vs.length=xs.length
 |[],_,h=>by rw[bi h];rfl
 |x::xs,_,h=>by
  obtain⟨u,us,rfl,_,r⟩:=aK h;rw[AT,AT,r.length]
theorem Iss.get {H:Hp}:∀{xs:Qt D}{vs:Qt V}{j:Nat}{x:D},Iss H xs vs->xs[j]? =some x->∃v,vs[j]? =some v/\Is H x v
 |[],_,_,_,_,e=>by simp at e
 |x::xs,_,0,_,h,e=>by
  obtain⟨u,us,rfl,q,_⟩:=aK h;simp at e;subst e;exact⟨u,rfl,q⟩
 |x::xs,_,j+1,_,h,e=>by
  obtain⟨u,us,rfl,_,r⟩:=aK h;obtain⟨v,e',k⟩:=r.get (j:=j) (by simpa using e);exact⟨v,by simpa using e',k⟩
theorem Iss.of_get {H:Hp}{xs:Qt D}{vs:Qt V}{j:Nat}{v:V} (h:Iss H xs vs) (e:vs[j]? =some v):∃x,xs[j]? =some x/\Is H x v:=by
 have hj:j<vs.length:=(A8.mp e).1;have hj':j<xs.length:=by rw[<-h.length];exact hj
 obtain⟨u,e1,k⟩:=h.get (A2 hj');rw[e] at e1;cases e1;exact⟨_,A2 hj',k⟩
theorem Iss.append {H:Hp}:∀{xs ys:Qt D}{vs ws:Qt V},Iss H xs vs->Iss H ys ws->Iss H (xs++ys) (vs++ws)
 |[],_,_,_,h,k=>by rw[bi h];exact k
 |x::xs,_,_,_,h,k=>by
  obtain⟨u,us,rfl,q,r⟩:=aK h;exact ak q (r.append k)
theorem Iss.take {H:Hp}:∀{xs:Qt D}{vs:Qt V} (n:Nat),Iss H xs vs->Iss H (xs.take n) (vs.take n)
 |[],_,n,h=>by rw[bi h];simp;exact ao
 |x::xs,_,0,h=>by simp;exact ao
 |x::xs,_,n+1,h=>by
  obtain⟨u,us,rfl,q,r⟩:=aK h;exact ak q (r.take n)
theorem Iss.drop {H:Hp}:∀{xs:Qt D}{vs:Qt V} (n:Nat),Iss H xs vs->Iss H (xs.drop n) (vs.drop n)
 |[],_,n,h=>by rw[bi h];simp;exact ao
 |x::xs,_,0,h=>h
 |x::xs,_,n+1,h=>by
  obtain⟨u,us,rfl,q,r⟩:=aK h;exact r.drop n
theorem Iss.rep {H:Hp}{x:D}{v:V} (h:Is H x v):∀n:Nat,Iss H (List.replicate n x) (List.replicate n v)
 |0=>ao
 |n+1=>by rw[Bh,Bh];exact ak h (Iss.rep h n)
mutual
def Kin:D->D->Prop
 | .i _, .i _=>True
 | .l xs, .l ys=>cw xs ys
 | .t xs, .t ys=>cw xs ys
 |_,_=>False
def cw:Qt D->Qt D->Prop
 |x::xs,y::ys=>Kin x y/\cw xs ys
 |_,_=>True
end
mutual
def eqD:D->D->Bool
 | .i a, .i b=>decide (a=b)
 | .l xs, .l ys=>cX xs ys
 | .t xs, .t ys=>cX xs ys
 |_,_=>false
def cX:Qt D->Qt D->Bool
 |[],[]=>true
 |x::xs,y::ys=>eqD x y&&cX xs ys
 |_,_=>false
end
mutual
def dep:D->Nat
 | .i _=>0
 | .l xs=>cY xs+1
 | .t xs=>cY xs+1
def cY:Qt D->Nat
 |[]=>0
 |x::xs=>max (dep x) (cY xs)
end
mutual
theorem iT:∀{a b:D},eqD a b=true↔a=b
 | .i a, .i b=>by simp[eqD]
 | .i _, .l _=>by simp[eqD]
 | .i _, .t _=>by simp[eqD]
 | .l _, .i _=>by simp[eqD]
 | .l xs, .l ys=>by simp[eqD,jU (xs:=xs) (ys:=ys)]
 | .l _, .t _=>by simp[eqD]
 | .t _, .i _=>by simp[eqD]
 | .t _, .l _=>by simp[eqD]
 | .t xs, .t ys=>by simp[eqD,jU (xs:=xs) (ys:=ys)]
theorem jU:∀{xs ys:Qt D},cX xs ys=true↔xs=ys
 |[],[]=>by simp[cX]
 |[],_::_=>by simp[cX]
 |_::_,[]=>by simp[cX]
 |x::xs,y::ys=>by simp[cX,iT (a:=x) (b:=y),jU (xs:=xs) (ys:=ys)]
end
def zU {a:D}:eqD a a=true:=iT.mpr rfl
theorem zV {a b:D} (h:a≠b):eqD a b=false:=by
 cases e:eqD a b with
 |false=>rfl
 |true=>exact absurd (iT.mp e) h
theorem me:∀{xs ys:Qt D},xs.length=ys.length->cX xs ys=(List.range xs.length).all fun j=>eqD (xs.getD j (.i 0)) (ys.getD j (.i 0))
 |[],[],_=>by simp[cX]
 |x::xs,y::ys,h=>by
  have ih:=me (xs:=xs) (ys:=ys) (by simpa using h);rw[cX,ih,AT,List.range_succ_eq_map];simp[List.all_map,Function.comp_def]
theorem rM {xs ys:Qt D} (h:xs.length≠ys.length):cX xs ys=false:=by
 cases e:cX xs ys with
 |false=>rfl
 |true=>exact absurd (BU List.length (jU.mp e)) h
mutual
theorem Is.eqr {K:W.Frag}{H:Hp}:∀{d e:D}{v w:V}{n:Nat},dep d<=n->Kin d e->Is H d v->Is H e w->EqR K H n v w (eqD d e)
 | .i a, .i b,_,_,n,_,_,h,k=>by
  rw[aE h,aE k,eqD];exact EqR.int n a b
 | .l xs, .l ys,_,_,0,hn,_,_,_=>absurd hn (by unfold dep;lia)
 | .l xs, .l ys,_,_,n+1,hn,hk,h,k=>by
  obtain⟨a,vs,rfl,ha,ra⟩:=az h;obtain⟨b,ws,rfl,hb,rb⟩:=az k;have OU:cY xs<=n:=by unfold dep at hn;lia
  have NQ:cw xs ys:=by unfold Kin at hk;exact hk
  have l1:=ra.length;have l2:=rb.length;rw[eqD];by_cases hl:xs.length=ys.length
  .rw [me hl,<-l1];exact EqR.lists _ (SqL.of ha) (SqL.of hb) (by lia) fun j x y hx hy=>Iss.eqr OU NQ ra rb hx hy
  .rw [rM hl];exact EqR.lens (SqL.of ha) (SqL.of hb) (by lia)
 | .t xs, .t ys,_,_,0,hn,_,_,_=>absurd hn (by unfold dep;lia)
 | .t xs, .t ys,_,_,n+1,hn,hk,h,k=>by
  obtain⟨a,vs,rfl,ha,ra⟩:=bn h;obtain⟨b,ws,rfl,hb,rb⟩:=bn k;have OU:cY xs<=n:=by unfold dep at hn;lia
  have NQ:cw xs ys:=by unfold Kin at hk;exact hk
  have l1:=ra.length;have l2:=rb.length;rw[eqD];have q:=EqR.tuples (d:=n) (fun j=>eqD (xs.getD j (.i 0)) (ys.getD j (.i 0))) (SqT.of (K:=K) ha) (SqT.of (K:=K) hb) fun j x y hx hy=>Iss.eqr OU NQ ra rb hx hy;by_cases hl:xs.length=ys.length
  .rw [me hl];rw[l1,l2,<-hl,Nat.min_self] at q;simpa using q
  .rw [rM hl];have z:(vs.length==ws.length)=false:=by rw[l1,l2];simpa using hl
   rw[z,DR] at q;exact q
 | .i _, .l _,_,_,_,_,hk,_,_=>by unfold Kin at hk;exact hk.elim
 | .i _, .t _,_,_,_,_,hk,_,_=>by unfold Kin at hk;exact hk.elim
 | .l _, .i _,_,_,_,_,hk,_,_=>by unfold Kin at hk;exact hk.elim
 | .l _, .t _,_,_,_,_,hk,_,_=>by unfold Kin at hk;exact hk.elim
 | .t _, .i _,_,_,_,_,hk,_,_=>by unfold Kin at hk;exact hk.elim
 | .t _, .l _,_,_,_,_,hk,_,_=>by unfold Kin at hk;exact hk.elim
theorem Iss.eqr {K:W.Frag}{H:Hp}:∀{xs ys:Qt D}{vs ws:Qt V}{n:Nat},cY xs<=n->cw xs ys->Iss H xs vs->Iss H ys ws->∀{j:Nat}{x y:V},vs[j]? =some x->ws[j]? =some y->
  EqR K H n x y (eqD (xs.getD j (.i 0)) (ys.getD j (.i 0)))
 |[],_,_,_,_,_,_,h,_,_,_,_,e,_=>by rw[bi h] at e;simp at e
 |_::_,[],_,_,_,_,_,_,k,_,_,_,_,e=>by rw[bi k] at e;simp at e
 |x::xs,y::ys,_,_,n,hn,hk,h,k,0,u,w,e1,e2=>by
  obtain⟨u',us,rfl,q,_⟩:=aK h;obtain⟨w',ws,rfl,q',_⟩:=aK k;simp at e1 e2;subst e1 e2;have NQ:Kin x y/\cw xs ys:=by unfold cw at hk;exact hk
  have hd:dep x<=n:=by unfold cY at hn;lia
  exact Is.eqr (d:=x) (e:=y) hd NQ.1 q q'
 |x::xs,y::ys,_,_,n,hn,hk,h,k,j+1,u,w,e1,e2=>by
  obtain⟨u',us,rfl,_,r⟩:=aK h;obtain⟨w',ws,rfl,_,r'⟩:=aK k;have NQ:Kin x y/\cw xs ys:=by unfold cw at hk;exact hk
  have hd:cY xs<=n:=by unfold cY at hn;lia
  have:=Iss.eqr (K:=K) hd NQ.2 r r' (j:=j) (by simpa using e1) (by simpa using e2);simpa using this
end
abbrev Pt:=Int×Int
def pt (p:Pt):D:= .t [.i p.1, .i p.2]
def pts (ps:Qt Pt):D:= .l (ps.map pt)
theorem rN {p q:Pt} (h:pt p=pt q):p=q:=by
 unfold pt at h;injection h with h;injection h with h1 h2;injection h2 with h2 _;injection h1 with h1;injection h2 with h2;exact Prod.ext h1 h2
theorem mf:∀{ps qs:Qt Pt},ps.map pt=qs.map pt->ps=qs
 |[],[],_=>rfl
 |[],_::_,h=>by simp at h
 |_::_,[],h=>by simp at h
 |p::ps,q::qs,h=>by
  rw[AE,AE] at h;injection h with h1 h2;rw[rN h1,mf h2]
theorem zW {p q:Pt}:eqD (pt p) (pt q)=decide (p=q):=by
 rw[Ct,iT,decide_eq_true_iff];exact⟨rN,fun h=>by rw[h]⟩
theorem zX {p q:Qt Pt}:eqD (pts p) (pts q)=decide (p=q):=by
 rw[Ct,iT,decide_eq_true_iff];exact⟨fun h=>mf (by unfold pts at h;injection h),fun h=>by rw[h]⟩
theorem rO {p q:Pt}:Kin (pt p) (pt q):=by simp[pt,Kin,cw]
theorem mh:∀{ps qs:Qt Pt},cw (ps.map pt) (qs.map pt)
 |[],_=>by simp[cw]
 |_::_,[]=>by simp[cw]
 |p::ps,q::qs=>by simp only[AE,cw];exact⟨rO,mh⟩
theorem zY {p q:Qt Pt}:Kin (pts p) (pts q):=by unfold pts Kin;exact mh
theorem rP {p:Pt}:dep (pt p)=1:=by simp[pt,dep,cY]
theorem mi:∀{ps:Qt Pt},cY (ps.map pt)<=1
 |[]=>by simp[cY]
 |p::ps=>by have:=mi (ps:=ps);rw[AE,cY,rP];lia
theorem zZ {p:Qt Pt}:dep (pts p)<=2:=by have:=mi (ps:=p);unfold pts dep;lia
theorem z9 {K:W.Frag}{H:Hp}{p q:Pt}{v w:V} (h:Is H (pt p) v) (k:Is H (pt q) w):EqR K H 1 v w (decide (p=q)):=by
 rw[<-zW];exact h.eqr (by rw[rP];lia) rO k
theorem Da {K:W.Frag}{H:Hp}{p q:Qt Pt}{v w:V} (h:Is H (pts p) v) (k:Is H (pts q) w):EqR K H 2 v w (decide (p=q)):=by
 rw[<-zX];exact h.eqr zZ zY k
theorem fA {H:Hp}{p:Pt}{v:V} (h:Is H (pt p) v):∃a,v= .ref a/\H a=some (.tup [.int p.1, .int p.2]):=by
 obtain⟨a,vs,e,q,r⟩:=bn h;obtain⟨u,us,rfl,h1,r⟩:=aK r;obtain⟨u',us',rfl,h2,r⟩:=aK r;rw[bi r,aE h1,aE h2] at q;exact⟨a,e,q⟩
def eW {H:Hp}{p:Pt}{a:Qo} (h:H a=some (.tup [.int p.1, .int p.2])):Is H (pt p) (.ref a):=bd h (ak bq (ak bq ao))
def gI {H:Hp}{ps:Qt Pt}{v:V} (h:Is H (pts ps) v):∃a vs,v= .ref a/\H a=some (.lst vs)/\Iss H (ps.map pt) vs:=az h
def hid (H:Hp) (a:Qo):Hp:=fun b=>if b=a then none else H b
theorem dC {H:Hp}{a b:Qo} (h:b≠a):hid H a b=H b:=by unfold hid;rw[A5 h]
theorem Db {H:Hp}{a:Qo}:hid H a a=none:=by unfold hid;rw[A7 rfl]
theorem mj {H:Hp}{a:Qo}:ae (hid H a) H:=fun b o e=>by
 unfold hid at e;split at e
 .cases e
 .exact e
theorem cZ {H H':Hp}{a:Qo} (s:ae H H'):ae (hid H a) (hid H' a):=fun b o e=>by
 unfold hid at e⊢;split at e
 .cases e
 .rename_i h;rw[A5 h];exact s b o e
theorem Dc {H:Hp}{a:Qo}{o:HO}:hid (upd H a o) a=hid H a:=by
 funext b
 unfold hid;split
 .rfl
 .rename_i h;exact ar h
def bV (H:Hp) (a:Qo) (xs:Qt D):Prop:=∃vs,H a=some (.lst vs)/\Iss (hid H a) xs vs
def bV.start {H:Hp}{a:Qo}:bV (upd H a (.lst [])) a []:=⟨[],al,ao⟩
theorem bV.mono {H H':Hp}{a:Qo}{xs:Qt D} (s:ae H H') (g:bV H a xs):bV H' a xs:=let ⟨vs,e,h⟩:=g;⟨vs,s _ _ e,h.mono (cZ s)⟩
def bV.is {H:Hp}{a:Qo}{xs:Qt D} (g:bV H a xs):Is H (.l xs) (.ref a):=let ⟨_,e,h⟩:=g;aB e (h.mono mj)
theorem gJ {H:Hp}{a:Qo}{xs:Qt D}{x:D}{vs:Qt V}{v:V} (h:Iss (hid H a) xs vs) (k:Is (hid H a) x v):bV (upd H a (.lst (vs++[v]))) a (xs++[x]):=
 ⟨_,al,by rw[Dc];exact h.append (ak k ao)⟩
section
variable {X:Cx}{es:Qt Qu}{t:TA}{pos:Pos}
def New (H:Hp) (o:HO) (Q:VK):Prop:=∀p H2,H p=none->ae H H2->H2 p=some o->Q (.ref p) H2
def New.at {H:Hp}{o:HO}{Q:VK} (q:New H o Q) {p:Qo} (np:H p=none):Q (.ref p) (upd H p o):=q p _ np (ae.new np) al
def Dd (t:TA):TE:=fun σ H Q=>t σ H fun xs H1=>xs.length<=sizeLine/\New H1 (.tup xs) Q
def De (t:TA):TE:=fun σ H Q=>t σ H fun xs H1=>xs.length<=sizeLine/\New H1 (.lst xs) Q
theorem bf {x1} (h:PA X es t):PE X (.Tuple es x1 pos) (Dd t):=by
 intro KO s σ H Q I hq;refine wpAny_Tuple_spliced (thn (h pos KO s σ H _ I hq) fun us s1 ⟨xs,H1,I1,r,z,q⟩=>⟨by rw[<-r.length];exact z, ?_⟩);refine⟨.ref s1.heap.objs.size,upd H1 s1.heap.objs.size (.tup xs),I1.laid (t':=s1.toks) (fun b u e=>A4 _ e) (A' _) ?_,rfl,q.at (I1.hok.fresh (A' _))⟩;exact⟨z,us,r,⟨_,AB _ rfl,rfl,_,rfl⟩⟩
theorem aM (h:PA X es t):PE X (.List es pos) (De t):=by
 intro KO s σ H Q I hq;refine wpAny_List_spliced (thn (h pos KO s σ H _ I hq) fun us s1 ⟨xs,H1,I1,r,z,q⟩=>⟨by rw[<-r.length];exact z, ?_⟩);refine⟨.ref s1.heap.objs.size,upd H1 s1.heap.objs.size (.lst xs),I1.laid (t':=s1.toks) (fun b u e=>A4 _ e) (A' _) ?_,rfl,q.at (I1.hok.fresh (A' _))⟩;exact⟨z,us,0,r,AB _ rfl⟩
def OpR.imp {f:NR->NR->Sem NR}{r r':R2} (h:OpR X f r) (k:∀x y H Q,r' x y H Q->r x y H Q):OpR X f r':=fun KO s σ H x y v u Q I rx ry q=>h KO s σ H x y v u Q I rx ry (k _ _ _ _ q)
def bL.imp {f:NR}{r r':Qt V->Hp->VK->Prop} (h:bL X f r) (k:∀xs H Q,r' xs H Q->r xs H Q):bL X f r':=fun KO s σ H xs us Q I rs q=>h KO s σ H xs us Q I rs (k _ _ _ q)
theorem df:OpR X (binaryOp .Add) (fun x y H Q=>∃xs zs,Is H (.l xs) x/\Is H (.l zs) y/\xs.length+zs.length<=sizeLine/\∀p H2,H p=none->ae H H2->Is H2 (.l (xs++zs)) (.ref p)->Q (.ref p) H2):=
 jO.imp fun x y H Q ⟨xs,zs,hx,hz,hl,q⟩=>by
  obtain⟨a,vs,rfl,ha,ra⟩:=az hx;obtain⟨b,ws,rfl,hb,rb⟩:=az hz;exact⟨a,b,vs,ws,rfl,rfl,ha,hb,by rw[ra.length,rb.length];exact hl,fun p np=>q p _ np (ae.new np) (aB al ((ra.append rb).mono (ae.new np)))⟩
theorem rQ {α:Type}{x:α}:∀n:Nat,(List.replicate n [x]).flatten=List.replicate n x
 |0=>rfl
 |n+1=>by rw[Bh,D6,rQ n,Bh];rfl
theorem iU:OpR X (binaryOp .Mult) (fun x y H Q=>∃d n,Is H (.l [d]) x/\y= .int n/\-(2^63)<=n/\n<2^63/\n.toNat<=sizeLine/\∀p H2,H p=none->ae H H2->Is H2 (.l (List.replicate n.toNat d)) (.ref p)->Q (.ref p) H2):=
 zg.imp fun x y H Q ⟨d,n,hx,ey,h1,h2,hl,q⟩=>by
  obtain⟨a,vs,rfl,ha,ra⟩:=az hx;obtain⟨u,us,rfl,hu,ru⟩:=aK ra;rw[bi ru] at ha;refine⟨a,n,_,rfl,ey,ha,h1,h2,by rw[DA,Nat.one_mul];exact hl,fun p np=>q p _ np (ae.new np) ?_⟩;rw[rQ];exact aB al ((Iss.rep hu _).mono (ae.new np))
theorem rR:bL X (.type "tuple") (fun vs H Q=>∃v xs,vs=[v]/\Is H (.l xs) v/\∀p H2,H p=none->ae H H2->Is H2 (.t xs) (.ref p)->Q (.ref p) H2):=
 zd.imp fun vs H Q ⟨v,xs,ev,hx,q⟩=>by
  subst ev;obtain⟨a,ws,rfl,ha,ra⟩:=az hx;exact⟨a,ws,rfl, .inl ⟨SqL.of ha,fun p np=>q p _ np (ae.new np) (bd al (ra.mono (ae.new np)))⟩⟩
theorem fY {α:Type}{xs:Qt α}{i:Int}{j:Nat}{x:α} (e:i=j) (h:xs[j]? =some x):atI xs i=some x:=by rw[e];exact lP h
theorem Iss.atI {H:Hp}{xs:Qt D}{vs:Qt V}{i:Int}{x:D} (h:Iss H xs vs) (e:L2.atI xs i=some x):∃u,L2.atI vs i=some u/\Is H x u:=by
 unfold L2.atI at e⊢;rw[h.length];cases q:ixN xs.length i with
 |none=>rw[q] at e;cases e
 |some j=>
  rw[q] at e;obtain⟨u,e1,k⟩:=h.get (j:=j) e;exact⟨u,e1,k⟩
theorem dD:IxR X (fun x y H Q=>∃xs i d,Is H (.l xs) x/\y= .int i/\atI xs i=some d/\∀u,Is H d u->Q u H):=by
 intro value K' KO s σ H x y v u Q I rx ry h hs;obtain⟨xs,i,d,hx,ey,e,q⟩:=h;obtain⟨a,vs,rfl,ha,ra⟩:=az hx;obtain⟨z,ez,hz⟩:=ra.atI e;exact ee value K' KO s σ H (.ref a) y v u Q I rx ry ⟨a,vs,i,z,rfl,ey,SqL.of ha,ez,q z hz⟩ hs
theorem aN:IxR X (fun x y H Q=>∃xs i d,Is H (.t xs) x/\y= .int i/\atI xs i=some d/\∀u,Is H d u->Q u H):=by
 intro value K' KO s σ H x y v u Q I rx ry h hs;obtain⟨xs,i,d,hx,ey,e,q⟩:=h;obtain⟨a,vs,rfl,ha,ra⟩:=bn hx;obtain⟨z,ez,hz⟩:=ra.atI e;exact y6 value K' KO s σ H (.ref a) y v u Q I rx ry ⟨a,vs,i,z,rfl,ey,SqT.of ha,ez,q z hz⟩ hs
theorem gK:bL X (.builtin "len") (fun vs H Q=>∃v xs,vs=[v]/\(Is H (.l xs) v\/Is H (.t xs) v)/\Q (.int xs.length) H):=
 iK.imp fun vs H Q ⟨v,xs,ev,hx,q⟩=>by
  subst ev;rcases hx with hx|hx
  .obtain⟨a,ws,rfl,ha,ra⟩:=az hx;exact⟨a,ws,rfl, .inl (SqL.of ha),by rw[ra.length];exact q⟩
  .obtain⟨a,ws,rfl,ha,ra⟩:=bn hx;exact⟨a,ws,rfl, .inr (SqT.of ha),by rw[ra.length];exact q⟩
end
section
variable {X:Cx}{pos np K3:Pos}{x:Str}{C:Qo}{E:XK}{e:Qu}{es:Qt Qu}{t:TA}
abbrev bmV:Qt NR:=[.type "ValueError", .type "Exception", .type "BaseException", .type "object"]
end
end L2
namespace L2
open PySem PySem.Calls PyProof.Rows PySem.W Builtin Builtin.ObjectAttr Builtin.Getset_descriptor
structure XC (K:Frag) (C:Qo):Prop where
 cl:(clsIn K C).isSome=true
 ga:findIn K (.ref C) "__getattribute__"=some (some (.builtin "BaseException.__getattribute__"))
 gt:findIn K (.ref C) "__getattr__"=some none
 ca:findIn K (.ref C) "__class__"=some (some (.builtin "object.__class__"))
 gn:specialIn K (.builtin "object.__class__") "__get__"=some (some (.builtin "getset_descriptor.__get__"))
 tk:takesIn K (.builtin "object.__class__")=some true
 ob:mroIn K C (.type "object")=some true
 be:mroIn K C (.type "BaseException")=some true
end L2
namespace L2
open PySem PySem.Spec PyProof.Rows PySem.W
variable {H:Hp}{K:W.Frag}{hi:Int}{n:Nat}
def Itd (hi:Int) (n:Nat):It:=⟨fun i _=>i<n,fun i H x H'=>H'=H/\x= .int (hi-i),fun i _=>n<=i⟩
theorem Df {P:Qp}{w:Qr}{tg:Qu} (it:Qo) (hi:Int) (n:Nat):Turn P w K tg (Itd hi n) [it] it (fun i h=>IsRangeIter h it (hi+(i:Nat)*(-1)) ((n:Int)-(i:Nat)) (-1)) where
 mem:=by simp
 obj:=fun i h st b hb=>by
  obtain rfl:b=it:=by simpa using hb
  exact⟨_,st,fun v z=>by cases (show Data.fields _=Data.cell v from z)⟩
 keep:=fun i h h' st k=>k it (by simp) _ st
 item:=by
  intro X hP hw hK hc i KO s σ H E I hf st hg;subst hP hw hK;obtain⟨f0,f1,f2,f3,f4,f5⟩:=hf it (by simp);refine(Walks.range (prog:=X.prog) (w:=X.w) (I.ok.hd hc) it hi (-1) n).item i s _ _ hg st fun v h' tk hv Lg kk=> ?_;obtain⟨t,rfl⟩:=hv;have I1:Inv X KO σ H {s with heap:=h',toks:=tk}:=I.turned (fun b o hb e=>kk b o (by simpa using hb) e) f0 f1 f3 f4 f5;refine⟨_,rfl,go_of (s:={s with heap:=h',toks:=tk}) (n:="range_iterator") Lg rfl rfl (by decide) ⟨.int (hi-i),H,I1,⟨t, ?_⟩,⟨rfl,rfl⟩,Lg,fun b hb=>(hf b hb).1⟩⟩;rw[show hi+(i:Int)*(-1)=hi-i by lia]
 done:=by
  intro X hP hw hK hc i KO s σ H E I hf st hg;subst hP hw hK;obtain⟨f0,f1,f2,f3,f4,f5⟩:=hf it (by simp);exact wpAny_pyNext_range_end (I.ok.hd hc) st (by have:n<=i:=hg;lia) fun h' eb=>⟨rfl,I.turned (t':=s.toks) (fun b o hb e=>eb b o hb e) f0 f1 f3 f4 f5⟩
 self:=fun _ _ _ _ _ st h=>wpAny_pyIter_rangeiter st h
theorem rS (a b:Int):Builtin.Range.rangeSize a b (-1)=if a>b then a-b else 0:=by
 unfold Builtin.Range.rangeSize;rw[A5 (by decide)];split
 .rw [show -(-1:Int)=1 by decide,Int.ediv_one];lia
 .rfl
theorem Dg {a b:Int} (ha: -(2^62)<=a) (ha':a<2^62) (hb: -(2^62)<=b) (MV:b<2^62):Builtin.Range.small a b (-1)=true:=by
 unfold Builtin.Range.small;rw[rS];simp only[Builtin.Range.rangeFitsLong,AN,C2,Av,DO,show((-1:Int)>0)=False by simp,Ap];split<;>lia
section
variable {X:Cx}{tg:Qu}
theorem Dh {KO:Qt (Qo×Obj)}{σ:St}{s:Qn}{R:It->Hp->Prop}{E:NR->Qn->Prop}{lo:Int}{t u v:Tok}{tk:Nat} (I:Inv X KO σ H s) (h1: -(2^62)<=hi) (h2:hi<2^62) (h3: -(2^62)<=lo) (h4:lo<2^62)
  (q:R (Itd hi (hi-lo).toNat) H):wpAny (model X.prog X.w) X.A (pyIter (.ref s.heap.objs.size)) (PIE X KO σ tg R) E {s with heap:=s.heap.push {cls:= .type "range",data:= .fields #[.int hi t, .int lo u, .int (-1) v]},toks:=tk}:=by
 refine wpAny_pyIter_range (IsRange.new ..) (Dg h1 h2 h3 h4) ?_;generalize hg:s.heap.push {cls:= .type "range",data:= .fields #[.int hi t, .int lo u, .int (-1) v]}=g;have I1:Inv X KO σ H {s with heap:=g,toks:=tk}:=I.kept fun b o e=>by rw[<-hg];exact A4 _ e
 refine⟨g.objs.size,[g.objs.size],_,_,H,rfl,I1.kept (t':=tk) fun b o e=>A4 _ e,Df _ hi (hi-lo).toNat, ?_,fun b hb=> ?_,q⟩
 .have e1:hi+((0:Nat):Int)*(-1)=hi:=by simp
  have e2:(((hi-lo).toNat:Nat):Int)-((0:Nat):Int)=Builtin.Range.rangeSize hi lo (-1):=by rw[rS];split<;>lia
  show IsRangeIter _ _ (hi+((0:Nat):Int)*(-1)) ((((hi-lo).toNat:Nat):Int)-((0:Nat):Int)) (-1);rw[e1,e2];exact AB _ rfl
 .obtain rfl:b=g.objs.size:=by simpa using hb
  exact I1.fpOk (A' _) (I1.hok.fresh (A' _))
inductive iDown_ (R:(It->Hp->Prop)) (vs:List V) (H1:Hp):Prop
 |mk (i j:Int):vs=[.int i, .int j, .int (-1)]->(-(2^62)<=i/\i<2^62/\-(2^62)<=j/\j<2^62)->R (Itd i (i-j).toNat) H1->iDown_ R vs H1
def Di (ta:TA):TI:=fun σ H R=>ta σ H fun vs H1=>iDown_ R vs H1
theorem Dj {a b c:Qu}{ta:TA}{p pos:Pos} (hg:Gl X "range") (hm:X.mg "range"=none) (ha:PA X [a,b,c] ta) (hs:starEach [a,b,c] X.env=(false,eval a X.env)::starEach [b,c] X.env:=by rfl) (Oh:(backTo pos (starEach [b,c] X.env)).any (·.1)=false:=by rfl):
  PI X tg (.Call (.Name "range" p) [a,b,c] [] pos) (Di ta):=by
 intro KO s σ H R I h;refine Call_ (cQ I hg hm boot_range (B3 (thn (ha pos KO s σ H _ I h) fun us s1 ⟨vs,H1,I1,r1,q1⟩=> ?_) hs Oh));obtain⟨i,j,e,⟨q1,q2,q3,q4⟩,q⟩:=q1;subst e;cases r1 with
 |cons r rr=>
  cases rr with
  |cons r' rr=>
   cases rr with
   |cons r2 rr=>
    cases rr;obtain⟨t,rfl⟩:=r;obtain⟨t',rfl⟩:=r';obtain⟨t2,rfl⟩:=r2;exact call_range_3 (by decide) (Dh I1 q1 q2 q3 q4 q) (.inl (PyProof.noPylong_small (by decide)))
end
theorem Dk {g:TG}{tb:TS}{D:Ends}{σ:St}(Pv:Nat->St->Hp->Prop) (h0:Pv 0 σ H)
  (hs:∀i σ H,i<n->Pv i σ H->g (.int (hi-i)) σ H fun σ2 H2=>tb (eLp D (Pv (i+1))) σ2 H2) (hd:∀σ H,Pv n σ H->D.nx σ H):
  ∃Wq:Nat->Nat->St->Hp->Prop,(∃m,Wq 0 m σ H)/\∀i m σ H,Wq i m σ H->
   ((Itd hi n).stop i H/\D.nx σ H)\/((Itd hi n).go i H/\∃N:St->Hp->Prop,(∀σ' H',N σ' H'->∃m',m'<m/\Wq (i+1) m' σ' H')/\∀x H',(Itd hi n).yld i H x H'->g x σ H' fun σ2 H2=>tb (eLp D (N)) σ2 H2):=by
 refine⟨fun i m σ H=>m=n-i/\i<=n/\Pv i σ H,⟨n,by simp,AL _,h0⟩, ?_⟩;rintro i m σ H ⟨rfl,LP,p⟩;by_cases KU:i<n
 .refine .inr ⟨KU,Pv (i+1),fun σ' H' p'=>⟨n-(i+1),by lia,rfl,KU,p'⟩,fun x H' y=> ?_⟩;obtain⟨e,y⟩:=y;subst e y;exact hs i σ _ KU p
 .obtain rfl:i=n:=by lia
  exact .inl ⟨A' _,hd σ H p⟩
def Dl (H:Hp) (v:V):Prop:=(∃i,v= .int i)\/(∃b,v= .bl b)\/v= .non\/(∃x,v= .str x)\/(∃a xs,v= .ref a/\H a=some (.lst xs))\/(∃a xs,v= .ref a/\H a=some (.tup xs))
def isI (v:V):Bool:=match v with
 | .int _=>true
 |_=>false
def Within (lo hi:Int) (v:V):Prop:=∃i,v= .int i/\lo<=i/\i<=hi
theorem Dm :W.kitOne K (.type "NoneType") (.type "int")=some false:=gH (by ac_nf) (by ac_nf) (by ac_nf)
theorem Do :W.kitOne K (.type "str") (.type "int")=some false:=gH (by ac_nf) (by ac_nf) (by ac_nf)
theorem Dp :W.kitOne K (.type "list") (.type "int")=some false:=gH (by ac_nf) (by ac_nf) (by ac_nf)
theorem Dq :W.kitOne K (.type "tuple") (.type "int")=some false:=gH (by ac_nf) (by ac_nf) (by ac_nf)
inductive sp_whole (vs:List V) (H:Hp) (Q:VK) (E':XK):Prop
 |mk v:vs=[v]->Dl H v->Q (.bl (isI v)) H->sp_whole vs H Q E'
theorem Dr {ps:Qt Pt}{i:Int}{j:Nat}{p:Pt} (e:i=j) (h:ps[j]? =some p):atI (ps.map pt) i=some (pt p):=fY e (by rw[AC,h];rfl)
section
variable {X:Cx}{KO:Qt (Qo×Obj)}{σ:St}{H:Hp}{s:Qn}{h':Qv}{ch:Qt Qo}{t':Nat}
theorem cr.chs (hf:∀b∈ch,cr X KO H b):∀b∈ch,(b∈X.ex\/X.s₀.heap.objs.size<=b)/\b≠X.env.locals/\(∀x c,X.env.cells.lookup x=some c->c≠b)/\∀p∈X.pn++KO,p.1≠b:=fun b hb=>by
 obtain⟨_,a2,_,a4,a5,a6⟩:=hf b hb;exact⟨a4,a2,a5,a6⟩
theorem Inv.turnAll (I:Inv X KO σ H s) (hf:∀b∈ch,cr X KO H b) (k:∀b o,b∉ch->s.heap.get? b=some o->h'.get? b=some o):Inv X KO σ H {s with heap:=h',toks:=t'}:=by
 have nin:∀{b u},H b=some u->b∉ch:=fun e z=>by rw[(hf _ z).1] at e;cases e
 refine I.step (g':=s.gens) (d':=s.drawn) (ch:=ch) (cr.chs hf) (fun b o _ _ c e _=>k b o c e) (fun b o _ _ c e _=>⟨o.slots,k b o c e⟩) (fun _ _ _ _ n=>n) (fun b o c e=>⟨o,k b o c e⟩) (fun _ _ e=>e) (fun _ _ _ e=>e) (fun b ps e=>⟨#[],by rw[e];simp⟩) (fun m hm=> ?_) (fun b u e=> ?_) I.bare
 .obtain⟨o,es,ep,ho,r⟩:=hm;exact⟨o,es,ep,k _ o (fun z=>(hf _ z).2.1 rfl) ho,r⟩
 .refine(I.hok b u e).stay (fun c v hc q=>k c v ?_ q) (fun _ q=>q) fun _ _ q=>q;rcases hc with z|z
  .rw [z];exact nin e
  .exact nin z
theorem Inv.turnNew {o:HO} (I:Inv X KO σ H s) (hf:∀b∈ch,cr X KO H b) (k:∀b ob,b∉ch->s.heap.get? b=some ob->h'.get? b=some ob) (new:aD X.prog X.w (upd H s.heap.objs.size o) h' s.heap.objs.size o):
  Inv X KO σ (upd H s.heap.objs.size o) {s with heap:=h',toks:=t'}:=by
 have nf:H s.heap.objs.size=none:=I.hok.fresh (A' _);have nin:∀{b u},H b=some u->b∉ch:=fun e z=>by rw[(hf _ z).1] at e;cases e
 refine I.step (g':=s.gens) (d':=s.drawn) (ch:=ch) (cr.chs hf) (fun b o _ _ c e _=>k b o c e) (fun b o _ _ c e _=>⟨o.slots,k b o c e⟩) (fun b ob c e n=> ?_) (fun b o c e=>⟨o,k b o c e⟩) (fun b ys e=> ?_) (fun b o u e=> ?_) (fun b ps e=>⟨#[], ?_⟩) (fun m hm=> ?_) (fun b u e=> ?_) I.bare
 .rw [ar (AO (AM e))];exact n
 .rw [ar (bw e nf)];exact e
 .rw [ar (bw e nf)];exact e
 .rw [ar (bw e nf),e];simp
 .obtain⟨o,es,ep,ho,r⟩:=hm;exact⟨o,es,ep,k _ o (fun z=>(hf _ z).2.1 rfl) ho,r⟩
 .by_cases hb:b=s.heap.objs.size
  .subst hb;rw[al] at e;cases e;exact new
  .rw [ar hb] at e;refine(I.hok b u e).stay (fun c v hc q=>k c v ?_ q) (fun c q=> ?_) fun c ys q=> ?_
   .rcases hc with z|z
    .rw [z];exact nin e
    .exact nin z
   .rw [ar (bw q nf)];exact q
   .rw [ar (bw q nf)];exact q
end
theorem ml :fX 2 (gTup K 2 (gCons (cq 0) (gCons (cq 1) jI))):=by
 intro v σ H Q ⟨a,xs,e,hq,hl,x,r,ex,y,r2,er,en,q⟩;refine⟨a,xs,e,hq,hl,x,r,ex,y,r2,er,en,q, ?_,fun i hi=> ?_⟩
 .rw [C1,C1]
 .rw [Cc (by lia),Cc (by lia)]
def mm :∀(σ:St) (H:Hp) (R R':St->Hp->Prop) (x:V),(∀σ' H',R σ' H'->R' σ' H')->gTup K 2 (gCons (cq 0) (gCons (cq 1) jI)) x σ H R->gTup K 2 (gCons (cq 0) (gCons (cq 1) jI)) x σ H R':=
 fun σ H R R' v k ⟨a,xs,e,hq,hl,x,r,ex,y,r2,er,en,q⟩=>⟨a,xs,e,hq,hl,x,r,ex,y,r2,er,en,k _ _ q⟩
theorem mn {X:Cx}{es:Qt Qu}{k:Nat}{pos:Pos}{t:TGs}(hK:X.K=K) (hc:X.calm=true) (h:PGs X es t)
  (hn:(assignEach es X.env).length=n:=by rfl) (K8:(assignEach es X.env).findIdx? (·.1)=none:=by rfl):PG X (.Tuple es k pos) (gTup K n t):=hK▸cH hc h hn K8
end L2
namespace PySem.SeqAt
open AutoSeq1 (wpAny_loadPart')
open MeetsSeq MeetsSeq2 MeetsSeq3 SeqRoads2
def LtAt (A:Qs) (s:Qn) (y x:NR) (b:Bool):Prop:=
 ∀(prog:Qp) (w:Qr) (E:NR->Qn->Prop) (Q:NR->Qn->Prop),Q (.bool b) s->wpAny (model prog w) A (richCompare .Lt y x) Q E s
def lex (e f:Nat->Bool) (m n:Nat):Nat->Nat->Bool
 |0,_=>decide (m<n)
 |k+1,i=>if e i=true then lex e f m n k (i+1) else f i
theorem Ds (l b:Qo) (items KP:Array NR) (n n2:Nat) (dd Mg:Qw Qo) (sl Mh:Array (Qw NR)) (e f:Nat->Bool) (k:Nat):
  ∀i:Nat,min items.size KP.size-i=k->Meets (Builtin.«list.__eq__.loop» ⟨[.ref l, .ref b,rawInt i,rawInt 0],[]⟩)
   (fun A R s=>s.heap.get? l=some {cls:= .type "list",dict:=dd,data:= .seq items n,slots:=sl}/\s.heap.get? b=some {cls:= .type "list",dict:=Mg,data:= .seq KP n2,slots:=Mh}/\
    (∀j (h1:j<items.size) (h2:j<KP.size),EqAt A.in1 s items[j] KP[j] (e j))/\(∀j (h1:j<items.size) (h2:j<KP.size),e j=false->LtAt A.in1 s items[j] KP[j] (f j))/\
    R (.ok (.ret (.bool (lex e f items.size KP.size k i)))) s):=by
 induction k with
 |zero=>
  intro i hk prog w A R s h;obtain⟨hp,g,d,tk,os⟩:=s;obtain⟨hl,hb,he,hf,h⟩:=h
  wp_walk using wpAny_loadPart' hl,CJ hb
  rcases(by lia:items.size<=i\/(i<items.size/\KP.size<=i)) with q|⟨q1,q2⟩
  .have O0:items[((i:Nat):Int).toNat]? =none:=by simp;lia
   rw[O0]
   wp_walk using wpAny_loadPart' hl,CJ hb
   exact h
  .have O0:items[((i:Nat):Int).toNat]? =some items[i]:=by simp[q1]
   have Mt:KP[((i:Nat):Int).toNat]? =none:=by simp;lia
   rw[O0,Mt]
   wp_walk using wpAny_loadPart' hl,CJ hb
   exact h
 |succ k ih=>
  intro i hk prog w A R s h;obtain⟨hp,g,d,tk,os⟩:=s;obtain⟨hl,hb,he,hf,h⟩:=h
  wp_walk using wpAny_loadPart' hl,CJ hb
  have KU:i<items.size:=by lia
  have PK:i<KP.size:=by lia
  have O0:items[((i:Nat):Int).toNat]? =some items[i]:=by simp[KU]
  have Mt:KP[((i:Nat):Int).toNat]? =some KP[i]:=by simp[PK]
  have hc:((i:Int)+1)=((i+1:Nat):Int):=by push_cast;rfl
  unfold lex at h;rw[O0,Mt];refine A0 (he i KU PK prog w _ _ ?_);cases MV:e i with
  |true=>
   rw[MV,A7 rfl] at h
   wp_walk
   rw[hc];exact⟨BX plain_eq_loop _,BQ entry_eq_loop (by
    rw[BB plain_eq_loop _];exact ih (i+1) (by lia) prog w A R _ ⟨hl,hb,he,hf,h⟩)⟩
  |false=>
   rw[MV,A5 (by simp)] at h
   wp_walk using wpAny_loadPart' hl,CJ hb
   rw[O0,Mt];refine A0 (hf i KU PK MV prog w _ _ ?_)
   wp_walk
   exact h
theorem rT (l b:Qo) (items KP:Array NR) (n n2:Nat) (dd Mg:Qw Qo) (sl Mh:Array (Qw NR)) (e f:Nat->Bool):
  Meets (Builtin.«list.__lt__» ⟨[.ref l, .ref b],[]⟩)
   (fun A R s=>s.heap.get? l=some {cls:= .type "list",dict:=dd,data:= .seq items n,slots:=sl}/\s.heap.get? b=some {cls:= .type "list",dict:=Mg,data:= .seq KP n2,slots:=Mh}/\
    (∀j (h1:j<items.size) (h2:j<KP.size),EqAt A.in1 s items[j] KP[j] (e j))/\(∀j (h1:j<items.size) (h2:j<KP.size),e j=false->LtAt A.in1 s items[j] KP[j] (f j))/\
    R (.ok (.ret (.bool (lex e f items.size KP.size (min items.size KP.size) 0)))) s):=by
 intro prog w A R s h;obtain⟨hp,g,d,tk,os⟩:=s;obtain⟨hl,hb,he,hf,h⟩:=h;have f3:=AutoSeq1.sub_list_list
 wp_walk using wpAny_loadPart' hl,CJ hb
 exact⟨BX plain_eq_loop _,BQ entry_eq_loop (by
  rw[BB plain_eq_loop _];exact Ds l b items KP n n2 dd Mg sl Mh e f _ 0 rfl prog w A R _ ⟨hl,hb,he,hf,by simpa using h⟩)⟩
theorem Dt (l b:Qo) (items KP:Array NR) (n n2:Nat) (dd Mg:Qw Qo) (sl Mh:Array (Qw NR)) (e f:Nat->Bool):
  Meets (Builtin.«tuple.__lt__» ⟨[.ref l, .ref b],[]⟩)
   (fun A R s=>s.heap.get? l=some {cls:= .type "tuple",dict:=dd,data:= .seq items n,slots:=sl}/\s.heap.get? b=some {cls:= .type "tuple",dict:=Mg,data:= .seq KP n2,slots:=Mh}/\
    (∀j (h1:j<items.size) (h2:j<KP.size),EqAt A.in1 s items[j] KP[j] (e j))/\(∀j (h1:j<items.size) (h2:j<KP.size),e j=false->LtAt A.in1 s items[j] KP[j] (f j))/\
    R (.ok (.ret (.bool (lex e f items.size KP.size (min items.size KP.size) 0)))) s):=
 .of_wp fun prog w A R s h=>by
  obtain⟨hp,g,d,tk,os⟩:=s;obtain⟨hl,hb,he,hf,h⟩:=h;have f2:=AutoSeq1.sub_tuple_tuple;have hZ:(items.toList.zip KP.toList).length=min items.size KP.size:=by simp
  wp_walk using wpAny_loadPart' hl,CJ hb,BW _ (fun aF b s'=>b.1=none/\s'=⟨hp,g,d,tk,os⟩/\∃i,aF=(items.toList.zip KP.toList).drop i/\i<=min items.size KP.size/\
   R (.ok (.ret (.bool (lex e f items.size KP.size (min items.size KP.size-i) i)))) ⟨hp,g,d,tk,os⟩) _
  case turn=>
   rintro⟨y,x⟩ aF b s' ⟨MV,rfl,i,hz,PL,hR⟩;have KU:i<(items.toList.zip KP.toList).length:=by
    rcases Bo i (items.toList.zip KP.toList).length with h'|h'
    .exact h'
    .rw [Bd h'] at hz;cases hz
   have hm:i<min items.size KP.size:=hZ▸KU;have h1:i<items.size:=Aj hm (Nat.min_le_left _ _);have h2:i<KP.size:=Aj hm (Nat.min_le_right _ _);rw[Ai KU] at hz;injection hz with hyx hrest;have hy:y=items[i]:=by have:=BU Prod.fst hyx;simpa using this
   have hx:x=KP[i]:=by have:=BU Prod.snd hyx;simpa using this
   subst hy hx;rw[show min items.size KP.size-i=(min items.size KP.size-(i+1))+1 by lia,lex] at hR;refine A0 (he i h1 h2 prog w _ _ ?_);cases hy:e i with
   |true=>
    rw[hy,A7 rfl] at hR
    wp_walk
    exact⟨rfl,rfl,i+1,hrest,by lia,hR⟩
   |false=>
    rw[hy,A5 (by simp)] at hR;rw[A7 (show(!false)=true from rfl)];refine A0 (CP ?_);refine A0 (hf i h1 h2 hy prog w _ _ ?_)
    wp_walk
    exact⟨_,rfl,hR⟩
  case fin=>
   rintro⟨b1,b2⟩ s' ⟨MV,rfl,i,hz,PL,hR⟩;simp only at MV;subst MV;have hi:i=min items.size KP.size:=by
    rcases Bo i (items.toList.zip KP.toList).length with h'|h'
    .rw [Ai h'] at hz;cases hz
    .lia
   subst hi;rw[Nat.sub_self] at hR
   wp_walk
   exact⟨_,rfl,hR⟩
  case h=>
   exact⟨rfl,rfl,0,rfl,AL _,by simpa using h⟩
section
variable {A:Qs}{s:Qn}
def LtAt.int_int (i:Int) (t:Tok) (j:Int) (u:Tok):LtAt A s (.int i t) (.int j u) (decide (i<j)):=fun prog w E Q h=>wpAny_lt_int h
theorem LtAt.lists {l b:Qo}{items KP:Array NR}{e f:Nat->Bool} (hl:s.heap.IsList l items) (hb:s.heap.IsList b KP) (hu:A.units<cLine)
  (he:∀j (h1:j<items.size) (h2:j<KP.size),EqAt A.in1 s items[j] KP[j] (e j)) (hf:∀j (h1:j<items.size) (h2:j<KP.size),e j=false->LtAt A.in1 s items[j] KP[j] (f j)):
  LtAt A s (.ref l) (.ref b) (lex e f items.size KP.size (min items.size KP.size) 0):=fun prog w E Q h=>by
 obtain⟨⟨cls,dd,data,sl⟩,ho,hc,n,hd⟩:=id hl;obtain⟨⟨NJ,Mg,data2,Mh⟩,LK,LO,n2,LW⟩:=id hb;simp only at hc hd LO LW;subst hc hd LO LW;exact richCompare_meets_room (op:= .Lt) ⟨_,ho,rfl⟩ ⟨_,LK,rfl⟩ F.slot_list_lt F.entry_list_lt (F.args_list_lt_2 _ _) (rT l b items KP n n2 dd Mg sl Mh e f)
  ⟨ho,LK,he,hf,show Value.bool (lex e f items.size KP.size (min items.size KP.size) 0)≠Value.notImplemented/\Q (.bool (lex e f items.size KP.size (min items.size KP.size) 0)) s from⟨(fun x=>nomatch x),h⟩⟩ hu
theorem LtAt.tuples {l b:Qo}{items KP:Array NR}{e f:Nat->Bool} (hl:s.heap.IsTuple l items) (hb:s.heap.IsTuple b KP) (hu:A.units<cLine)
  (he:∀j (h1:j<items.size) (h2:j<KP.size),EqAt A.in1 s items[j] KP[j] (e j)) (hf:∀j (h1:j<items.size) (h2:j<KP.size),e j=false->LtAt A.in1 s items[j] KP[j] (f j)):
  LtAt A s (.ref l) (.ref b) (lex e f items.size KP.size (min items.size KP.size) 0):=fun prog w E Q h=>by
 obtain⟨⟨cls,dd,data,sl⟩,ho,hc,n,hd⟩:=id hl;obtain⟨⟨NJ,Mg,data2,Mh⟩,LK,LO,n2,LW⟩:=id hb;simp only at hc hd LO LW;subst hc hd LO LW;exact richCompare_meets_room (op:= .Lt) ⟨_,ho,rfl⟩ ⟨_,LK,rfl⟩ F.slot_tuple_lt F.entry_tuple_lt (F.args_tuple_lt_2 _ _) (Dt l b items KP n n2 dd Mg sl Mh e f)
  ⟨ho,LK,he,hf,show Value.bool (lex e f items.size KP.size (min items.size KP.size) 0)≠Value.notImplemented/\Q (.bool (lex e f items.size KP.size (min items.size KP.size) 0)) s from⟨(fun x=>nomatch x),h⟩⟩ hu
theorem key_lists {prog:Qp}{w:Qr}{E:NR->Qn->Prop}{l b:Qo}{items KP:Array NR}{e f:Nat->Bool}{Q:Bool->Qn->Prop} (hl:s.heap.IsList l items) (hb:s.heap.IsList b KP) (hu:A.units<cLine)
  (he:∀j (h1:j<items.size) (h2:j<KP.size),EqAt A.in1 s items[j] KP[j] (e j)) (hf:∀j (h1:j<items.size) (h2:j<KP.size),e j=false->LtAt A.in1 s items[j] KP[j] (f j))
  (h:Q (lex e f items.size KP.size (min items.size KP.size) 0) s):wpAny (model prog w) A (PyProof.Rows.keyLt' PyProof.Rows.oneType' (.ref l) (.ref b)) Q E s:=by
 rw[PyProof.Rows.keyLt'_oneType,PyProof.Rows.oneLt'_eq];simp only[C0];refine A0 (wpAny_cRoomFor hu ?_);obtain⟨⟨cls,dd,data,sl⟩,ho,hc,n,hd⟩:=id hl;obtain⟨⟨NJ,Mg,data2,Mh⟩,LK,LO,n2,LW⟩:=id hb;simp only at hc hd LO LW;subst hc hd LO LW;refine A0 (wpAny_callSpecialIfBound?_slot (T:="list") ⟨_,ho,rfl⟩ F.slot_list_lt (call_meets F.slot_list_lt ⟨_,ho,rfl⟩ F.entry_list_lt (F.args_list_lt_2 _ _) (rT l b items KP n n2 dd Mg sl Mh e f) ⟨ho,LK,he,hf, ?_⟩));exact BS h
end
end PySem.SeqAt
namespace L2
open PySem PySem.Spec PyProof.Rows
variable {A:Qs}{E:NR->Qn->Prop}{H:Hp}{Q:Bool->Qn->Prop}{a b l:Qo}{d i j m n:Nat}{p:Array Nat}{prog:Qp}{q:Qt Pt}{v:V}{vs:Qt NR}{w:Qr}{xs ys:Qt Int}{xss:Qt (Qt Int)}
inductive LtR (K:W.Frag) (H:Hp):Nat->V->V->Bool->Prop where
 |int (d:Nat) (i j:Int):LtR K H d (.int i) (.int j) (decide (i<j))
 |lists {d:Nat}{a b:Addr}{xs ys:List V} (es fs:Nat->Bool) (h1:SqL K H a xs) (h2:SqL K H b ys) (he:∀(j:Nat) x y,xs[j]? =some x->ys[j]? =some y->EqR K H d x y (es j)) (hf:∀(j:Nat) x y,xs[j]? =some x->ys[j]? =some y->es j=false->LtR K H d x y (fs j)):
  LtR K H (d+1) (.ref a) (.ref b) (SeqAt.lex es fs xs.length ys.length (min xs.length ys.length) 0)
 |tuples {d:Nat}{a b:Addr}{xs ys:List V} (es fs:Nat->Bool) (h1:SqT K H a xs) (h2:SqT K H b ys) (he:∀(j:Nat) x y,xs[j]? =some x->ys[j]? =some y->EqR K H d x y (es j)) (hf:∀(j:Nat) x y,xs[j]? =some x->ys[j]? =some y->es j=false->LtR K H d x y (fs j)):
  LtR K H (d+1) (.ref a) (.ref b) (SeqAt.lex es fs xs.length ys.length (min xs.length ys.length) 0)
section
variable {X:Cx}{KO:Qt (Qo×Obj)}{σ:St}{H:Hp}{s:Qn}
theorem dE {xs:Qt V}{is:Qt NR}(r:au xs is) (q:j<is.toArray.size):∃x,xs[j]? =some x/\aw x is.toArray[j]:=by
 have l:=r.length;have q':j<is.length:=by simpa using q
 have hx:xs[j]? =some xs[j]:=A2 (by lia);obtain⟨u,e,ru⟩:=r.get hx;refine⟨_,hx, ?_⟩;have g:is.toArray[j]=u:=by
  rw[A2 q'] at e;simpa using Option.some.inj e
 rw[g];exact ru
theorem LtR.bN (I:Inv X KO σ H s) {d:Nat}{x y:V}{b:Bool} (h:LtR X.K H d x y b):∀{A:Qs}{u v:NR},A.units+d<cLine->aw x u->aw y v->SeqAt.LtAt A s u v b:=by
 induction h with
 |int d i j=>
  intro A u v hu ru rv;obtain⟨t,rfl⟩:=ru;obtain⟨t',rfl⟩:=rv;exact SeqAt.LtAt.int_int i t j t'
 | @lists d a b xs ys es fs h1 h2 he hf ih=>
  intro A u v hu ru rv;obtain rfl:u=Value.ref a:=ru;obtain rfl:v=Value.ref b:=rv;obtain⟨is,r1,p1,z1⟩:=I.list h1;obtain⟨js,r2,p2,z2⟩:=I.list h2;have l1:xs.length=is.toArray.size:=by have:=r1.length;simpa using this
  have l2:ys.length=js.toArray.size:=by have:=r2.length;simpa using this
  rw[l1,l2];refine SeqAt.LtAt.lists p1.isList p2.isList (by lia) (fun j q1 q2=> ?_) (fun j q1 q2 z=> ?_)
  .obtain⟨x,hx,rx⟩:=dE r1 q1;obtain⟨y,hy,ry⟩:=dE r2 q2;exact((he j _ _ hx hy).bN I (by rw[bU];lia) rx ry).2.2
  .obtain⟨x,hx,rx⟩:=dE r1 q1;obtain⟨y,hy,ry⟩:=dE r2 q2;exact ih j _ _ hx hy z (by rw[bU];lia) rx ry
 | @tuples d a b xs ys es fs h1 h2 he hf ih=>
  intro A u v hu ru rv;obtain rfl:u=Value.ref a:=ru;obtain rfl:v=Value.ref b:=rv;obtain⟨is,r1,p1,z1⟩:=I.tuple h1;obtain⟨js,r2,p2,z2⟩:=I.tuple h2;have l1:xs.length=is.toArray.size:=by have:=r1.length;simpa using this
  have l2:ys.length=js.toArray.size:=by have:=r2.length;simpa using this
  rw[l1,l2];refine SeqAt.LtAt.tuples (show s.heap.IsTuple a is.toArray from p1) (show s.heap.IsTuple b js.toArray from p2) (by lia) (fun j q1 q2=> ?_) (fun j q1 q2 z=> ?_)
  .obtain⟨x,hx,rx⟩:=dE r1 q1;obtain⟨y,hy,ry⟩:=dE r2 q2;exact((he j _ _ hx hy).bN I (by rw[bU];lia) rx ry).2.2
  .obtain⟨x,hx,rx⟩:=dE r1 q1;obtain⟨y,hy,ry⟩:=dE r2 q2;exact ih j _ _ hx hy z (by rw[bU];lia) rx ry
theorem LtR.key (I:Inv X KO σ H s) {xs ys:Qt V}{es fs:Nat->Bool} (h1:SqL X.K H a xs) (h2:SqL X.K H b ys) (he:∀(j:Nat) x y,xs[j]? =some x->ys[j]? =some y->EqR X.K H d x y (es j)) (hf:∀(j:Nat) x y,xs[j]? =some x->ys[j]? =some y->es j=false->LtR X.K H d x y (fs j))
  (hu:A.units+(d+1)<cLine) (q:Q (SeqAt.lex es fs xs.length ys.length (min xs.length ys.length) 0) s):
  wpAny (model prog w) A (keyLt' oneType' (.ref a) (.ref b)) Q E s:=by
 obtain⟨is,r1,p1,z1⟩:=I.list h1;obtain⟨js,r2,p2,z2⟩:=I.list h2;have l1:xs.length=is.toArray.size:=by have:=r1.length;simpa using this
 have l2:ys.length=js.toArray.size:=by have:=r2.length;simpa using this
 rw[l1,l2] at q;refine SeqAt.key_lists p1.isList p2.isList (by lia) (fun j q1 q2=> ?_) (fun j q1 q2 z=> ?_) q
 .obtain⟨x,hx,rx⟩:=dE r1 q1;obtain⟨y,hy,ry⟩:=dE r2 q2;exact((he j _ _ hx hy).bN I (by rw[bU];lia) rx ry).2.2
 .obtain⟨x,hx,rx⟩:=dE r1 q1;obtain⟨y,hy,ry⟩:=dE r2 q2;exact(hf j _ _ hx hy z).bN I (by rw[bU];lia) rx ry
end
def iV (ns:Qt Int):Int:=ns.getD (argBest (fun i j=>decide (ns.getD i 0<ns.getD j 0)) (ns.length-1)) 0
section
variable {X:Cx}
theorem rV {ys:Array (Int×Tok)}{ns:Qt Int} (h:ys.toList.map (·.1)=ns) (i:Nat):numAt ys i=ns.getD i 0:=by
 subst h;unfold numAt;rw[List.getD,AC,BK]
theorem Du (hc:X.calm=true):bL X (.builtin "min") (fun xs H Q=>∃(p:Qo) (ns:Qt Int),xs=[.ref p]/\SqL X.K H p (ns.map V.int)/\0<ns.length/\Q (.int (iV ns)) H):=by
 intro KO s σ H xs us Q I r h;obtain⟨p,ns,rfl,hq,h0,q⟩:=h;obtain⟨u,rfl,rx⟩:=dM r;cases rx;obtain⟨KQ,r',pl,hz⟩:=I.list hq;have hi:IntsAre KQ ns:=lO r';obtain⟨ys,e⟩:=hi.allInts.items;have n1:=hi.numsOf;rw[show KQ=KQ.toArray.toList from rfl,e,nums_intItems] at n1;have hsz:ys.size=ns.length:=by rw[<-n1];simp
 have hl:=pl.isList;rw[e] at hl;refine min_intList (I.ok.hd hc) hl (by lia) fun v h' tk hv hk=> ?_;obtain⟨t,rfl⟩:=intItems_at hv;refine⟨.int (iV ns),H,I.kept hk,⟨t, ?_⟩,q⟩;unfold iV;rw[rV n1,hsz];simp only[rV n1]
inductive ipM (x:V) (y:V) (H:Hp) (Q:VK):Prop
 |mk i j:x= .int i->y= .int j->gy i j->Q (.int (i*j)) H->ipM x y H Q
theorem jV:PIp X .Mult ipM:=by
 intro KO s σ H x y v u Q I r1 r2 h;obtain⟨i,j,e1,e2,c,q⟩:=h;subst e1;subst e2;obtain⟨t,rfl⟩:=r1;obtain⟨t',rfl⟩:=r2;exact imul_int ⟨.int _,H,I.tok _,⟨_,rfl⟩,q⟩ c.ok
end
section
variable {X:Cx}{a b:Qu}{ta:TA}{p1 p2 p3 pos:Pos}
def bW (i:Int) (n:Nat):Qt V:=(List.range n).map fun k:Nat=>V.int (i+(k:Int))
theorem rW {i:Int}:∀(n:Nat) (acc:Qt NR) (o:Nat),acc.length=n->(∀k v,acc[k]? =some v->∃t,v=Value.int (i+(o+k:Nat)*1) t)->au ((List.range' o n).map fun k:Nat=>V.int (i+(k:Int))) acc
 |0,acc,o,h,_=>by
  obtain rfl:acc=[]:=Br.mp h;exact .nil
 |n+1,acc,o,h,hv=>by
  cases acc with
  |nil=>simp at h
  |cons v acc=>
   rw[List.range'_succ,AE];obtain⟨t,rfl⟩:=hv 0 v rfl;refine .cons ⟨t,by congr 1;simp⟩ (rW n acc (o+1) (by simpa using h) fun k v e=> ?_);obtain⟨t,e2⟩:=hv (k+1) v (by simpa using e);exact⟨t,by rw[e2];congr 1;lia⟩
inductive tListRng_ (Q:VK) (vs:List V) (H1:Hp):Prop
 |mk (i j:Int):vs=[.int i, .int j]->(-(2^62)<=i/\i<2^62/\-(2^62)<=j/\j<2^62)->(j-i).toNat<=1000->(∀l,H1 l=none->Q (.ref l) (upd H1 l (.lst (bW i (j-i).toNat))))->tListRng_ Q vs H1
def Dv (ta:TA):TE:=fun σ H Q=>ta σ H fun vs H1=>tListRng_ Q vs H1
theorem Dw (hc:X.calm=true) (hg1:Gl X "list") (hm1:X.mg "list"=none) (hg2:Gl X "range") (hm2:X.mg "range"=none) (ha:PA X [a,b] ta)
  (he1:starEach [.Call (.Name "range" p2) [a,b] [] p3] X.env=[(false,eval (.Call (.Name "range" p2) [a,b] [] p3) X.env)]:=by rfl)
  (hs:starEach [a,b] X.env=[(false,eval a X.env),(false,eval b X.env)]:=by rfl) (Oh:starEach [b] X.env=[(false,eval b X.env)]:=by rfl):
  PE X (.Call (.Name "list" p1) [.Call (.Name "range" p2) [a,b] [] p3] [] pos) (Dv ta):=by
 intro KO s σ H Q I h;refine Be (cQ I hg1 hm1 boot_list ?_);refine B3 ?_ he1 (by rfl);rw[he1];show wpAny _ _ (spliced [(false,eval (.Call (.Name "range" p2) [a,b] [] p3) X.env)]) _ _ s;refine Ca ?_;refine Call_ (cQ I hg2 hm2 boot_range (B3 (thn (ha p3 KO s σ H _ I h) fun us s1 ⟨vs,H1,I1,r1,q1⟩=> ?_) (by rw[hs,Oh]) (by rw[Oh];rfl)));obtain⟨i,j,e,⟨q1,q2,q3,q4⟩,hn,q⟩:=q1;subst e;cases r1 with
 |cons r rr=>
  cases rr with
  |cons r' rr=>
   cases rr;obtain⟨t,rfl⟩:=r;obtain⟨t',rfl⟩:=r';refine call_range_2 ?_;refine Calls.spliced_nil ?_;refine call_list_range (n:=(j-i).toNat) (I1.ok.hd hc) (IsRange.new ..) (small_one q1 q2 q3 q4) (by rw[rangeSize_one];split<;>lia) (by lia) fun h' tk K1 c' hk hS KR=> ?_
   have ne:∀b o,s1.heap.get? b=some o->h'.get? b=some o:=fun b o z=>hk b o (A4 _ z);obtain⟨z1,z2⟩:=KR;have vv:au (bW i (j-i).toNat) K1.toList:=by
    unfold bW;rw[List.range_eq_range'];exact rW (j-i).toNat K1.toList 0 (by simpa using z1) fun k v e=>by
     obtain⟨t,e2⟩:=z2 k v (by simpa using e);exact⟨t,by rw[e2];simp⟩
   have le:s1.heap.objs.size<=(s1.heap.push {cls:= .type "range",data:= .fields #[.int i t, .int j t', .int 1 s1.toks]}).objs.size:=by rw[An];exact D0 _
   exact⟨.ref _,_,I1.laid (t':=tk) ne le (show aD X.prog X.w _ h' _ (.lst (bW i (j-i).toNat)) from⟨by unfold bW;rw[A1,BJ,Ay];lia,K1.toList,c',vv,hS⟩),rfl,q _ (I1.hok.fresh le)⟩
end
def tI (xs:Qt Int):D:= .t (xs.map .i)
theorem jW {H:Hp}:∀{xs:Qt Int}{vs:Qt V},Iss H (xs.map .i) vs->vs=xs.map V.int
 |[],vs,h=>h
 |x::xs,vs,h=>by
  obtain⟨u,us,rfl,h1,h2⟩:=h;rw[aE h1,jW h2];rfl
theorem mo {H:Hp}:∀(xs:Qt Int),Iss H (xs.map .i) (xs.map V.int)
 |[]=>rfl
 |x::xs=>⟨_,_,rfl,bq,mo xs⟩
theorem bO (h:Is H (tI xs) v):∃a,v= .ref a/\H a=some (.tup (xs.map V.int)):=by
 obtain⟨a,vs,rfl,ha,hi⟩:=bn h;rw[jW hi] at ha;exact⟨a,rfl,ha⟩
def eX (h:H a=some (.tup (xs.map V.int))):Is H (tI xs) (.ref a):=bd h (mo xs)
open PySem.W
section
variable {n:Nat}
def Ord (n:Nat) (p:Array Nat):Prop:=p.Perm (List.range n).toArray
theorem Ord.size {p:Array Nat} (h:Ord n p):p.size=n:=by
 have:=(Cf.mp h).length_eq;simpa using this
theorem Ord.lt (h:Ord n p) (hi:i∈p.toList):i<n:=by
 have:=(Cf.mp h).mem_iff.mp hi;simpa using this
theorem Ord.bubble {p:Array Nat} (h:Ord n p) (i j:Nat):Ord n (PyProof.Rows.bubble p i j):=(bubble_perm p i j).trans h
def Ord.kas (h:Ord n p) (i j:Nat):Ord n (kas_rev p i j):=(mirror_perm p i j _).trans h
theorem Ord.getD {p:Array Nat} (h:Ord n p) (hn:0<n) (i:Nat):p.getD i 0<n:=by
 by_cases hi:i<p.size
 .have e:p.getD i 0=p[i]:=by simp[Array.getD,hi]
  rw[e];exact h.lt (by simp)
 .have e:p.getD i 0=0:=by simp[Array.getD,hi]
  rw[e];exact hn
def br (n:Nat) {α:Type} (R:α->Prop):KasT α->Prop
 | .ret a=>R a
 | .ask i j k=>i<n/\j<n/\∀b,br n R (k b)
theorem br.bind {α β:Type}{R:α->Prop}{R':β->Prop}{f:α->KasT β} (hf:∀a,R a->br n R' (f a)):∀{t:KasT α},br n R t->br n R' (t.bind f)
 | .ret a,h=>hf a h
 | .ask i j k,h=>⟨h.1,h.2.1,fun b=>br.bind hf (h.2.2 b)⟩
theorem br.wp {α:Type}{R:α->Prop}{cmp:Nat->Nat->(Bool->Qn->Prop)->Qn->Prop}{Q:α->Qn->Prop}{s:Qn} (hc:∀i j,i<n->j<n->∃b,∀C:Bool->Qn->Prop,C b s->cmp i j C s) (hq:∀a,R a->Q a s):∀{t:KasT α},br n R t->t.kasWp cmp Q s
 | .ret a,h=>hq a h
 | .ask i j k,h=>by
  obtain⟨b,hb⟩:=hc i j h.1 h.2.1;exact hb _ (br.wp hc hq (h.2.2 b))
variable (hn:0<n)
include hn
theorem mq {p:Array Nat} (h:Ord n p):∀f m,br n (fun _=>True) (kas_asc p f m)
 |0,m=>trivial
 |f+1,m=>⟨h.getD hn _,h.getD hn _,fun b=>by
  cases b with
  |true=>exact trivial
  |false=>exact mq h f (m+1)⟩
theorem jX:∀(f:Nat) (p:Array Nat) (m q:Nat),Ord n p->br n (fun r=>Ord n r.1) (kas_desc f p m q)
 |0,p,m,q,h=>h
 |f+1,p,m,q,h=>⟨h.getD hn _,h.getD hn _,fun b=>by
  cases b with
  |true=>
   show br n _ (if q>0 then kas_desc f (kas_rev p (m-(q+1)) m) (m+1) 0 else kas_desc f p (m+1) 0);by_cases hq:q>0
   .rw [A7 hq];exact jX f _ _ _ (h.kas _ _)
   .rw [A5 hq];exact jX f _ _ _ h
  |false=>
   refine(show br n _ (KasT.ask (p.getD (m-1) 0) (p.getD m 0) fun d=>if d=true then KasT.ret (p,m,q) else kas_desc f p (m+1) (q+1)) from⟨h.getD hn _,h.getD hn _,fun b=> ?_⟩);cases b with
   |true=>exact h
   |false=>exact jX f _ _ _ h⟩
theorem rX (h:Ord n p) (m k:Nat):br n (fun r=>Ord n r.2) (kas_tail3 m k p):=by
 unfold kas_tail3;refine br.bind (fun a _=> ?_) (mq hn (h.kas 0 m) _ _);exact h.kas 0 m
theorem rY (h:Ord n p) (m k:Nat):br n (fun r=>Ord n r.2) (kas_descPart m k p):=by
 refine(jX hn _ _ _ _ h).bind fun r hr=> ?_;by_cases hq:r.2.2>0
 .rw [A7 hq];exact rX hn (hr.kas _ _) _ _
 .rw [A5 hq];exact rX hn hr _ _
theorem Dx (h:Ord n p) (k:Nat):br n (fun r=>Ord n r.2) (kas_count k p):=by
 refine(mq hn h _ _).bind fun m _=> ?_;by_cases h1:(m==k)=true
 .rw [A7 h1];exact h
 .rw [A5 h1];by_cases h2:m>1
  .rw [A7 h2];refine⟨h.getD hn _,h.getD hn _,fun b=> ?_⟩;cases b with
   |true=>exact h
   |false=>exact rY hn (h.kas _ _) _ _
  .rw [A5 h2];exact rY hn h _ _
theorem mr {p:Array Nat} (h:Ord n p) (k:Nat):∀f l r,br n (fun _=>True) (kas_place p k f l r)
 |0,l,r=>trivial
 |f+1,l,r=>by
  unfold kas_place;by_cases h1:l>=r
  .rw [A7 h1];exact trivial
  .rw [A5 h1];refine⟨h.getD hn _,h.getD hn _,fun b=> ?_⟩;cases b with
   |true=>exact mr h k f _ _
   |false=>exact mr h k f _ _
theorem rZ:∀(f:Nat) (p:Array Nat) (k:Nat),Ord n p->br n (Ord n) (kas_bin f p k)
 |0,p,k,h=>h
 |f+1,p,k,h=>(mr hn h k _ _ _).bind fun l _=>rZ f _ _ (h.bubble _ _)
theorem r6:br n (Ord n) (kas_sort n):=by
 refine(Dx hn (show Ord n (List.range n).toArray from Array.Perm.refl _) n).bind fun r hr=> ?_;by_cases h:r.1<n
 .rw [A7 h];exact rZ hn _ _ _ hr
 .rw [A5 h];exact hr
end
section
variable {prog:Qp}{w:Qr}{A:Qs}{E:NR->Qn->Prop}{s:Qn}
abbrev aZ (h:Qv) (a:Qo) (vs:Qt NR):Qv:=((h.update a (Obj.mapSeq fun _=>(#[]:Array NR))).push (seqObj "tuple" vs.toArray 0)).push (seqObj "list" #[] 0)
theorem Dy {kd:SortKind}{P:PySem.Fin->Qn->Prop} (ho:s.heap.get? a=some (seqObj "list" vs.toArray n)) (h2:2<=vs.length) (h64:vs.length<64)
  (Ol:∀(R:SortKind->Qn->Prop),R kd {s with heap:=aZ s.heap a vs}->wpAny (model prog w) A (keyKind' vs.toArray) R E {s with heap:=aZ s.heap a vs})
  (hc:∀i j,i<vs.length->j<vs.length->∃b,∀C:Bool->Qn->Prop,C b {s with heap:=aZ s.heap a vs}->wpAny (model prog w) A (keyLt' kd (vs.getD i .none) (vs.getD j .none)) C (fun _ _=>False) {s with heap:=aZ s.heap a vs})
  (h:∀p,Ord vs.length p->P (.done (.ret .none)) {s with heap:=sortedHeap s.heap a vs (p.map fun i=>vs.getD i .none)}):wpAny (model prog w) A (Builtin.«list.sort» ⟨[.ref a],[]⟩) P E s:=by
 rw[list_sort_plain];have ha:a<s.heap.objs.size:=AM ho;refine A0 (listItems_at ho rfl ?_);refine A0 (Cv ho rfl ?_ (by rw[AJ,Ay];lia) (AL _));obtain⟨e1,Lz⟩:∃e1,(s.heap.update a (Obj.mapSeq fun _=>(#[]:Array NR))).get? a=some (seqObj "list" #[] e1):=⟨_,Cq ho (fun _=> #[])⟩;refine A0 (seqEpoch_at Lz rfl ?_);refine A0 (wpAny_newTuple ?_ (by show vs.length<=_;rw[Ay];lia));refine A0 (DK ?_ (AL _));refine Ar ?_;have NA:(aZ s.heap a vs).get? a=some (seqObj "list" #[] e1):=by
  rw[BD _ _ _ (by rw[C4,BC];exact AO (Al ha)),BD _ _ _ (by rw[BC];exact AO ha)];exact Lz
 show wpAny (model prog w) A _ P E {s with heap:=aZ s.heap a vs};dsimp only;have Oi:¬vs.toArray.size<2:=by rw[AJ];lia
 rw[A5 Oi,A5 Oi];refine A0 (Ol _ ?_);have est:kas_st kd (pairsOf vs) (List.toArray (List.range vs.length))=SortSt.mk' kd (vs.toArray.zip vs.toArray) #[] 7 none:=by
  have e:=kas_range (pairsOf vs);rw[pairsOf_size] at e;show SortSt.mk' kd ((List.toArray (List.range vs.length)).map (kas_item (pairsOf vs))) #[] 7 none=SortSt.mk' kd (pairsOf vs) #[] 7 none;rw[e]
 have ask:(kas_sort vs.length).kasWp (kas_cmp prog w A kd (pairsOf vs)) (fun p s'=>s'={s with heap:=aZ s.heap a vs}/\Ord vs.length p) {s with heap:=aZ s.heap a vs}:=by
  refine br.wp (fun i j hi hj=> ?_) (fun p hp=>⟨rfl,hp⟩) (r6 (by lia));obtain⟨b,hb⟩:=hc i j hi hj;refine⟨b,fun C hC=> ?_⟩;rw[<-kas_ask_eq];exact hb C hC
 have run:=kas_runs (E:=E) (Q:=fun _ Lg s'=>∃p,s'={s with heap:=aZ s.heap a vs}/\Ord vs.length p/\arrOf Lg=p.map (kas_item (pairsOf vs))/\failedOf Lg=none) h2 h64 (fun p' Lg s' _ a2 a3 a4=>⟨p',a4.1,a4.2,a2,a3⟩) ask;rw[est] at run;refine A0 (Bv run ?_ fun _ _ e=>e);rintro⟨⟨⟩,Lg⟩ s' ⟨p,rfl,hp,har,hf⟩;dsimp only at har hf⊢;have eo:(arrOf Lg).map (·.2)=p.map fun i=>vs.getD i .none:=by
  rw[har,Array.map_map];refine Array.map_congr_left fun i _=> ?_;show(kas_item (pairsOf vs) i).2=_;rw[kas_item_eq]
 rw[eo];refine A0 (seqEpoch_at NA rfl ?_);refine A0 (Cv NA rfl ?_ (AL _) (by rw[Array.size_map,Ay,hp.size];lia));rw[hf];simp only[D3,AG,Ap];exact A3 (h p hp)
abbrev gL (h:Qv) (vs:Qt NR):Qv:=aZ (((h.push (seqObj "list" #[] 0)).update h.objs.size (Obj.mapSeq (· ++vs.toArray))).push (seqObj "list" vs.toArray 0)) (h.objs.size+1) vs
theorem Dz {h:Qv}{o:Obj} (hb:h.get? b=some o):(gL h vs).get? b=some o:=by
 have KU:b<h.objs.size:=AM hb;have sz:(((h.push (seqObj "list" #[] 0)).update h.objs.size (Obj.mapSeq (· ++vs.toArray))).push (seqObj "list" vs.toArray 0)).objs.size=h.objs.size+2:=by rw[C4,BC,C4]
 have n0:b≠h.objs.size:=AO KU;have n1:b≠h.objs.size+1:=AO (Al KU);have n2:b≠h.objs.size+2:=AO (Al (Al KU));have n3:b≠h.objs.size+2+1:=AO (Al (Al (Al KU)));rw[BD _ _ _ (by rw[C4,BC,sz];exact n3),BD _ _ _ (by rw[BC,sz];exact n2),DT _ _ _ _ n1,
  BD _ _ _ (by rw[BC,C4];exact n1),DT _ _ _ _ n0,BD _ _ _ n0]
 exact hb
theorem DU {kd:SortKind}{Q:NR->Qn->Prop} (hl:s.heap.IsList l vs.toArray) (h2:2<=vs.length) (h64:vs.length<64)
  (Ol:∀(R:SortKind->Qn->Prop) (E:NR->Qn->Prop),R kd {s with heap:=gL s.heap vs}->wpAny (model prog w) A.in1.in1 (keyKind' vs.toArray) R E {s with heap:=gL s.heap vs})
  (hc:∀i j,i<vs.length->j<vs.length->∃b,∀C:Bool->Qn->Prop,C b {s with heap:=gL s.heap vs}->wpAny (model prog w) A.in1.in1 (keyLt' kd (vs.getD i .none) (vs.getD j .none)) C (fun _ _=>False) {s with heap:=gL s.heap vs})
  (h:∀p,Ord vs.length p->Q (.ref (s.heap.objs.size+1)) {s with heap:=sortedAll s.heap vs (p.map fun i=>vs.getD i .none)}):wpAny (model prog w) A (call (.builtin "sorted") [.ref l]) Q E s:=by
 refine Calls.call_function_entry kind_sorted plain_sorted entry_sorted (args_sorted1 _) ?_;unfold Builtin.«sorted»;refine A0 (m:=checkCount "sorted" 1 1 _) (A3 ?_);refine A0 (collect_list hl ?_ (by rw[Ay];lia));refine A0 (DK ?_ (by rw[Ay];lia));have hsz:((s.heap.push (seqObj "list" #[] 0)).update s.heap.objs.size (Obj.mapSeq (· ++vs.toArray))).objs.size=s.heap.objs.size+1:=by
  rw[BC,C4]
 have Ps:(((s.heap.push (seqObj "list" #[] 0)).update s.heap.objs.size (Obj.mapSeq (· ++vs.toArray))).push (seqObj "list" vs.toArray 0)).get? (s.heap.objs.size+1)=some (seqObj "list" vs.toArray 0):=by
  rw[<-hsz];exact AB _ rfl
 show wpAny _ _ _ _ _ {s with heap:=((s.heap.push (seqObj "list" #[] 0)).update s.heap.objs.size (Obj.mapSeq (· ++vs.toArray))).push (seqObj "list" vs.toArray 0)};rw[hsz];refine A0 (Ar (Af slot_list_sort ⟨_,Ps,rfl⟩ entry_list_sort (Dy (s:={s with heap:=((s.heap.push (seqObj "list" #[] 0)).update s.heap.objs.size (Obj.mapSeq (· ++vs.toArray))).push (seqObj "list" vs.toArray 0)}) Ps h2 h64 (fun R=>Ol R _) hc fun p hp=>⟨_,rfl, ?_⟩) (args_list_sort _)));exact A3 ⟨_,rfl,h p hp⟩
end
section
variable {prog:Qp}{w:Qr}{A:Qs}{E:NR->Qn->Prop}{s:Qn}
theorem r9 {P:PySem.Fin->Qn->Prop} (ho:s.heap.get? a=some (seqObj "list" vs.toArray n)) (h2:vs.length<2)
  (h:P (.done (.ret .none)) {s with heap:=sortedHeap s.heap a vs vs.toArray}):wpAny (model prog w) A (Builtin.«list.sort» ⟨[.ref a],[]⟩) P E s:=by
 rw[list_sort_plain];have ha:a<s.heap.objs.size:=AM ho;refine A0 (listItems_at ho rfl ?_);refine A0 (Cv ho rfl ?_ (by rw[AJ,Ay];lia) (AL _));obtain⟨e1,Lz⟩:∃e1,(s.heap.update a (Obj.mapSeq fun _=>(#[]:Array NR))).get? a=some (seqObj "list" #[] e1):=⟨_,Cq ho (fun _=> #[])⟩;refine A0 (seqEpoch_at Lz rfl ?_);refine A0 (wpAny_newTuple ?_ (by show vs.length<=_;rw[Ay];lia));refine A0 (DK ?_ (AL _));refine Ar ?_;have NA:(aZ s.heap a vs).get? a=some (seqObj "list" #[] e1):=by
  rw[BD _ _ _ (by rw[C4,BC];exact AO (Al ha)),BD _ _ _ (by rw[BC];exact AO ha)];exact Lz
 show wpAny (model prog w) A _ P E {s with heap:=aZ s.heap a vs};dsimp only;have Oi:vs.toArray.size<2:=by rw[AJ];lia
 rw[A7 Oi,A7 Oi];refine A0 (A3 ?_);rw[StateT.run_pure];refine A0 (A3 ?_);dsimp only;have eo:(vs.toArray.zip vs.toArray).map (·.2)=vs.toArray:=by
  refine Array.ext (by simp) fun i h1 h2=> ?_;simp
 refine A0 (seqEpoch_at NA rfl ?_);rw[eo];refine A0 (Cv NA rfl ?_ (AL _) (by rw[AJ,Ay];lia));simp only[D3,AG,Ap];exact A3 h
theorem DV {Q:NR->Qn->Prop} (hl:s.heap.IsList l vs.toArray) (h2:vs.length<2)
  (h:Q (.ref (s.heap.objs.size+1)) {s with heap:=sortedAll s.heap vs vs.toArray}):wpAny (model prog w) A (call (.builtin "sorted") [.ref l]) Q E s:=by
 refine Calls.call_function_entry kind_sorted plain_sorted entry_sorted (args_sorted1 _) ?_;unfold Builtin.«sorted»;refine A0 (m:=checkCount "sorted" 1 1 _) (A3 ?_);refine A0 (collect_list hl ?_ (by rw[Ay];lia));refine A0 (DK ?_ (by rw[Ay];lia));have hsz:((s.heap.push (seqObj "list" #[] 0)).update s.heap.objs.size (Obj.mapSeq (· ++vs.toArray))).objs.size=s.heap.objs.size+1:=by
  rw[BC,C4]
 have Ps:(((s.heap.push (seqObj "list" #[] 0)).update s.heap.objs.size (Obj.mapSeq (· ++vs.toArray))).push (seqObj "list" vs.toArray 0)).get? (s.heap.objs.size+1)=some (seqObj "list" vs.toArray 0):=by
  rw[<-hsz];exact AB _ rfl
 show wpAny _ _ _ _ _ {s with heap:=((s.heap.push (seqObj "list" #[] 0)).update s.heap.objs.size (Obj.mapSeq (· ++vs.toArray))).push (seqObj "list" vs.toArray 0)};rw[hsz];refine A0 (Ar (Af slot_list_sort ⟨_,Ps,rfl⟩ entry_list_sort (r9 (s:={s with heap:=((s.heap.push (seqObj "list" #[] 0)).update s.heap.objs.size (Obj.mapSeq (· ++vs.toArray))).push (seqObj "list" vs.toArray 0)}) Ps h2 ⟨_,rfl, ?_⟩) (args_list_sort _)));exact A3 ⟨_,rfl,h⟩
end
section
variable {X:Cx}
theorem mw {rs:Qt V}{KQ:Qt NR} (r:au rs KQ):∀(l:Qt Nat),(∀i∈l,i<rs.length)->au (l.map fun i=>rs.getD i .non) (l.map fun i=>KQ.getD i .none)
 |[],_=> .nil
 |i::l,h=>by
  have hi:i<rs.length:=h i (by simp);have e:rs[i]? =some rs[i]:=A2 hi;obtain⟨u,hu,ru⟩:=r.get e;rw[AE,AE];refine .cons ?_ (mw r l fun j hj=>h j (by simp[hj]));rw[List.getD,List.getD,e,hu];exact ru
end
def dh (fin:Bool):Qt Int->Qt Int->Bool
 |x::xs,y::ys=>if x=y then dh fin xs ys else decide (x<y)
 |_,_=>fin
def ltI (xs ys:Qt Int):Bool:=dh (decide (xs.length<ys.length)) xs ys
section
variable {prog:Qp}{w:Qr}{A:Qs}{E:NR->Qn->Prop}{s:Qn}
theorem si {fin:Bool}{Q:Bool->Qn->Prop}:∀{xs ys:Qt Int}{is js:Qt NR} (i:Nat),au (xs.map V.int) is->au (ys.map V.int) js->Q (dh fin xs ys) s->KatLex prog w A true fin Q (is.zip js) i s
 |[],ys,is,js,i,h1,h2,q=>by
  cases h1;rw[List.zip_nil_left];exact kat_nil (by cases ys<;>exact q)
 |x::xs,[],is,js,i,h1,h2,q=>by
  cases h2;rw[List.zip_nil_right];exact kat_nil q
 |x::xs,y::ys,is,js,i,h1,h2,q=>by
  cases h1 with
  |cons r1 h1=>
  cases h2 with
  |cons r2 h2=>
  obtain⟨t,rfl⟩:=r1;obtain⟨t',rfl⟩:=r2;rw[DP];refine kat_cons ?_;refine wpAny_eqBool_int ?_;unfold dh at q;by_cases e:x=y
  .rw [A7 e] at q;rw[show(x==y)=true by simp[e]];exact kat_yes (si (i+1) h1 h2 q)
  .rw [A5 e] at q;rw[show(x==y)=false by simp[e]];refine kat_no ?_;cases hb:(true&&i==0) with
   |true=>exact oneLt_int q
   |false=>exact kat_one _ _ (SeqAt.LtAt.int_int x t y t' prog w _ _ q)
end
theorem DW (xss:Qt (Qt Int)):(List.range xss.length).map (fun i=>xss.getD i [])=xss:=by
 refine Ck (by simp) fun i h1 h2=> ?_;simp[List.getD,h2]
theorem sj {H:Hp}{xss:Qt (Qt Int)}{rs:Qt V} (h:Iss H (xss.map tI) rs):∀(l:Qt Nat),(∀i∈l,i<xss.length)->Iss H ((l.map fun i=>xss.getD i []).map tI) (l.map fun i=>rs.getD i .non)
 |[],_=>rfl
 |i::l,hl=>by
  have hi:i<xss.length:=hl i (by simp);have hr:i<rs.length:=by rw[h.length,A1];exact hi
  refine⟨_,_,rfl, ?_,sj h l fun j hj=>hl j (by simp[hj])⟩;obtain⟨d,hd,h1⟩:=h.of_get (A2 hr);rw[AC,A2 hi] at hd;cases hd;show Is H (tI (xss.getD i [])) (rs.getD i .non);rw[A9,A9,A2 hi,A2 hr];exact h1
section
variable {X:Cx}{KO:Qt (Qo×Obj)}{σ:St}{H:Hp}{s:Qn}
theorem sk (I:Inv X KO σ H s):∀{xss:Qt (Qt Int)}{rs:Qt V}{KQ:Qt NR},Iss H (xss.map tI) rs->au rs KQ->(∀xs∈xss,xs≠[])->∃fs:Qt NR,KatTups s.heap KQ fs/\fs.length=KQ.length/\∀f∈fs,∃z t,f=Value.int z t
 |[],rs,KQ,h,r,_=>by
  obtain rfl:rs=[]:=h;cases r;exact⟨[],KatTups.nil,rfl,fun _ h=>nomatch h⟩
 |xs::xss,rs,KQ,h,r,LD=>by
  obtain⟨u,us,rfl,h1,h2⟩:=h;cases r with
  |cons r1 r2=>
  rename_i v KQ;obtain⟨fs,k1,k2,k3⟩:=sk I h2 r2 fun ys hy=>LD ys (by simp[hy]);obtain⟨a,rfl,ha⟩:=bO h1;obtain rfl:v=Value.ref a:=r1;obtain⟨is,q1,q2,q3⟩:=I.tuple (SqT.of (K:=X.K) ha);obtain⟨o,ho,hc,n,hd⟩:=(show s.heap.IsTuple a is.toArray from q2)
  match xs,LD xs (by simp) with
  |x::MK,_=>
  cases q1 with
  |cons q0 q1=>
  obtain⟨t,rfl⟩:=q0;refine⟨.int x t::fs,KatTups.cons ho hc hd (by simp) k1,by simp[k2],fun f hf=> ?_⟩;rcases AI.mp hf with rfl|hf
  .exact⟨_,_,rfl⟩
  .exact k3 f hf
theorem DX (I:Inv X KO σ H s) (h1:SqT X.K H a (xs.map V.int)) (h2:SqT X.K H b (ys.map V.int)) (q:Q (ltI xs ys) s):
  wpAny (model prog w) A (keyLt' (tuples' true) (.ref a) (.ref b)) Q E s:=by
 obtain⟨is,r1,p1,z1⟩:=I.tuple h1;obtain⟨js,r2,p2,z2⟩:=I.tuple h2;obtain⟨o1,Lz,hc1,n1,hd1⟩:=(show s.heap.IsTuple a is.toArray from p1);obtain⟨o2,LK,LO,n2,LW⟩:=(show s.heap.IsTuple b js.toArray from p2);refine kat_lt Lz hd1 LK LW ?_;have l1:is.toArray.size=xs.length:=by have:=r1.length;simp at this⊢;lia
 have l2:js.toArray.size=ys.length:=by have:=r2.length;simp at this⊢;lia
 rw[l1,l2];exact si 0 r1 r2 q
end
def jY (v:NR) (k:Int):Bool:=match v with
 | .int i _=>decide (i=k)
 |_=>false
def eY:Qt DictEntry->Qt (Int×Int)->Bool
 |[],[]=>true
 |e::es,p::kvs=>jY e.key p.1&&decide (e.hash=hashInt p.1)&&jY e.val p.2&&eY es kvs
 |_,_=>false
def sr (o:Obj) (kvs:Qt (Int×Int)):Bool:=match o.cls,o.dict,o.data with
 | .type c,none, .dict es _=>c=="dict"&&o.slots.isEmpty&&eY es.toList kvs
 |_,_,_=>false
def gM (K:W.Frag) (a:Qo) (kvs:Qt (Int×Int)):Bool:=match K.lookup a with
 |some o=>sr o kvs
 |none=>false
theorem su {v:NR}{k:Int} (h:jY v k=true):∃t,v= .int k t:=by
 unfold jY at h;split at h
 .rename_i i t;exact⟨t,by rw[B8 h]⟩
 .cases h
theorem sv {e:DictEntry}{es:Qt DictEntry}{p:Int×Int}{kvs:Qt (Int×Int)} (h:eY (e::es) (p::kvs)=true):(∃t,e.key= .int p.1 t)/\e.hash=hashInt p.1/\(∃t,e.val= .int p.2 t)/\eY es kvs=true:=by
 unfold eY at h;rw[AN,AN,AN] at h;exact⟨su h.1.1.1,B8 h.1.1.2,su h.1.2,h.2⟩
theorem sw:∀{es:Qt DictEntry}{kvs:Qt (Int×Int)},eY es kvs=true->∀e∈es,∃k,Value.isInt k e.key=true/\e.hash=hashInt k
 |[],_,_,e,he=>nomatch he
 |e::es,[],h,_,_=>by unfold eY at h;cases h
 |e::es,p::kvs,h,e',he=>by
  obtain⟨⟨t,h1⟩,h2,_,h4⟩:=sv h;rcases AI.mp he with rfl|he
  .exact⟨p.1,by rw[h1];simp[Value.isInt],h2⟩
  .exact sw h4 e' he
theorem sD {k v:Int}:∀{es:Qt DictEntry}{kvs:Qt (Int×Int)},eY es kvs=true->kvs.lookup k=some v->∃t,(es.find? fun e=>Value.isInt k e.key).map (·.val)=some (.int v t)
 |_,[],_,hv=>nomatch hv
 |[],p::kvs,h,_=>by unfold eY at h;cases h
 |e::es,p::kvs,h,hv=>by
  obtain⟨⟨t,h1⟩,h2,⟨u,h3⟩,h4⟩:=sv h;rw[CM] at hv;rw[Bc];by_cases q:k=p.1
  .have b:(k==p.1)=true:=by simp[q]
   rw[b] at hv;have hv':p.2=v:=Ac hv;have i:Value.isInt k e.key=true:=by rw[h1,q];simp[Value.isInt]
   rw[i];exact⟨u,by rw[<-hv',<-h3];rfl⟩
  .have b:(k==p.1)=false:=by simp[q]
   rw[b] at hv;have i:Value.isInt k e.key=false:=by rw[h1];simp[Value.isInt];exact fun z=>q z.symm
   rw[i];exact sD h4 hv
inductive tDGetM_ (K:W.Frag) (Q:VK) (x:V) (y:V) (H2:Hp):Prop
 |mk a kvs k v:x= .ref a->gM K a kvs=true->y= .int k->kvs.lookup k=some v->Q (.int v) H2->tDGetM_ K Q x y H2
def DY (K:W.Frag) (td ty:TE):TE:=fun σ H Q=>td σ H fun x H1=>ty σ H1 fun y H2=>tDGetM_ K Q x y H2
theorem sE {X:Cx}{o i:Qu}{pos:Pos}{td ty:TE} (ho:PE X o td) (hi:PE X i ty) (hs:fT i):PE X (.Subscript o i pos) (DY X.K td ty):=by
 intro KO s σ H Q I h;refine lU PySem.F.slot_dict_getitem.lookup hs (thn (ho KO s σ H _ I h) fun u s1 ⟨x,H1,I1,rx,q1⟩=>thn (hi KO s1 σ H1 _ I1 q1) fun iv s2 ⟨y,H2,I2,ry,a,kvs,k,v,ex,hd,ey,hv,q2⟩=> ?_);subst ex ey;obtain rfl:u=Value.ref a:=rx;obtain⟨t,rfl⟩:=ry;unfold gM at hd;split at hd
 .rename_i ob NS;have hg:=I2.kIn a ob NS;unfold sr at hd;split at hd
  .rename_i c es ep hc Md L4;rw[AN,AN] at hd;obtain⟨⟨d1,d2⟩,d3⟩:=hd;have hc':ob.cls= .type "dict":=by rw[hc,eq_of_beq d1]
   obtain⟨t',ht⟩:=sD d3 hv;have mp:s2.heap.MapOf (intKind X.prog X.w) a (findBy Value.isInt es):=⟨ob,es,ep,hg,⟨hc',Md,Array.isEmpty_iff.mp d2⟩,L4,fun e he=>sw d3 e (by simpa using he),fun _=>rfl⟩;refine⟨⟨ob,hg,hc'⟩,wpAny_getItem_of (knd:=intKind X.prog X.w) (k:=k) (by simp[intKind,Value.isInt]) mp (v:= .int v t') ?_ ⟨.int v,H2,I2.tok _,⟨_,rfl⟩,q2⟩⟩;show findBy Value.isInt es k=_;unfold findBy;obtain⟨l⟩:=es;simpa using ht
  .cases hd
 .cases hd
def DZ (K:W.Frag) (H:Hp) (n:Nat) (xs:Qt V) (x:V) (es:Nat->Bool):Prop:=n<=8/\(∀(j:Nat) z,xs[j]? =some z->(∃a,z= .ref a)/\EqR K H n z x (es j))/\∀(i j:Nat) z,xs[i]? =some z->xs[j]? =some z->es i=es j
section
variable {X:Cx}{KO:Qt (Qo×Obj)}{σ:St}{H:Hp}{s:Qn}
open Classical in
noncomputable def fB (KQ:Qt NR) (es:Nat->Bool) (u:NR):Bool:=decide (∃j:Nat,KQ[j]? =some u/\es j=true)
end
def Ask (K:W.Frag) (H:Hp) (x y:V) (b:Bool):Prop:=∃(a1 a2:Qo) (xs ys:Qt V) (d:Nat) (es fs:Nat->Bool),x= .ref a1/\y= .ref a2/\SqL K H a1 xs/\SqL K H a2 ys/\d<=4/\
 (∀(j:Nat) x y,xs[j]? =some x->ys[j]? =some y->EqR K H d x y (es j))/\(∀(j:Nat) x y,xs[j]? =some x->ys[j]? =some y->es j=false->LtR K H d x y (fs j))/\b=SeqAt.lex es fs xs.length ys.length (min xs.length ys.length) 0
inductive rSortedP (K:W.Frag) (vs:List V) (H:Hp) (Q:VK):Prop
 |mk (l:Addr) (rs:List V):vs=[.ref l]->SqL K H l rs->rs.length<64->((∀r∈rs,∃a ys,r= .ref a/\SqL K H a ys))->((∀x∈rs,∀y∈rs,∃b,Ask K H x y b))->(∀(p:List Nat) q,p.Perm (List.range rs.length)->H q=none->Q (.ref q) (upd H q (.lst (p.map fun i=>rs.getD i .non))))->rSortedP K vs H Q
section
variable {X:Cx}
theorem mx {k:Nat} (hr:Room k X.A):bL X (.builtin "sorted") (rSortedP X.K):=by
 intro KO s σ H xs us Q I r h;obtain⟨l,rs,rfl,hq,h64,hty,OA,q⟩:=h;obtain⟨u,rfl,rx⟩:=dM r;cases rx;obtain⟨KQ,r',pl,hz⟩:=I.list hq;have ln:=r'.length;have hu:=hr.un;by_cases h2:rs.length<2
 .refine DV (vs:=KQ) pl.isList (by lia) ?_;obtain⟨e,he⟩:=sortedAll_at s.heap KQ KQ.toArray;have fr:=I.hok.fresh (a:=s.heap.objs.size+1) (D0 _);have er:(List.range rs.length).map (fun i=>rs.getD i .non)=rs:=by
   refine Ck (by simp) fun i h1 h2=> ?_;simp[List.getD,h2]
  have:=q (List.range rs.length) (s.heap.objs.size+1) (List.Perm.refl _) fr;rw[er] at this;exact⟨.ref (s.heap.objs.size+1),_,I.laid (t':=s.toks) (fun _ _=>sortedAll_old) (D0 _) (show aD X.prog X.w _ _ _ (.lst rs) from⟨hz,KQ,e,r',he⟩),rfl,this⟩
 .have I2:Inv X KO σ H {s with heap:=gL s.heap KQ}:=I.kept (t':=s.toks) fun b o e=>Dz e;have g:∀i,i<KQ.length->∃x∈rs,aw x (KQ.getD i .none):=fun i h=>by
   have hr:i<rs.length:=by lia
   obtain⟨u,LA,ru⟩:=r'.get (A2 hr);exact⟨rs[i],Cj hr,by rw[A9,LA];exact ru⟩
  refine DU (kd:=oneType') (vs:=KQ) pl.isList (by lia) (by lia) (fun R E hR=>kas_kind (T:= .type "list") (by lia) (fun v hv=> ?_) rfl rfl hR) (fun i j LP hj'=> ?_) fun p ho=> ?_
  .obtain⟨i,hi,rfl⟩:=B6.mp hv;have LP:i<rs.length:=by lia
   obtain⟨a,ys,e1,hy⟩:=hty rs[i] (Cj LP);obtain⟨u,LA,ru⟩:=r'.get (A2 LP);rw[A2 hi] at LA;rw[e1] at ru;obtain rfl:u=Value.ref a:=ru;rw[Ac LA];obtain⟨js,r2,p2,z2⟩:=I2.list hy;obtain⟨o,ho,hc,_⟩:=p2.isList;exact hc▸(Looks.ld ho).andThen .now
  .obtain⟨x,hx,rx⟩:=g i LP;obtain⟨y,hy,ry⟩:=g j hj';obtain⟨b,a1,a2,xs,ys,d,es,fs,rfl,rfl,h1,h2,hd,he,hf,eb⟩:=OA x hx y hy;refine⟨b,fun C hC=> ?_⟩;have e1:KQ.getD i .none=Value.ref a1:=rx;have e2:KQ.getD j .none=Value.ref a2:=ry;rw[e1,e2];rw[eb] at hC;exact LtR.key I2 h1 h2 he hf (by rw[bU,bU];lia) hC
  .have Lr:Ord rs.length p:=by rw[ln];exact ho
   obtain⟨e,he⟩:=sortedAll_at s.heap KQ (p.map fun i=>KQ.getD i .none);have en:(p.map fun i=>KQ.getD i .none)=List.toArray (p.toList.map fun i=>KQ.getD i .none):=by
    apply Array.toList_inj.mp;simp
   rw[en] at he⊢;have fr:=I.hok.fresh (a:=s.heap.objs.size+1) (D0 _);have pp:p.toList.Perm (List.range rs.length):=Cf.mp Lr;refine⟨.ref (s.heap.objs.size+1),_,I.laid (t':=s.toks) (fun _ _=>sortedAll_old) (D0 _) (show aD X.prog X.w _ _ _ (.lst (p.toList.map fun i=>rs.getD i .non)) from⟨?_,_,e,mw r' p.toList (fun i hi=>Lr.lt hi),he⟩),rfl,q p.toList _ pp fr⟩;rw[A1,Ao,Ay,Lr.size];lia
end
def eZ (p q:Pt):Bool:=decide (p.1<q.1)||(decide (p.1=q.1)&&decide (p.2<q.2))
def et:Qt Pt->Qt Pt->Bool
 |_,[]=>false
 |[],_::_=>true
 |x::xs,y::ys=>if x=y then et xs ys else eZ x y
section
variable {K:W.Frag}{H:Hp}
theorem sF {p q:Pt}{w:V} (h:Is H (pt p) v) (k:Is H (pt q) w):LtR K H 1 v w (eZ p q):=by
 obtain⟨a,rfl,ha⟩:=fA h;obtain⟨b,rfl,hb⟩:=fA k;have e:=LtR.tuples (K:=K) (H:=H) (d:=0) (a:=a) (b:=b) (fun j=>if j=0 then decide (p.1=q.1) else decide (p.2=q.2)) (fun j=>if j=0 then decide (p.1<q.1) else decide (p.2<q.2)) (SqT.of ha) (SqT.of hb) (fun j x y hx hy=> ?_) (fun j x y hx hy _=> ?_)
 .have e2:SeqAt.lex (fun j=>if j=0 then decide (p.1=q.1) else decide (p.2=q.2)) (fun j=>if j=0 then decide (p.1<q.1) else decide (p.2<q.2)) 2 2 2 0=eZ p q:=by
   unfold eZ;by_cases e0:p.1=q.1
   .have n0:¬p.1<q.1:=by lia
    by_cases e1:p.2=q.2
    .have n1:¬p.2<q.2:=by lia
     simp[SeqAt.lex,e0,e1]
    .simp [SeqAt.lex,e0,e1]
   .simp [SeqAt.lex,e0]
  exact e2▸e
 .match j,hx,hy with
  |0,hx,hy=>cases hx;cases hy;exact EqR.int 0 _ _
  |1,hx,hy=>cases hx;cases hy;exact EqR.int 0 _ _
  |j+2,hx,_=>simp at hx
 .match j,hx,hy with
  |0,hx,hy=>cases hx;cases hy;exact LtR.int 0 _ _
  |1,hx,hy=>cases hx;cases hy;exact LtR.int 0 _ _
  |j+2,hx,_=>simp at hx
theorem my (p q:Qt Pt):∀(k i:Nat),min p.length q.length-i=k->i<=min p.length q.length->SeqAt.lex (fun j=>decide (p.getD j (0,0)=q.getD j (0,0))) (fun j=>eZ (p.getD j (0,0)) (q.getD j (0,0))) p.length q.length k i=et (p.drop i) (q.drop i)
 |0,i,hk,hi=>by
  rw[SeqAt.lex];rcases(by lia:q.length=i\/(p.length=i/\i<q.length)) with e|⟨e,e2⟩
  .rw [Bd (l:=q) (by lia)];have:¬p.length<q.length:=by lia
   cases p.drop i<;>simp[et,this]
  .rw [Bd (l:=p) (by lia),Ai e2];have:p.length<q.length:=by lia
   simp[et,this]
 |k+1,i,hk,hi=>by
  have h1:i<p.length:=by lia
  have h2:i<q.length:=by lia
  have g1:p.getD i (0,0)=p[i]:=by simp[List.getD,h1]
  have g2:q.getD i (0,0)=q[i]:=by simp[List.getD,h2]
  rw[SeqAt.lex,Ai h1,Ai h2,et,g1,g2];by_cases e:p[i]=q[i]
  .rw [A7 (At e),A7 e];exact my p q k (i+1) (by lia) (by lia)
  .rw [A5 (by simpa using e),A5 e]
theorem sG {p:Qt Pt}{vs ws:Qt V} (h:Iss H (p.map pt) vs) (k:Iss H (q.map pt) ws):
  (∀(j:Nat) x y,vs[j]? =some x->ws[j]? =some y->EqR K H 1 x y (decide (p.getD j (0,0)=q.getD j (0,0))))/\(∀(j:Nat) x y,vs[j]? =some x->ws[j]? =some y->decide (p.getD j (0,0)=q.getD j (0,0))=false->LtR K H 1 x y (eZ (p.getD j (0,0)) (q.getD j (0,0)))):=by
 have go:∀(j:Nat) x y,vs[j]? =some x->ws[j]? =some y->Is H (pt (p.getD j (0,0))) x/\Is H (pt (q.getD j (0,0))) y:=fun j x y hx hy=>by
  obtain⟨d,hd,h1⟩:=h.of_get hx;obtain⟨e,he,h2⟩:=k.of_get hy;rw[AC] at hd he;obtain⟨d',LU,rfl⟩:=AR.mp hd;obtain⟨e',MW,rfl⟩:=AR.mp he;rw[List.getD,LU,List.getD,MW];exact⟨h1,h2⟩
 exact⟨fun j x y hx hy=>z9 (go j x y hx hy).1 (go j x y hx hy).2,fun j x y hx hy _=>sF (go j x y hx hy).1 (go j x y hx hy).2⟩
theorem Ea {p:Qt Pt}{w:V} (h:Is H (pts p) v) (k:Is H (pts q) w):Ask K H v w (et p q):=by
 obtain⟨a,vs,rfl,ha,h⟩:=gI h;obtain⟨b,ws,rfl,hb,k⟩:=gI k;obtain⟨e1,e2⟩:=sG (K:=K) h k;refine⟨a,b,vs,ws,1,_,_,rfl,rfl,SqL.of ha,SqL.of hb,by decide,e1,e2, ?_⟩;rw[h.length,k.length,A1,A1,my p q _ 0 (Nat.sub_zero _) (AL _),C7,C7]
end
def aV (c:Nat->Nat->Bool) {α:Type}:KasT α->α
 | .ret a=>a
 | .ask i j k=>aV c (k (c i j))
theorem gN {c:Nat->Nat->Bool}{α β:Type}{f:α->KasT β}:∀(t:KasT α),aV c (t.bind f)=aV c (f (aV c t))
 | .ret _=>rfl
 | .ask i j k=>gN (k (c i j))
structure Ordr (c:Nat->Nat->Bool):Prop where
 asym:∀a b,c a b=true->c b a=false
 tr:∀a b d,c b a=false->c d b=false->c d a=false
section
variable {c:Nat->Nat->Bool}
abbrev at0 (p:Array Nat) (i:Nat):Nat:=p.getD i 0
def Up (c:Nat->Nat->Bool) (p:Array Nat) (m:Nat):Prop:=∀i j,i<j->j<m->c (at0 p j) (at0 p i)=false
def Dn (c:Nat->Nat->Bool) (p:Array Nat) (m:Nat):Prop:=∀i j,i<j->j<m->c (at0 p i) (at0 p j)=false
theorem Up.more (O:Ordr c) (h:Up c p m) (hm:0<m) (e:c (at0 p m) (at0 p (m-1))=false):Up c p (m+1):=by
 intro i j ML hj;by_cases hjm:j<m
 .exact h i j ML hjm
 .obtain rfl:j=m:=by lia
  by_cases hi:i=j-1
  .subst hi;exact e
  .exact O.tr _ _ _ (h i (j-1) (by lia) (by lia)) e
theorem Dn.more (O:Ordr c) (h:Dn c p m) (hm:0<m) (e:c (at0 p (m-1)) (at0 p m)=false):Dn c p (m+1):=by
 intro i j ML hj;by_cases hjm:j<m
 .exact h i j ML hjm
 .obtain rfl:j=m:=by lia
  by_cases hi:i=j-1
  .subst hi;exact e
  .exact O.tr _ _ _ e (h i (j-1) (by lia) (by lia))
theorem mz (O:Ordr c) {p:Array Nat}:∀(f m:Nat),0<m->Up c p m->m<=aV c (kas_asc p f m)/\aV c (kas_asc p f m)<=m+f/\Up c p (aV c (kas_asc p f m))/\(aV c (kas_asc p f m)<m+f->c (at0 p (aV c (kas_asc p f m))) (at0 p (aV c (kas_asc p f m)-1))=true)
 |0,m,hm,h=>⟨A' _,A' _,h,fun z=>absurd z (Bb _)⟩
 |f+1,m,hm,h=>by
  unfold kas_asc aV;cases e:c (p.getD m 0) (p.getD (m-1) 0) with
  |true=>
   dsimp only;rw[A7 rfl];exact⟨A' _,by show m<=_;lia,h,fun _=>e⟩
  |false=>
   dsimp only;rw[A5 (by decide)];obtain⟨h1,h2,h3,h4⟩:=mz O f (m+1) (by lia) (h.more O hm e);exact⟨by lia,by lia,h3,fun z=>h4 (by lia)⟩
theorem eu (hj:j<=p.size) (k:Nat):at0 (kas_rev p i j) k=if i<=k/\k<j then at0 p (i+j-1-k) else at0 p k:=by
 have h:=getElem?_mirror_all (xs:=p) (i:=i) hj k;have e:∀q:Array Nat,∀k,at0 q k=(q[k]?).getD 0:=fun q k=>by simp[at0,Array.getD];split<;>simp[*]
 rw[e,e,e];unfold kas_rev;rw[h];split<;>rfl
def fZ (p:Array Nat) (i j:Nat):(kas_rev p i j).size=p.size:=mirror_size _ _ _ _
theorem Dn.rev_all (h:Dn c p m) (hm:m<=p.size):Up c (kas_rev p 0 m) m:=by
 intro i j ML hj;rw[eu hm,eu hm,A7 ⟨by lia,hj⟩,A7 ⟨by lia,by lia⟩];exact h _ _ (by lia) (by lia)
theorem Up.rev_all (h:Up c p m) (hm:m<=p.size):Dn c (kas_rev p 0 m) m:=by
 intro i j ML hj;rw[eu hm,eu hm,A7 ⟨by lia,by lia⟩,A7 ⟨by lia,hj⟩];exact h _ _ (by lia) (by lia)
theorem Dn.rev_blk {q:Nat} (h:Dn c p m) (hm:m<=p.size) (hq:q+1<=m) (hb:∀i j,m-(q+1)<=i->i<m->m-(q+1)<=j->j<m->c (at0 p i) (at0 p j)=false):Dn c (kas_rev p (m-(q+1)) m) m:=by
 intro i j ML hj;rw[eu hm,eu hm];by_cases h1:m-(q+1)<=i
 .rw [A7 ⟨h1,by lia⟩,A7 ⟨by lia,hj⟩];exact hb _ _ (by lia) (by lia) (by lia) (by lia)
 .rw [A5 (by lia)];by_cases h2:m-(q+1)<=j
  .rw [A7 ⟨h2,hj⟩];exact h _ _ (by lia) (by lia)
  .rw [A5 (by lia)];exact h _ _ ML hj
def Blk (c:Nat->Nat->Bool) (p:Array Nat) (m q:Nat):Prop:=q+1<=m/\∀i j,m-(q+1)<=i->i<m->m-(q+1)<=j->j<m->c (at0 p i) (at0 p j)=false
theorem jZ (O:Ordr c):∀(f:Nat) (p:Array Nat) (m q:Nat),m+f<=p.size->0<m->Dn c p m->Blk c p m q->∀r,r=aV c (kas_desc f p m q)->r.1.size=p.size/\m<=r.2.1/\r.2.1<=m+f/\Dn c r.1 r.2.1/\Blk c r.1 r.2.1 r.2.2
 |0,p,m,q,_,_,hd,hb,r,e=>by
  subst e;exact⟨rfl,A' _,A' _,hd,hb⟩
 |f+1,p,m,q,hs,hm,hd,hb,r,e=>by
  unfold kas_desc aV at e;cases e1:c (p.getD m 0) (p.getD (m-1) 0) with
  |true=>
   rw[e1] at e;dsimp only at e;rw[A7 rfl] at e;have e2:=O.asym _ _ e1;by_cases hq:q>0
   .rw [A7 hq] at e;have LW:=hd.rev_blk (by lia) hb.1 hb.2;have at_m:at0 (kas_rev p (m-(q+1)) m) m=at0 p m:=by rw[eu (by lia),A5 (by lia)]
    have at_m1:at0 (kas_rev p (m-(q+1)) m) (m-1)=at0 p (m-(q+1)+m-1-(m-1)):=by rw[eu (by lia),A7 ⟨by have:=hb.1;lia,by lia⟩]
    have e3:c (at0 (kas_rev p (m-(q+1)) m) (m-1)) (at0 (kas_rev p (m-(q+1)) m) m)=false:=by
     rw[at_m,at_m1];have b1:=hb.1;exact O.tr _ _ _ e2 (hb.2 _ (m-1) (by lia) (by lia) (by lia) (by lia))
    have hd3:=LW.more O hm e3;have MX:Blk c (kas_rev p (m-(q+1)) m) (m+1) 0:=⟨by lia,fun i j h1 h2 h3 h4=>by
     obtain rfl:i=m:=by lia
     obtain rfl:j=i:=by lia
     cases h:c (at0 (kas_rev p (j-(q+1)) j) j) (at0 (kas_rev p (j-(q+1)) j) j) with
     |false=>rfl
     |true=>have:=O.asym _ _ h;rw[h] at this;cases this⟩
    obtain⟨r1,r2,r3,r4,r5⟩:=jZ O f _ (m+1) 0 (by rw[fZ];lia) (by lia) hd3 MX r e;exact⟨by rw[r1,fZ],by lia,by lia,r4,r5⟩
   .rw [A5 hq] at e;have hd3:=hd.more O hm e2;have MX:Blk c p (m+1) 0:=⟨by lia,fun i j h1 h2 h3 h4=>by
     obtain rfl:i=m:=by lia
     obtain rfl:j=i:=by lia
     cases h:c (at0 p j) (at0 p j) with
     |false=>rfl
     |true=>have:=O.asym _ _ h;rw[h] at this;cases this⟩
    obtain⟨r1,r2,r3,r4,r5⟩:=jZ O f _ (m+1) 0 (by lia) (by lia) hd3 MX r e;exact⟨r1,by lia,by lia,r4,r5⟩
  |false=>
   rw[e1] at e;dsimp only at e;rw[A5 (by decide)] at e;unfold aV at e;cases e2:c (p.getD (m-1) 0) (p.getD m 0) with
   |true=>
    rw[e2] at e;dsimp only at e;rw[A7 rfl] at e;subst e;exact⟨rfl,A' _,by show m<=_;lia,hd,hb⟩
   |false=>
    rw[e2] at e;dsimp only at e;rw[A5 (by decide)] at e;have hd3:=hd.more O hm e2;have b1:=hb.1;have MX:Blk c p (m+1) (q+1):=⟨by lia,fun i j h1 h2 h3 h4=>by
     by_cases hi:i=m
     .by_cases hj:j=m
      .subst hi;subst hj;cases h:c (at0 p j) (at0 p j) with
       |false=>rfl
       |true=>have:=O.asym _ _ h;rw[h] at this;cases this
      .subst hi;exact O.tr _ _ _ (hb.2 _ _ (by lia) (by lia) (by lia) (by lia)) e1
     .by_cases hj:j=m
      .subst hj;exact O.tr _ _ _ e2 (hb.2 _ _ (by lia) (by lia) (by lia) (by lia))
      .exact hb.2 _ _ (by lia) (by lia) (by lia) (by lia)⟩
    obtain⟨r1,r2,r3,r4,r5⟩:=jZ O f _ (m+1) (q+1) (by lia) (by lia) hd3 MX r e;exact⟨r1,by lia,by lia,r4,r5⟩
theorem sI (O:Ordr c) (hn:n<=p.size) (hm:m<=n) (h0:0<m) (hd:Dn c p m):∀r,r=aV c (kas_tail3 m n p)->r.2.size=p.size/\0<r.1/\r.1<=n/\Up c r.2 r.1:=by
 intro r e;unfold kas_tail3 at e;rw[gN] at e;subst e;obtain⟨h1,h2,h3,_⟩:=mz O (n-m) m h0 (hd.rev_all (by lia));exact⟨fZ _ _ _,by show 0<aV c _;lia,by show aV c _<=n;lia,h3⟩
theorem sJ (O:Ordr c) (hn:n<=p.size) (hm:m<n) (h0:0<m) (hd:Dn c p m) (e:c (at0 p m) (at0 p (m-1))=true):∀r,r=aV c (kas_descPart m n p)->r.2.size=p.size/\0<r.1/\r.1<=n/\Up c r.2 r.1:=by
 intro r er;unfold kas_descPart at er;rw[gN] at er;have hd1:=hd.more O h0 (O.asym _ _ e);have hb1:Blk c p (m+1) 0:=⟨by lia,fun i j h1 h2 h3 h4=>by
  obtain rfl:i=m:=by lia
  obtain rfl:j=i:=by lia
  cases h:c (at0 p j) (at0 p j) with
  |false=>rfl
  |true=>have:=O.asym _ _ h;rw[h] at this;cases this⟩
 obtain⟨r1,r2,r3,r4,r5⟩:=jZ O (n-(m+1)) p (m+1) 0 (by lia) (by lia) hd1 hb1 _ rfl;generalize aV c (kas_desc (n-(m+1)) p (m+1) 0)=d at*
 split at er
 .obtain⟨t1,t2,t3,t4⟩:=sI O (p:=kas_rev d.1 (d.2.1-(d.2.2+1)) d.2.1) (m:=d.2.1) (n:=n) (by rw[fZ];lia) (by lia) (by lia) (r4.rev_blk (by lia) r5.1 r5.2) r er;exact⟨by rw[t1,fZ,r1],t2,t3,t4⟩
 .obtain⟨t1,t2,t3,t4⟩:=sI O (p:=d.1) (m:=d.2.1) (n:=n) (by lia) (by lia) (by lia) r4 r er;exact⟨by rw[t1,r1],t2,t3,t4⟩
theorem Eb (O:Ordr c) (hn:n<=p.size) (h0:0<n):∀r,r=aV c (kas_count n p)->r.2.size=p.size/\0<r.1/\r.1<=n/\Up c r.2 r.1:=by
 intro r er;unfold kas_count at er;rw[gN] at er;obtain⟨h1,h2,h3,h4⟩:=mz O (p:=p) (n-1) 1 (by decide) (fun i j a b=>absurd b (by lia));generalize aV c (kas_asc p (n-1) 1)=m at*
 by_cases hm:m=n
 .subst hm;rw[A7 (by simp)] at er;subst er;exact⟨rfl,h0,A' _,h3⟩
 .rw [A5 (by simp[hm])] at er;have st:=h4 (by lia);by_cases h5:m>1
  .rw [A7 h5] at er;unfold aV at er;cases e1:c (p.getD 0 0) (p.getD (m-1) 0) with
   |true=>
    rw[e1] at er;dsimp only at er;rw[A7 rfl] at er;subst er;exact⟨rfl,by show 0<m;lia,by show m<=n;lia,h3⟩
   |false=>
    rw[e1] at er;dsimp only at er;rw[A5 (by decide)] at er;have hd:=h3.rev_all (by lia:m<=p.size);obtain⟨t1,t2,t3,t4⟩:=sJ O (p:=kas_rev p 0 m) (m:=m) (n:=n) (by rw[fZ];exact hn) (by lia) (by lia) hd (by
     rw[eu (by lia),eu (by lia),A5 (by lia),A7 ⟨by lia,by lia⟩,show 0+m-1-(m-1)=0 by lia];cases h:c (at0 p m) (at0 p 0) with
     |true=>rfl
     |false=>have:=O.tr _ _ _ e1 h;rw[st] at this;cases this) r er
    exact⟨by rw[t1,fZ],t2,t3,t4⟩
  .rw [A5 h5] at er;obtain rfl:m=1:=by lia
   exact sJ O hn (by lia) (by decide) (fun i j a b=>absurd b (by lia)) st r er
theorem mB (O:Ordr c) {p:Array Nat}{k:Nat} (hu:Up c p k):∀(f l r:Nat),r-l<=f->l<=r->r<=k->(∀i,i<l->c (at0 p k) (at0 p i)=false)->(∀i,r<=i->i<k->c (at0 p k) (at0 p i)=true)->
  aV c (kas_place p k f l r)<=k/\(∀i,i<aV c (kas_place p k f l r)->c (at0 p k) (at0 p i)=false)/\(∀i,aV c (kas_place p k f l r)<=i->i<k->c (at0 p k) (at0 p i)=true)
 |0,l,r,hf,hl,hr,h1,h2=>by
  obtain rfl:l=r:=by lia
  exact⟨hr,h1,h2⟩
 |f+1,l,r,hf,hl,hr,h1,h2=>by
  unfold kas_place;by_cases h:l>=r
  .rw [A7 h];obtain rfl:l=r:=by lia
   exact⟨hr,h1,h2⟩
  .rw [A5 h];unfold aV;cases e:c (p.getD k 0) (p.getD ((l+r)/2) 0) with
   |true=>
    dsimp only;rw[A7 rfl];refine mB O hu f l ((l+r)/2) (by lia) (by lia) (by lia) h1 fun i a b=> ?_;by_cases hi:i=(l+r)/2
    .subst hi;exact e
    .cases q:c (at0 p k) (at0 p i) with
     |true=>rfl
     |false=>have:=O.tr _ _ _ (hu ((l+r)/2) i (by lia) b) q;rw[e] at this;cases this
   |false=>
    dsimp only;rw[A5 (by decide)];refine mB O hu f ((l+r)/2+1) r (by lia) (by lia) hr (fun i a=> ?_) h2;by_cases hi:i=(l+r)/2
    .subst hi;exact e
    .exact O.tr _ _ _ (hu i ((l+r)/2) (by lia) (by lia)) e
theorem sK {k:Nat} (hk:k<p.size) (hd:d<=k) (i:Nat):at0 (bubble p k d) i=if i=k-d then at0 p k else if k-d<i/\i<=k then at0 p (i-1) else at0 p i:=by
 have h:=getElem?_bubble hk d hd i;have e:∀q:Array Nat,∀k,at0 q k=(q[k]?).getD 0:=fun q k=>by simp[at0,Array.getD];split<;>simp[*]
 rw[e,e,e,e,h];split
 .rfl
 .split<;>rfl
theorem sL (O:Ordr c):∀(f:Nat) (p:Array Nat) (k:Nat),0<k->k+f<=p.size->Up c p k->Up c (aV c (kas_bin f p k)) (k+f)
 |0,p,k,_,_,h=>h
 |f+1,p,k,h0,hs,hu=>by
  unfold kas_bin;rw[gN];obtain⟨a1,a2,a3⟩:=mB O hu k 0 k (by lia) (by lia) (A' _) (fun i z=>absurd z (by lia)) (fun i z1 z2=>absurd z2 (by lia));generalize aV c (kas_place p k k 0 k)=l at*
  have Me:Up c (bubble p k (k-l)) (k+1):=by
   intro i j ML hj;rw[sK (by lia) (by lia),sK (by lia) (by lia),show k-(k-l)=l by lia];by_cases j1:j=l
   .rw [A7 j1,A5 (by lia),A5 (by lia)];exact a2 i (by lia)
   .rw [A5 j1];by_cases j2:l<j/\j<=k
    .rw [A7 j2];by_cases i1:i=l
     .rw [A7 i1];exact O.asym _ _ (a3 (j-1) (by lia) (by lia))
     .rw [A5 i1];by_cases i2:l<i/\i<=k
      .rw [A7 i2];exact hu _ _ (by lia) (by lia)
      .rw [A5 i2];exact hu _ _ (by lia) (by lia)
    .rw [A5 j2,A5 (by lia),A5 (by lia)];exact hu _ _ ML (by lia)
  have:=sL O f (bubble p k (k-l)) (k+1) (by lia) (by rw[bubble_size];lia) Me;rw[show k+(f+1)=k+1+f by lia];exact this
theorem Ec (O:Ordr c) (h0:0<n):Up c (aV c (kas_sort n)) n:=by
 unfold kas_sort;rw[gN];obtain⟨r1,r2,r3,r4⟩:=Eb O (p:=List.toArray (List.range n)) (n:=n) (by simp) h0 _ rfl;generalize aV c (kas_count n (List.toArray (List.range n)))=r at*
 have sz:r.2.size=n:=by rw[r1];simp
 by_cases h:r.1<n
 .rw [A7 h];have em:max r.1 1=r.1:=by lia
  rw[em];have:=sL O (n-r.1) r.2 r.1 r2 (by lia) r4;rw[show r.1+(n-r.1)=n by lia] at this;exact this
 .rw [A5 h];have:r.1=n:=by lia
  rw[this] at r4;exact r4
end
theorem br.wpc {n:Nat}{c:Nat->Nat->Bool}{α:Type}{R:α->Prop}{cmp:Nat->Nat->(Bool->Qn->Prop)->Qn->Prop}{Q:α->Qn->Prop}{s:Qn} (hc:∀i j,i<n->j<n->∀C:Bool->Qn->Prop,C (c i j) s->cmp i j C s):∀{t:KasT α},(R (aV c t)->Q (aV c t) s)->br n R t->t.kasWp cmp Q s
 | .ret a,hq,h=>hq h
 | .ask i j k,hq,h=>hc i j h.1 h.2.1 _ (br.wpc hc (t:=k (c i j)) hq (h.2.2 (c i j)))
theorem sM:∀{xs ys zs:Qt Int},xs.length=ys.length->ys.length=zs.length->dh false ys xs=false->dh false zs ys=false->dh false zs xs=false
 |[],[],[],_,_,_,_=>rfl
 |x::xs,y::ys,z::zs,h1,h2,a,b=>by
  unfold dh at a b⊢;by_cases e1:y=x
  .rw [A7 e1] at a;by_cases e2:z=y
   .rw [A7 e2] at b;rw[A7 (e2.trans e1)];exact sM (by simpa using h1) (by simpa using h2) a b
   .rw [A5 e2] at b;have:=of_decide_eq_false b;rw[A5 (by lia)];exact Ae (by lia)
  .rw [A5 e1] at a;have a:=of_decide_eq_false a;by_cases e2:z=y
   .rw [A5 (by lia)];exact Ae (by lia)
   .rw [A5 e2] at b;have:=of_decide_eq_false b;rw[A5 (by lia)];exact Ae (by lia)
theorem sN:∀{xs ys:Qt Int},xs.length=ys.length->dh false xs ys=true->dh false ys xs=false
 |[],[],_,h=>nomatch h
 |x::xs,y::ys,hl,h=>by
  unfold dh at h⊢;by_cases e:x=y
  .rw [A7 e] at h;rw[A7 e.symm];exact sN (by simpa using hl) h
  .rw [A5 e] at h;have:=B8 h;rw[A5 (by lia)];exact Ae (by lia)
theorem sO (h:xs.length=ys.length):ltI xs ys=dh false xs ys:=by
 unfold ltI;rw[Ae (by lia)]
def gO (xss:Qt (Qt Int)) (i:Nat):Qt Int:=xss.getD i (xss.headD [])
def gP (xss:Qt (Qt Int)) (i j:Nat):Bool:=ltI (gO xss i) (gO xss j)
theorem sP (h:i<xss.length):gO xss i=xss.getD i []:=by
 unfold gO;rw[A9,A9,A2 h];rfl
theorem sQ (hi:i<xss.length) (hj:j<xss.length):gP xss i j=ltI (xss.getD i []) (xss.getD j []):=by
 unfold gP;rw[sP hi,sP hj]
theorem Ed (h0:0<xss.length) (h:∀xs∈xss,xs.length=m) (i:Nat):(gO xss i).length=m:=by
 unfold gO;rw[A9];cases e:xss[i]? with
 |some x=>exact h x (AH e)
 |none=>
  cases xss with
  |nil=>cases h0
  |cons x xs=>exact h x (by simp)
theorem Ee (h0:0<xss.length) (h:∀xs∈xss,xs.length=m):Ordr (gP xss):=by
 have k:=Ed h0 h;refine⟨fun a b e=> ?_,fun a b d e1 e2=> ?_⟩
 .unfold gP at e⊢;rw[sO (by rw[k,k])] at e⊢;exact sN (by rw[k,k]) e
 .unfold gP at e1 e2⊢;rw[sO (by rw[k,k])] at e1 e2⊢;exact sM (by rw[k,k]) (by rw[k,k]) e1 e2
section
variable {prog:Qp}{w:Qr}{A:Qs}{E:NR->Qn->Prop}{s:Qn}
theorem Ef {c:Nat->Nat->Bool}{kd:SortKind}{P:PySem.Fin->Qn->Prop} (ho:s.heap.get? a=some (seqObj "list" vs.toArray n)) (h2:2<=vs.length) (h64:vs.length<64)
  (Ol:∀(R:SortKind->Qn->Prop),R kd {s with heap:=aZ s.heap a vs}->wpAny (model prog w) A (keyKind' vs.toArray) R E {s with heap:=aZ s.heap a vs})
  (hc:∀i j,i<vs.length->j<vs.length->∀C:Bool->Qn->Prop,C (c i j) {s with heap:=aZ s.heap a vs}->wpAny (model prog w) A (keyLt' kd (vs.getD i .none) (vs.getD j .none)) C (fun _ _=>False) {s with heap:=aZ s.heap a vs})
  (h:∀p,Ord vs.length p->p=aV c (kas_sort vs.length)->P (.done (.ret .none)) {s with heap:=sortedHeap s.heap a vs (p.map fun i=>vs.getD i .none)}):wpAny (model prog w) A (Builtin.«list.sort» ⟨[.ref a],[]⟩) P E s:=by
 rw[list_sort_plain];have ha:a<s.heap.objs.size:=AM ho;refine A0 (listItems_at ho rfl ?_);refine A0 (Cv ho rfl ?_ (by rw[AJ,Ay];lia) (AL _));obtain⟨e1,Lz⟩:∃e1,(s.heap.update a (Obj.mapSeq fun _=>(#[]:Array NR))).get? a=some (seqObj "list" #[] e1):=⟨_,Cq ho (fun _=> #[])⟩;refine A0 (seqEpoch_at Lz rfl ?_);refine A0 (wpAny_newTuple ?_ (by show vs.length<=_;rw[Ay];lia));refine A0 (DK ?_ (AL _));refine Ar ?_;have NA:(aZ s.heap a vs).get? a=some (seqObj "list" #[] e1):=by
  rw[BD _ _ _ (by rw[C4,BC];exact AO (Al ha)),BD _ _ _ (by rw[BC];exact AO ha)];exact Lz
 show wpAny (model prog w) A _ P E {s with heap:=aZ s.heap a vs};dsimp only;have Oi:¬vs.toArray.size<2:=by rw[AJ];lia
 rw[A5 Oi,A5 Oi];refine A0 (Ol _ ?_);have est:kas_st kd (pairsOf vs) (List.toArray (List.range vs.length))=SortSt.mk' kd (vs.toArray.zip vs.toArray) #[] 7 none:=by
  have e:=kas_range (pairsOf vs);rw[pairsOf_size] at e;show SortSt.mk' kd ((List.toArray (List.range vs.length)).map (kas_item (pairsOf vs))) #[] 7 none=SortSt.mk' kd (pairsOf vs) #[] 7 none;rw[e]
 have ask:(kas_sort vs.length).kasWp (kas_cmp prog w A kd (pairsOf vs)) (fun p s'=>s'={s with heap:=aZ s.heap a vs}/\Ord vs.length p/\p=aV c (kas_sort vs.length)) {s with heap:=aZ s.heap a vs}:=by
  refine br.wpc (c:=c) (fun i j hi hj C hC=> ?_) (fun hp=>⟨rfl,hp,rfl⟩) (r6 (by lia));rw[<-kas_ask_eq];exact hc i j hi hj C hC
 have run:=kas_runs (E:=E) (Q:=fun _ Lg s'=>∃p,s'={s with heap:=aZ s.heap a vs}/\(Ord vs.length p/\p=aV c (kas_sort vs.length))/\arrOf Lg=p.map (kas_item (pairsOf vs))/\failedOf Lg=none) h2 h64 (fun p' Lg s' _ a2 a3 a4=>⟨p',a4.1,a4.2,a2,a3⟩) ask;rw[est] at run;refine A0 (Bv run ?_ fun _ _ e=>e);rintro⟨⟨⟩,Lg⟩ s' ⟨p,rfl,⟨hp,hpc⟩,har,hf⟩;dsimp only at har hf⊢;have eo:(arrOf Lg).map (·.2)=p.map fun i=>vs.getD i .none:=by
  rw[har,Array.map_map];refine Array.map_congr_left fun i _=> ?_;show(kas_item (pairsOf vs) i).2=_;rw[kas_item_eq]
 rw[eo];refine A0 (seqEpoch_at NA rfl ?_);refine A0 (Cv NA rfl ?_ (AL _) (by rw[Array.size_map,Ay,hp.size];lia));rw[hf];simp only[D3,AG,Ap];exact A3 (h p hp hpc)
end
section
variable {X:Cx}{K:W.Frag}
def Eg {k:Nat} (h:X.K=K) (hr:Room k X.A):OpR X (compareOp .Eq) (rEqS K false):=h▸ma hr
end
end L2
namespace HT
open PySem PySem.Spec PyProof.Rows
section
variable {prog:Qp}{w:Qr}{A:Qs}{E:NR->Qn->Prop}{s:Qn}
theorem getItem_tuple_all {t sl:Qo}{items:Array NR}{vl vu:NR}{lo hi:Qw Int}{Q:NR->Qn->Prop} (ht:IsTup s.heap t items) (hs:s.heap.IsSliceOf sl vl vu .none) (pl:IsPart vl lo) (pu:IsPart vu hi)
  (hw:sIx items.size 0 lo=0/\sIx items.size items.size hi=items.size) (h:Q (.ref t) s):wpAny (model prog w) A (getItem (.ref t) (.ref sl)) Q E s:=by
 obtain⟨os,Pw,OX,hds⟩:=id hs;have hTs:s.TypeIs (.ref sl) "slice":=⟨os,Pw,OX⟩;unfold getItem;try with_reducible refine Ar ?_
 first|refine A0 (A3 ?_)|skip
 refine A0 (wpAny_sequenceKey ht.typeIs (by decide) ?_);refine A0 (B2 (name:=Str.ofString "__getitem__") ht.typeIs BY
  (Af BY ht.typeIs entry_tuple_getitem ?_ (args_tuple_getitem _ _)))
 show wpAny _ _ (Builtin.Tuple.tupleItemsOf (.ref t)>>=_) _ _ s;refine A0 (tupleItemsOf_ ht ?_);refine A0 (Cu hTs ?_);rw[A7 (by decide)];refine A0 (qX hs pl pu ?_);have hyes:(((sIx items.size 0 lo:Nat):Int)==0&&(1:Int)==1&&(sIx items.size items.size hi-sIx items.size 0 lo)==items.size)=true:=by
  rw[hw.1,hw.2];simp
 show wpAny _ _ (if(((sIx items.size 0 lo:Nat):Int)==0&&(1:Int)==1&&(sIx items.size items.size hi-sIx items.size 0 lo)==items.size)=true then _ else _) _ _ s;rw[A7 hyes];unfold Builtin.Tuple.tupleIsExact;refine A0 (A0 (Cu ht.typeIs (A3 ?_)));rw[A7 (by decide)];refine A0 (CP ?_);exact A3 ⟨_,rfl,A3 h⟩
end
end HT
namespace L2
open PySem PySem.Spec PyProof.Rows
variable {n:Nat}{x:V}
section
variable {X:Cx}
inductive rSlA (K:W.Frag) (x:V) (lo:Option Int) (hi:Option Int) (H:Hp) (Q:VK):Prop
 |mk a xs:x= .ref a->SqT K H a xs->(((HT.sIx xs.length 0 lo=0/\HT.sIx xs.length xs.length hi=xs.length)->Q (.ref a) H))->((¬(HT.sIx xs.length 0 lo=0/\HT.sIx xs.length xs.length hi=xs.length)->∀p,H p=none->Q (.ref p) (upd H p (.tup (cc xs lo hi)))))->rSlA K x lo hi H Q
theorem Eh:SlR X (rSlA X.K):=by
 intro KO s σ H x v vl vu lo hi sl Q I rx hs pl pu h;obtain⟨a,xs,rfl,hx,q1,q2⟩:=h;by_cases hw:HT.sIx xs.length 0 lo=0/\HT.sIx xs.length xs.length hi=xs.length
 .cases rx;obtain⟨KQ,r,ht,hz⟩:=I.tuple hx;have KS:KQ.toArray.size=xs.length:=by rw[AJ];exact r.length.symm
  refine⟨"tuple",_,BY.lookup,ht.typeIs, ?_⟩;exact HT.getItem_tuple_all ht hs pl pu (by rw[KS];exact hw) ⟨.ref a,H,I,rfl,q1 hw⟩
 .exact yY KO s σ H _ v vl vu lo hi sl Q I rx hs pl pu ⟨a,xs,rfl,hx,hw,q2 hw⟩
end
open PySem.W
section
variable {X:Cx}{KO:Qt (Qo×Obj)}{σ:St}{H:Hp}{s:Qn}
def bvs (bs:Qt Bool):Array NR:=(bs.map Value.bool).toArray
def EqT (K:W.Frag) (H:Hp) (n:Nat) (x y:V) (e:Bool):Prop:=∀(X:Cx) (KO:Qt (Qo×Obj)) (σ:St) (s:Qn),X.K=K->Inv X KO σ H s->∀(A:Qs) (u v:NR),A.units+n<cLine->aw x u->aw y v->SeqAt.EqAt A s u v e
theorem EqR.told {K:W.Frag}{y:V}{e:Bool} (h:EqR K H n x y e):EqT K H n x y e:=fun X KO σ s hk I A u v hu ru rv=>by
 subst hk;exact(h.bN I (A:=A) hu ru rv).2.2
def mC (K:W.Frag) (H:Hp) (n:Nat) (xs:Qt V) (x:V) (es:Nat->Bool):Prop:=n<=8/\(∀(j:Nat) z,xs[j]? =some z->(∃a,z= .ref a)/\EqT K H n z x (es j))/\∀(i j:Nat) z,xs[i]? =some z->xs[j]? =some z->es i=es j
open Classical in
theorem sR {xs:Qt V}{es:Nat->Bool}{KQ:Qt NR} (t:mC X.K H n xs x es) (r:au xs KQ) {j:Nat}{u:NR} (hu:KQ[j]? =some u):fB KQ es u=es j:=by
 have same:∀i:Nat,KQ[i]? =some u->es i=es j:=fun i hi=>by
  have li:=(A8.mp hi).1;have lj:=(A8.mp hu).1;have ln:=r.length;have xi:xs[i]? =some xs[i]:=A2 (by lia);have xj:xs[j]? =some xs[j]:=A2 (by lia);obtain⟨u1,e1,r1⟩:=r.get xi;obtain⟨u2,e2,r2⟩:=r.get xj;rw[hi] at e1;rw[hu] at e2;cases e1;cases e2;obtain⟨⟨a,ea⟩,_⟩:=t.2.1 i _ xi;obtain⟨⟨b,eb⟩,_⟩:=t.2.1 j _ xj;rw[ea] at r1 xi;rw[eb] at r2 xj;obtain rfl:u=Value.ref a:=r1;have:Value.ref a=Value.ref b:=r2;cases this;exact t.2.2 i j _ xi xj
 unfold fB;cases h:es j with
 |true=>exact At ⟨j,hu,h⟩
 |false=>exact Ae fun⟨i,hi,e⟩=>by rw[same i hi,h] at e;cases e
inductive rCountD (K:W.Frag) (o:V) (vs:List V) (H:Hp) (Q:VK):Prop
 |mk (p:Addr) (xs:List V) (x:V) (n:Nat) (es:Nat->Bool):o= .ref p->vs=[x]->SqL K H p xs->mC K H n xs x es->Q (.int (((List.range xs.length).countP es:Nat):Int)) H->rCountD K o vs H Q
theorem Ei {k:Nat} (hr:Room k X.A):MtM X "list.count" (rCountD X.K):=by
 intro KO s σ H o vs v us Q I ro rv h;obtain⟨p,xs,x,n,es,rfl,rfl,hq,t,q⟩:=h;cases ro;obtain⟨u,rfl,ru⟩:=au.one rv;have hu:=hr.un;have t8:=t.1;obtain⟨KQ,r,pl,hz⟩:=I.list hq;have ln:=r.length;obtain⟨⟨cls,dd,data,sl⟩,ho,hc,m,hd⟩:=pl.isList;simp only at hc hd;subst hc hd;have ec:KQ.toArray.toList.countP (fB KQ es)=(List.range xs.length).countP es:=by
  have e1:KQ=(List.range KQ.length).map fun i=>KQ.getD i .none:=by
   refine Ck (by simp) fun i h1 h2=> ?_;simp[h1]
  have e2:KQ.countP (fB KQ es)=((List.range KQ.length).map fun i=>KQ.getD i .none).countP (fB KQ es):=by rw[<-e1]
  show KQ.countP (fB KQ es)=_;rw[e2,List.countP_map,ln];refine List.countP_congr fun i hi=> ?_;have LP:i<KQ.length:=by simpa using hi
  have:fB KQ es (KQ.getD i .none)=es i:=sR t r (by rw[A9,A2 LP];rfl);simp only[Function.comp_apply,this]
 refine call_meets F.slot_list_count ⟨_,ho,rfl⟩ F.entry_list_count (F.args_list_count_2 _ _) (SeqAt.list_countAt p KQ.toArray m dd sl u (fB KQ es)) ⟨ho,fun y hy=> ?_, ?_⟩
 .obtain⟨j,hj,e⟩:=B6.mp (by simpa using hy);have ej:KQ[j]? =some y:=by rw[A2 hj,e]
  have xj:xs[j]? =some xs[j]:=A2 (by lia);obtain⟨u2,e2,r2⟩:=r.get xj;rw[ej] at e2;cases e2;rw[sR t r ej];exact(t.2.1 j _ xj).2 X KO σ s rfl I _ _ _ (by rw[bU];lia) r2 ru
 rw[ec];exact⟨.int _,H,I.tok _,⟨_,rfl⟩,q⟩
end
end L2
namespace L2
open PySem PySem.SetTable PySem.Spec PyProof.Rows
variable {Q:Bool->Qn->Prop}{S a b it x:Qo}{ad:Nat->Qo}{ep i m n p slot:Nat}{es:Array (Int×NR)}{h h':Qv}{kk:Nat->Qt Int}{ks:Array (Qt Int)}{o:Obj}{vs:Qt NR}{xs:Array Nat}{xss:Qt (Qt Int)}
def Ris (xs:Array Nat):Prop:=∀i j,i<j->j<xs.size->xs.getD i 0<xs.getD j 0
theorem sS (h:i<xs.size) (a b:Nat):xs.getD i a=xs.getD i b:=by simp[Array.getD,h]
theorem mE {xs:Array Nat}{j:Nat} (r:Ris xs):∀(f lo hi:Nat),hi-lo<=f->lo<=hi->hi<=xs.size->(∀i,i<lo->xs.getD i 0<j)->(∀i,hi<=i->i<xs.size->j<=xs.getD i 0)->
  lo<=below.go xs j f lo hi/\below.go xs j f lo hi<=hi/\(∀i,i<below.go xs j f lo hi->xs.getD i 0<j)/\(∀i,below.go xs j f lo hi<=i->i<xs.size->j<=xs.getD i 0)
 |0,lo,hi,hf,hl,hh,h1,h2=>by
  unfold below.go;have:lo=hi:=by lia
  subst this;exact⟨A' _,A' _,h1,h2⟩
 |f+1,lo,hi,hf,hl,hh,h1,h2=>by
  unfold below.go;by_cases c:lo<hi
  .rw [A7 c];dsimp only;have hm:(lo+hi)/2<xs.size:=by lia
   by_cases c2:xs.getD ((lo+hi)/2) j<j
   .rw [A7 c2];rw[sS hm j 0] at c2;obtain⟨a,b,c,d⟩:=mE r f ((lo+hi)/2+1) hi (by lia) (by lia) hh (fun i LP=>by
     by_cases e:i=(lo+hi)/2
     .rw [e];exact c2
     .exact Nat.lt_trans (r i _ (by lia) hm) c2) h2
    exact⟨by lia,b,c,d⟩
   .rw [A5 c2];rw[sS hm j 0] at c2;obtain⟨a,b,c,d⟩:=mE r f lo ((lo+hi)/2) (by lia) (by lia) (by lia) h1 (fun i h3 h4=>by
     by_cases e:i=(lo+hi)/2
     .rw [e];lia
     .have:=r ((lo+hi)/2) i (by lia) h4;lia)
    exact⟨a,by lia,c,d⟩
  .rw [A5 c];have:lo=hi:=by lia
   subst this;exact⟨A' _,A' _,h1,h2⟩
theorem Ej (r:Ris xs) (j:Nat):below xs j<=xs.size/\(∀i,i<below xs j->xs.getD i 0<j)/\(∀i,below xs j<=i->i<xs.size->j<=xs.getD i 0):=by
 obtain⟨_,b,c,d⟩:=mE (j:=j) r xs.size 0 xs.size (by lia) (AL _) (A' _) (fun i h=>absurd h (by lia)) (fun i h1 h2=>by lia);exact⟨b,c,d⟩
def hAt (es:Array (Int×NR)) (i:Nat):Int:=(es[i]?.map (·.1)).getD 0
structure Tb (t:SetTable) (es:Array (Int×NR)):Prop where
 size:t.place.size=es.size
 dum:t.dummies= #[]
 ris:Ris t.place
 few:es.size<64
theorem sT {α:Type}{xs:Array α}{a:α} (h:xs[i]? =some a):i<xs.size:=by
 rcases Bo i xs.size with c|c
 .exact c
 .rw [BR c] at h;exact nomatch h
theorem j0 {t:SetTable} (b:Tb t es) (hs:es.size<=t.mask):t.fits es.size=true:=by
 have h1:t.fill<=t.mask:=by
  unfold SetTable.fill;rw[b.dum,b.size];exact hs
 unfold SetTable.fits;rw[b.size,At h1];simp
def hK (k:Qt Int):Int:=reduceHash (Builtin.Tuple.tupleHashOf (k.map hashInt))
def okT (t:SetTable) (n:Nat):Bool:=t.fits n&& !t.gaveWay&&t.plain
def srE (t:SetTable) (ks:Array (Qt Int)) (k:Qt Int):Nat->Probe->Qw (Qw Nat)
 |0,_=>none
 |f+1,p=>match t.probe (fun i=>(ks[i]?.map hK).getD 0) (hK k) p with
  |some (.empty j none)=>some (some j)
  |some (.candidate j i next)=>match ks[i]? with
   |some k'=>if k'=k then some none else if t.slot j= .live i then srE t ks k f next else none
   |none=>none
  |_=>none
abbrev Ks:=SetTable×Array (Qt Int)
variable {y:Ks}
def reE (t:SetTable) (ks:Array (Qt Int)):Qw Ks:=(t.relaid (ks.map hK) (grown ks.size)).bind fun r=>
 if(r.2.filterMap (ks[·]?)).size=ks.size/\sizeAbove (grown ks.size)<=4096 then some (r.1,r.2.filterMap (ks[·]?)) else none
def puE (t:SetTable) (ks:Array (Qt Int)) (k:Qt Int) (j:Nat):Qw Ks:=
 if(t.put j).2<=ks.size/\ks.size<64/\okT (t.put j).1 (ks.size+1)=true then
  if(t.put j).1.tooFull=true then reE (t.put j).1 (insertAt ks (t.put j).2 k) else some ((t.put j).1,insertAt ks (t.put j).2 k)
 else none
def adE (x:Ks) (k:Qt Int):Qw Ks:=if okT x.1 x.2.size=true then(srE x.1 x.2 k 300 (x.1.probeStart (hK k))).bind fun r=>match r with
  |none=>some x
  |some j=>puE x.1 x.2 k j
 else none
def stE (x:Ks):Qt (Qt Int)->Qw Ks
 |[]=>some x
 |k::r=>(adE x k).bind fun y=>stE y r
theorem sU {x y:Ks}:∀{l:Qt (Qt Int)}{i:Nat}{k:Qt Int},stE x (l.take i)=some y->l[i]? =some k->stE x (l.take (i+1))=adE y k
 |[],i,k,_,h=>by simp at h
 |a::l,0,k,h,hk=>by
  cases hk;cases h;show(adE x a).bind (fun y=>stE y [])=_;cases adE x a<;>rfl
 |a::l,i+1,k,h,hk=>by
  rw[BH,stE] at h⊢;obtain⟨z,hz,h⟩:=Cz.mp h;rw[hz,Option.bind_some];exact sU (l:=l) h hk
theorem sV {x y:Ks}:∀{l:Qt (Qt Int)},stE x l=some y->∀i,∃z,stE x (l.take i)=some z
 |[],_,i=>⟨x,by simp[stE]⟩
 |a::l,h,0=>⟨x,rfl⟩
 |a::l,h,i+1=>by
  rw[stE] at h;obtain⟨z,hz,h⟩:=Cz.mp h;obtain⟨u,hu⟩:=sV (l:=l) h i;exact⟨u,by rw[BH,stE,hz];exact hu⟩
structure EsK (kk:Nat->Qt Int) (ad:Nat->Qo) (n:Nat) (es:Array (Int×NR)) (ks:Array (Qt Int)):Prop where
 size:es.size=ks.size
 bN:∀(i:Nat) (k:List Int),ks[i]? =some k->∃j,j<n/\kk j=k/\es[i]? =some (hK k, .ref (ad j))
theorem EsK.hash (e:EsK kk ad n es ks):hAt es=fun i=>(ks[i]?.map hK).getD 0:=by
 funext i
 unfold hAt;cases h:ks[i]? with
 |none=>
  have:es[i]? =none:=by rw[C8,e.size,<-C8];exact h
  rw[this];rfl
 |some k=>
  obtain⟨j,_,_,h2⟩:=e.bN i k h;rw[h2];rfl
theorem EsK.of (e:EsK kk ad n es ks) {v:Int×NR} (h:es[i]? =some v):∃j,j<n/\ks[i]? =some (kk j)/\v=(hK (kk j), .ref (ad j)):=by
 have hi:i<ks.size:=by rw[<-e.size];exact sT h
 obtain⟨j,h1,h2,h3⟩:=e.bN i _ (AZ hi);rw[h] at h3;cases h3;exact⟨j,h1,by rw[AZ hi,h2],by rw[h2]⟩
def EsK.mono (e:EsK kk ad n es ks) (h:n<=m):EsK kk ad m es ks:=⟨e.size,fun i k hk=>let ⟨j,h1,h2⟩:=e.bN i k hk;⟨j,Aj h1 h,h2⟩⟩
theorem sW {α:Type}{xs:Array α}(hp:p<=xs.size) (x:α) (i:Nat):(insertAt xs p x)[i]? =if i<p then xs[i]? else if i=p then some x else xs[i-1]? :=by
 unfold insertAt;have s1:(xs.extract 0 p).size=p:=by simp;lia
 have s2:((xs.extract 0 p).push x).size=p+1:=by simp;lia
 by_cases h1:i<p
 .rw [A7 h1,Array.getElem?_append_left (by rw[s2];lia),Array.getElem?_push,A5 (by rw[s1];lia)];simp[Array.getElem?_extract];lia
 .rw [A5 h1];by_cases h2:i=p
  .rw [A7 h2,Array.getElem?_append_left (by rw[s2];lia),Array.getElem?_push,A7 (by rw[s1];exact h2)]
  .rw [A5 h2,Array.getElem?_append_right (by rw[s2];lia),s2];simp only[Array.getElem?_extract];by_cases h3:i-(p+1)<xs.size-p
   .rw [A7 (by lia)];congr 1
    lia
   .rw [A5 (by lia)];symm;rw[C8];lia
theorem mF {α:Type}{xs:Array α}(hp:p<=xs.size) (x:α):(insertAt xs p x).size=xs.size+1:=by
 unfold insertAt;simp;lia
section
variable {prog:Qp}{w:Qr}{A:Qs}{E:NR->Qn->Prop}{s:Qn}
theorem sX {k:Qt Int}(h:ItemsAre (intKind prog w) k vs):∀v∈vs,∃n t,v= .int n t:=by
 induction h with
 |nil=>intro v hv;simp at hv
 | @cons k v' ks vs h1 _ ih=>
  intro v hv;rcases AI.mp hv with rfl|hv
  .cases v with
   |int n t=>exact⟨n,t,rfl⟩
   |_=>exact absurd h1 (by simp[intKind,Value.isInt])
  .exact ih v hv
theorem sY {k:Qt Int}(hx:IsTupleKey (intKind prog w) s.heap k x) (h:Q false s):
  wpAny (model prog w) A (ofAClassStatement 8 (.ref x)) Q E s:=by
 have hT:=hx.typeIs;obtain⟨o,items,n,ho,hc,hd,hi⟩:=hx;unfold ofAClassStatement;refine A0 (Cu hT ?_);show wpAny _ _ ((if("tuple"=="tuple")=true then pure true else isSubtype (.type "tuple") (.type "tuple"))>>=_) _ _ s;refine A0 (A3 ?_);simp only[BF,AG,Ap];refine A0 (B7 ho hd ?_);refine A0 ?_;show wpAny _ _ (forIn items _ _) _ _ s;rw[<-C9];refine BW _ (fun aF r s'=>r.1=none/\s'=s/\∀v∈aF,∃n t,v=Value.int n t) _ ?_ ?_ _ _ ⟨rfl,rfl,sX hi⟩
 .rintro v aF r s' ⟨hr,rfl,Lm⟩;obtain⟨n,t,rfl⟩:=Lm v AW;refine A0 (Co (show ofAClassStatement 7 (.int n t)=pure false from by unfold ofAClassStatement;rfl) (A3 ?_));simp only[AG,Ap];exact⟨trivial,trivial,fun u OB=>Lm u (AQ _ OB)⟩
 .rintro⟨r1,r2⟩ s' ⟨hr,rfl,_⟩;simp only at hr;subst hr;exact A3 h
theorem Ek {k:Qt Int}(hx:IsTupleKey (intKind prog w) s.heap k x) (ys:Qt NR)
  (hy:∀y∈ys,∃b j,y= .ref b/\IsTupleKey (intKind prog w) s.heap j b) (h:Q false s):
  wpAny (model prog w) A (searchCouldBeSeen (.ref x) ys) Q E s:=by
 unfold searchCouldBeSeen;refine A0 ?_;refine BW _ (fun aF r s'=>r.1=none/\s'=s/\∀v∈aF,∃b j,v=Value.ref b/\IsTupleKey (intKind prog w) s.heap j b) _ ?_ ?_ _ _ ⟨rfl,rfl,hy⟩
 .rintro v aF r s' ⟨hr,rfl,Lm⟩;obtain⟨b,j,rfl,hj⟩:=Lm v AW;have O1:∀u∈aF,∃b j,u=Value.ref b/\IsTupleKey (intKind prog w) s'.heap j b:=fun u OB=>Lm u (AQ _ OB);dsimp only;split
  .exact A3 ⟨rfl,rfl,O1⟩
  .refine A0 (wpAny_eqIsQuiet_tuple hx ?_);simp only[BF,AG,Ap];refine A0 (wpAny_eqIsQuiet_tuple hj ?_);simp only[BF,AG,Ap];refine A0 (sY hx ?_);simp only[AG,Ap];refine A0 (sY hj ?_);simp only[AG,Ap];exact A3 ⟨rfl,rfl,O1⟩
 .rintro⟨r1,r2⟩ s' ⟨hr,rfl,_⟩;simp only at hr;subst hr;exact A3 h
def El (a:Addr) (x:Value) (h:Int) (LG:Bool) (L6:Nat) (L7:Option Probe):setSearchFrom a x h LG (L6+1) L7=(do
  let (es,_,t)<-setState a
  if t.gaveWay then unsupported "set:on-a-table-that-gave-way"
  let some met:=t.probe (hAt es) h (L7.getD (t.probeStart h))|unsupported "internal:set-table-without-an-empty-slot"
  match met with
  | .empty j dummy=>
   match dummy with
   |none=>return .free j false
   |some d=>
    if LG&&t.slot d != .dummy then rule "set.search.the-dummy-was-taken";return<-setSearchFrom a x h LG L6 none
    return .free d true
  | .candidate j i next=>
   if !t.led then
    if<-searchCouldBeSeen x ((es.filter (·.1==h)).toList.map (·.2)) then unsupported "set:the-search-would-show-the-table"
   let some (_,y):=es[i]? |unsupported "internal:set-entry"
   let MM<-holding [y] (eqBool y x)
   let (Lo,_,t')<-setState a
   if LG&&MM then return .there none
   let some same:=t'.sameMemory t.moves t.mask|unsupported "set.changed-during-lookup:is-the-new-block-at-the-old-address"
   let NT<-match(if same then t'.slot j else .empty) with
    | .live i'=>match Lo[i']? with
     |some (_,y')=>do pure (if<-isSame y' y then some i' else none)
     |none=>pure none
    |_=>pure none
   match NT with
   |none=>rule "set.search.anew";setSearchFrom a x h LG L6 none
   |some i'=>if MM then return .there (some i') else setSearchFrom a x h LG L6 (some next)):=rfl
theorem sZ {a:Addr}{o:Obj}{es:Array (Int×Value)}{ks:Array (List Int)}{ep:Nat}{t:SetTable}{kk:Nat->List Int}{ad:Nat->Addr}{n:Nat} (ho:s.heap.get? a=some o) (hd:o.data= .set es ep t) (hf:t.fits es.size=true) (hw:t.gaveWay=false)
  (hu:A.units<cLine) (ek:EsK kk ad n es ks) (hkk:∀j,j<n->IsTupleKey (intKind prog w) s.heap (kk j) (ad j)) {k:List Int}{x:Addr} (hx:IsTupleKey (intKind prog w) s.heap k x) {Q:SetFound->Shared->Prop}{r:Option Nat}
  (hQ:Q (match r with|none=> .there none|some j=> .free j false) s):
  ∀(m L6:Nat) (L7:Option Probe),srE t ks k m (L7.getD (t.probeStart (hK k)))=some r->m<=L6->
   wpAny (model prog w) A (setSearchFrom a (.ref x) (hK k) true L6 L7) Q E s
 |0,_,_,h,_=>nomatch h
 |m+1,0,_,_,h=>absurd h (by lia)
 |m+1,L6+1,L7,h,hm=>by
  rw[El];refine A0 (BZ ho hd hf ?_);dsimp only;rw[hw];simp only[AG,Ap];rw[srE] at h;rw[ek.hash];generalize hp:t.probe (fun i=>(ks[i]?.map hK).getD 0) (hK k) (L7.getD (t.probeStart (hK k)))=met at h⊢
  match met,h with
  |some (.empty j none),h=>
   cases h;exact A3 hQ
  |some (.candidate j i next),h=>
   dsimp only at h⊢;cases hk:ks[i]? with
   |none=>rw[hk] at h;cases h
   |some k'=>
    rw[hk] at h;dsimp only at h;obtain⟨jj,j1,rfl,ey⟩:=ek.bN i k' hk;have hy:=hkk jj j1;have hSeen:∀y∈(es.filter (fun e=>e.1==hK k)).toList.map (·.2),∃b j,y=Value.ref b/\IsTupleKey (intKind prog w) s.heap j b:=by
     intro y hy;obtain⟨e,he,rfl⟩:=Ak.mp hy;have MW:e∈es:=(Array.mem_filter.mp (Array.mem_toList_iff.mp he)).1;obtain⟨i,hi,ei⟩:=Array.mem_iff_getElem.mp MW;obtain⟨q,q1,_,q3⟩:=ek.of (AZ hi);rw[ei] at q3;subst q3;exact⟨_,_,rfl,hkk q q1⟩
    have O2:wpAny (model prog w) A (do
      let some (_,y):=es[i]? |unsupported "internal:set-entry"
      let MM<-holding [y] (eqBool y (.ref x))
      let (Lo,_,t')<-setState a
      if true&&MM then return SetFound.there none
      let some same:=t'.sameMemory t.moves t.mask|unsupported "set.changed-during-lookup:is-the-new-block-at-the-old-address"
      let NT<-match(if same then t'.slot j else .empty) with
       | .live i'=>match Lo[i']? with
        |some (_,y')=>do pure (if<-isSame y' y then some i' else none)
        |none=>pure none
       |_=>pure none
      match NT with
      |none=>rule "set.search.anew";setSearchFrom a (.ref x) (hK k) true L6 none
      |some i'=>if MM then return SetFound.there (some i') else setSearchFrom a (.ref x) (hK k) true L6 (some next)) Q E s:=by
     rw[ey];dsimp only;refine A0 (Ar (wpAny_eqBool_tuple hu hy hx ?_));refine A0 (BZ ho hd hf ?_);dsimp only;by_cases Mu:kk jj=k
     .rw [A7 Mu] at h;cases h;rw[At Mu];simp only[Bool.true_and,C0];exact A3 hQ
     .rw [A5 Mu] at h;rw[Ae Mu];simp only[DR,AG,Ap];have hsm:t.sameMemory t.moves t.mask=some true:=by unfold SetTable.sameMemory;simp
      rw[hsm];dsimp only;by_cases hs:t.slot j= .live i
      .rw [A7 hs] at h;rw[A7 rfl,hs];dsimp only;rw[ey];dsimp only;refine A0 ?_;refine wpAny_isSame_ref_self ?_;simp only[C0];exact sZ ho hd hf hw hu ek hkk hx hQ m L6 (some next) h (by lia)
      .rw [A5 hs] at h;cases h
    cases hl:t.led with
    |true=>simpa only[BF,AG,Ap] using O2
    |false=>
     simp only[Ce,C0];refine A0 (Ek hx _ hSeen ?_);simp only[AG,Ap];exact O2
theorem tj {es:Array (Int×NR)}{ep:Nat}{t:SetTable} (ho:h.get? a=some {cls:= .type "set",dict:=none,data:= .set es ep t}) (Lo:Array (Int×NR)) (t':SetTable):
  (h.update a (Obj.putSet Lo t')).get? a=some {cls:= .type "set",dict:=none,data:= .set Lo (ep+1) t'}:=by
 have:=B4 (Obj.putSet Lo t') ho (by rw[putSet_of Lo t' rfl];rfl);rw[putSet_of Lo t' rfl] at this;exact this
theorem Em {k:Qt Int}(hx:IsTupleKey (intKind prog w) s.heap k x) (h:Q true s):
  wpAny (model prog w) A (hashByValue 8 (.ref x)) Q E s:=by
 have hT:=hx.typeIs;obtain⟨o,items,n,ho,hc,hd,hi⟩:=hx;unfold hashByValue;refine A0 (Bt hT Bx.lookup ?_);dsimp only;refine A0 (B7 ho hd ?_);refine A0 ?_;show wpAny _ _ (forIn items _ _) _ _ s;rw[<-C9];refine BW _ (fun aF r s'=>r.1=none/\s'=s/\∀v∈aF,∃n t,v=Value.int n t) _ ?_ ?_ _ _ ⟨rfl,rfl,sX hi⟩
 .rintro v aF r s' ⟨hr,rfl,Lm⟩;obtain⟨n,t,rfl⟩:=Lm v AW;refine A0 (Co (show hashByValue 7 (.int n t)=pure true from by unfold hashByValue;rfl) (A3 ?_));simp only[BF,AG,Ap];exact⟨trivial,trivial,fun u OB=>Lm u (AQ _ OB)⟩
 .rintro⟨r1,r2⟩ s' ⟨hr,rfl,_⟩;simp only at hr;subst hr;exact A3 h
def En (a:Addr) (MY:Nat):setRelay a MY=(do
  let (es,_,t)<-setState a
  if SetTable.sizeAbove MY>sizeLine then unsupported "set:memory"
  let (es,t)<-(do
   let some (t,order):=t.relaid (es.map (·.1)) MY|unsupported "internal:set-table-without-room"
   let Lo:=order.filterMap (es[·]?)
   if Lo.size !=es.size then unsupported "internal:set-table-lost-an-element"
   pure (Lo,t):Sem (Array (Int×Value)×SetTable))
  storeSet a es t):=rfl
def eA (h:Qv) (S:Qo) (t:SetTable) (es:Array (Int×NR)):Prop:=∃ep,h.get? S=some {cls:= .type "set",dict:=none,data:= .set es ep t}
theorem EsK.ins {kk:Nat->Qt Int}{ad:Nat->Qo}{n:Nat}{es:Array (Int×NR)}{ks:Array (Qt Int)} (e:EsK kk ad n es ks) {p:Nat} (hp:p<=ks.size):EsK kk ad (n+1) (insertAt es p (hK (kk n), .ref (ad n))) (insertAt ks p (kk n)):=by
 have Lp:p<=es.size:=by rw[e.size];exact hp
 refine⟨by rw[mF Lp,mF hp,e.size],fun i k h=> ?_⟩;rw[sW hp] at h;rw[sW Lp];have LL:∀i,ks[i]? =some k->∃j,j<n+1/\kk j=k/\es[i]? =some (hK k,Value.ref (ad j)):=fun i h=>let ⟨j,h1,h2⟩:=e.bN i k h;⟨j,by lia,h2⟩;split at h
 .rename_i c;rw[A7 c];exact LL _ h
 .rename_i c;rw[A5 c];split at h
  .rename_i c2;rw[A7 c2];cases h;exact⟨n,by lia,rfl,rfl⟩
  .rename_i c2;rw[A5 c2];exact LL _ h
theorem tq {α β:Type}{xs:Array α}{ys:Array β} (e:xs.size=ys.size):∀(l:Qt Nat),(l.filterMap (xs[·]?)).length=(l.filterMap (ys[·]?)).length/\∀(i:Nat) (v:β),(l.filterMap (ys[·]?))[i]? =some v->∃q:Nat,ys[q]? =some v/\(l.filterMap (xs[·]?))[i]? =xs[q]?
 |[]=>⟨rfl,fun i v h=>by simp at h⟩
 |q::l=>by
  obtain⟨h1,h2⟩:=tq e l;rw[Cn,Cn];rcases Bo q xs.size with c|c
  .rw [AZ c,AZ (by lia:q<ys.size)];refine⟨by simp only[AT];lia,fun i v h=> ?_⟩;cases i with
   |zero=>exact⟨q,by rw[AZ (by lia:q<ys.size)];simpa using h,by rw[AZ c];rfl⟩
   |succ i=>exact h2 i v (by simpa using h)
  .rw [BR c,BR (by lia)];exact⟨h1,h2⟩
theorem EsK.re (e:EsK kk ad n es ks) (od:Array Nat):EsK kk ad n (od.filterMap (es[·]?)) (od.filterMap (ks[·]?)):=by
 obtain⟨h1,h2⟩:=tq e.size od.toList;rw[<-Array.toList_filterMap,<-Array.toList_filterMap] at h1;refine⟨by rw[<-Ao,<-Ao];exact h1,fun i k h=> ?_⟩;rw[<-BK,Array.toList_filterMap] at h⊢;obtain⟨q,q1,q2⟩:=h2 i k h;rw[q2];exact e.bN q k q1
theorem Eo {t:SetTable}(hS:eA s.heap S t es) (ek:EsK kk ad n es ks)
  (hkk:∀j,j<n+1->IsTupleKey (intKind prog w) s.heap (kk j) (ad j)) (hu:A.units<cLine) (h:adE (t,ks) (kk n)=some y) 
  (k:∀b h' Lo,Heap.SameBut S s.heap h'->eA h' S y.1 Lo->EsK kk ad (n+1) Lo y.2->Q b {s with heap:=h'}):
  wpAny (model prog w) A (setAddHashed S (.ref (ad n)) (hK (kk n))) Q E s:=by
 have hS0:=hS;obtain⟨ep,ho⟩:=hS;have hx:=hkk n (by lia);unfold adE at h;split at h
 .rename_i hok;unfold okT at hok;simp only[AN,Bool.not_eq_true'] at hok;obtain⟨⟨hf,hw⟩,hp⟩:=hok;have hf:t.fits es.size=true:=by rw[ek.size];exact hf
  obtain⟨r,hr,h⟩:=Cz.mp h;unfold setAddHashed setAddHashedIn;refine Ar (A0 (BZ ho rfl hf ?_));dsimp only;have hsc:byScan (.ref (ad n)) es=false:=by unfold byScan;simp[Value.scannable]
  rw[hsc];simp only[AG,Ap];unfold setSearch;refine A0 (sZ ho rfl hf hw hu ek (fun j hj=>hkk j (by lia)) hx (r:=r) ?_ 300 100000 none hr (by lia));cases r with
  |none=>
   cases h;exact A3 (k false s.heap es (Heap.SameBut.refl _ _) hS0 (ek.mono (by lia)))
  |some j=>
   dsimp only at h⊢;unfold puE at h;split at h
   .rename_i c;obtain⟨c1,c2,c3⟩:=c;unfold okT at c3;simp only[AN,Bool.not_eq_true'] at c3;obtain⟨⟨f1,w1⟩,p1⟩:=c3;refine A0 (BZ ho rfl hf ?_);dsimp only;generalize t.put j=tp at c1 f1 w1 p1 h⊢;obtain⟨t1,p⟩:=tp;dsimp only at c1 f1 w1 p1 h⊢;rw[A7 p1];refine A0 (Em hx ?_);simp only[C0];have PM:=ek.ins c1;have z1:(insertAt es p (hK (kk n),Value.ref (ad n))).size=es.size+1:=mF (by rw[ek.size];exact c1) _;have e64:es.size<64:=by rw[ek.size];exact c2
    have hsl:sizeLine>=4096:=by rw[Ay];decide
    have f1':t1.fits (insertAt es p (hK (kk n),Value.ref (ad n))).size=true:=by rw[z1,ek.size];exact f1
    refine A0 (wpAny_storeSet_of ho rfl ?_ (by rw[z1];lia));have Lz:=tj ho (insertAt es p (hK (kk n),Value.ref (ad n))) t1;have sb1:=BE s.heap S (Obj.putSet (insertAt es p (hK (kk n),Value.ref (ad n))) t1);generalize s.heap.update S (Obj.putSet (insertAt es p (hK (kk n),Value.ref (ad n))) t1)=h1 at Lz sb1⊢;rw[<-z1];generalize insertAt es p (hK (kk n),Value.ref (ad n))=es1 at PM f1' Lz z1⊢;generalize insertAt ks p (kk n)=ks1 at PM h;cases full:t1.tooFull with
    |true=>
     rw[full,A7 rfl] at h;simp only[Ce,Bool.and_self,C0];unfold reE at h;obtain⟨q,hq,h⟩:=Cz.mp h;split at h
     .rename_i c4;cases h;have eh:es1.map (·.1)=ks1.map hK:=by
       refine Array.ext_getElem? fun i=> ?_;rw[Array.getElem?_map,Array.getElem?_map];cases e:ks1[i]? with
       |none=>
        have:es1[i]? =none:=by rw[C8,PM.size,<-C8];exact e
        rw[this];rfl
       |some k0=>
        obtain⟨_,_,_,e2⟩:=PM.bN i k0 e;rw[e2];rfl
      rw[En];refine A0 ?_;refine A0 (BZ (s:={s with heap:=h1}) Lz rfl f1' ?_);dsimp only;have zk:es1.size=ks1.size:=PM.size;rw[A5 (by rw[zk];lia),eh,zk,hq];dsimp only;have ek2:=PM.re q.2;rw[show((q.2.filterMap (es1[·]?)).size !=ks1.size)=false from by rw[ek2.size,c4.1];simp];simp only[AG,Ap];refine A0 (A3 ?_);refine wpAny_storeSet_of (s:={s with heap:=h1}) Lz rfl ?_ (by rw[ek2.size,c4.1,<-zk,z1];lia);have LK:=tj Lz (q.2.filterMap (es1[·]?)) q.1;have O3:=BE h1 S (Obj.putSet (q.2.filterMap (es1[·]?)) q.1);generalize h1.update S _=h2 at LK O3⊢;exact A3 (k true h2 _ (sb1.trans O3) ⟨_,LK⟩ ek2)
     .cases h
    |false=>
     rw[full,A5 (by simp)] at h;cases h;simp only[Ce,DR,AG,Ap];exact A3 (k true h1 _ sb1 ⟨_,Lz⟩ PM)
   .cases h
 .cases h
def eA.mv {t:SetTable}(a:eA h S t es) (e:∀o,h.get? S=some o->h'.get? S=some o):eA h' S t es:=let ⟨ep,ho⟩:=a;⟨ep,e _ ho⟩
theorem mG {k:Qt Int}(q:IsTupleKey (intKind prog w) h k x) (e:∀o,h.get? x=some o->h'.get? x=some o):IsTupleKey (intKind prog w) h' k x:=by
 obtain⟨o,items,n,ho,r⟩:=q;exact⟨o,items,n,e _ ho,r⟩
theorem Ep {R:Result->Qn->Prop}{I:Qo}{fp wr:Qt Qo}{G:Array GenState->Array GenState->Prop}{P:Nat->NR->Prop}{St:Nat->Qn->Prop}
  (Wq:WalksS prog w A.in1 I fp wr G n P St) (S:Qo) (Lw:S∉fp) (hu:A.in1.units<cLine)
  (kk:Nat->Qt Int) (ad:Nat->Qo) (hval:∀i v,P i v->v= .ref (ad i)) (hwr:∀i,i<n->ad i∉wr) {x0:Ks}{l:Qt (Qt Int)} (hlk:∀i,i<n->l[i]? =some (kk i)) (hse:∀i,∃y,stE x0 (l.take i)=some y):
  ∀(k i:Nat) (s:Qn) (es:Array (Int×NR)) (y:Ks),n-i=k->i<=n->St i s->eA s.heap S y.1 es->EsK kk ad i es y.2->stE x0 (l.take i)=some y->(∀j,j<n->IsTupleKey (intKind prog w) s.heap (kk j) (ad j))->
   (∀s' Lo y',Moved (S::wr) G s s'->eA s'.heap S y'.1 Lo->EsK kk ad n Lo y'.2->stE x0 (l.take n)=some y'->R (.ok (.ret .none)) s')->
   codeAny (model prog w) A (.builtin "set.update.loop" ⟨[.ref S, .ref I],[]⟩) R s:=by
 have Nh:S∉wr:=fun h=>Lw (Wq.sub _ h);have No:∀b∈wr,b∈S::wr:=fun b hb=>AQ _ hb;intro k;induction k with
 |zero=>
  intro i s es y hk hi K8 hS ek hy hkk hR;have Np:i=n:=by lia
  subst Np;refine BQ F.entry_set_update_loop ?_;rw[BB F.plain_set_update_loop _];show wpAny _ A.in1 (pyNext (.ref I)>>=_) _ _ s;refine A0 (Wq.done s _ _ K8 fun s' hm=> ?_);show wpAny _ A.in1 (ret Value.none) _ _ s';exact A3 (hR s' es y (hm.mono No) (hS.mv fun o e=>hm.heap S o Nh e) ek hy)
 |succ k ih=>
  intro i s es y hk hi K8 hS ek hy hkk hR;have KU:i<n:=by lia
  refine BQ F.entry_set_update_loop ?_;rw[BB F.plain_set_update_loop _];show wpAny _ A.in1 (pyNext (.ref I)>>=_) _ _ s;refine A0 (Wq.item i s _ _ KU K8 fun v s' hP L8 hm=> ?_);obtain rfl:=hval i v hP;have LB:eA s'.heap S y.1 es:=hS.mv fun o e=>hm.heap S o Nh e;have Mu:∀j,j<n->IsTupleKey (intKind prog w) s'.heap (kk j) (ad j):=fun j hj=>mG (hkk j hj) fun o e=>hm.heap _ o (hwr j hj) e;obtain⟨y2,hy2⟩:=hse (i+1);have PN:=hy2;rw[sU hy (hlk i KU)] at PN;show wpAny _ A.in1 (holding [Value.ref (ad i)] (setAdd S (.ref (ad i)))>>=_) _ _ s';refine A0 (Ar ?_);unfold setAdd;refine Ar ?_;refine A0 (wpAny_pyHash_tuple hu (Mu i KU) ?_);refine Eo (s:={s' with toks:=s'.toks+((kk i).length+1)}) LB ek (fun j hj=>Mu j (by lia)) hu (y:=y2) PN fun b h' Lo hsb hS2 ek2=> ?_;have hkS:∀j,j<n->ad j≠S:=by
   intro j hj e;obtain⟨o,items,m,ho,_,hd,_⟩:=Mu j hj;obtain⟨ep,Lr⟩:=LB;rw[e,Lr,Option.some.injEq] at ho;subst ho;exact nomatch hd
  refine A3 ⟨BX F.plain_set_update_loop _,ih (i+1) _ Lo y2 (by lia) KU (Wq.frame _ s' _ _ L8 (Nat.le_add_right _ _) fun b hb o e=> ?_) hS2 ek2 hy2 (fun j hj=>mG (Mu j hj) fun o e=> ?_) fun s'' es'' Om hm'' hS'' ek'' MZ=> ?_⟩
  .rw [hsb.2 b (fun h:b=S=>Lw (by rw[<-h];exact hb))];exact e
  .show h'.get? _=_;rw[hsb.2 _ (hkS j hj)];exact e
  .refine hR s'' es'' Om (Moved.trans Wq.gtrans ((hm.mono No).then_heap (Nat.le_add_right _ _) fun b o hb e=> ?_) hm'') hS'' ek'' MZ;rw[hsb.2 b (fun h:b=S=>hb (by rw[h];exact AW))];exact e
theorem Er (a:NR) {Q₁:NR->Qn->Prop}
  (h:Q₁ (.ref s.heap.objs.size) {s with heap:=s.heap.push {cls:= .type "set",dict:=none,data:= .set #[] 0 (.fresh 0 0 (!w.params.followText "set-order"))}}):
  codeAny (model prog w) A (.call (.builtin "set.__new__") ⟨[.type "set",a],[]⟩) (wants Q₁ E) s:=by
 refine codeAny_of_tree ?_;show wpAny _ A.in1 (do checkBuiltinCall "set.__new__" ⟨[.type "set",a],[]⟩;again (.builtin "set.__new__" ⟨[.type "set",a],[]⟩)) _ _ s;refine A0 (Co (F.newCall_set_1 a) (A3 ⟨BX F.plain_set_new _,BQ F.entry_set_new ?_⟩));rw[BB F.plain_set_new _];unfold Builtin.«set.__new__» Builtin.Frozenset.newClass;have No:=sub_set_self;obtain⟨hp,g,d,tk,os⟩:=s;dsimp only
 wp_walk
 refine DJ (A3 ?_);dsimp only;simp only[newObj];refine A0 (wpAny_alloc (A3 ?_));exact A3 h
set_option maxHeartbeats 3200000 in
theorem Es {l:Qo}{items:Array NR}{Q:NR->Qn->Prop}
  (hh:A.handled=none) (hu:A.units+8<cLine) (hl:s.heap.IsList l items) {xs:Qt (Qt Int)} (hxs:∀i,i<items.size->xs[i]? =some (kk i)) (hxl:xs.length=items.size) (K8:stE (.fresh 0 0 (!w.params.followText "set-order"), #[]) xs=some y)
  (hk:∀i,i<items.size->items[i]? =some (.ref (ad i))/\IsTupleKey (intKind prog w) s.heap (kk i) (ad i))
  (h:∀(h':Qv) (tk:Nat) (es:Array (Int×NR)),eA h' s.heap.objs.size y.1 es->EsK kk ad items.size es y.2->
   (∀b o,b<s.heap.objs.size->s.heap.get? b=some o->h'.get? b=some o)->Q (.ref s.heap.objs.size) {s with heap:=h',toks:=tk}):
  wpAny (model prog w) A (call (.type "set") [.ref l]) Q E s:=by
 obtain⟨c,tl,hmro⟩:=Cy.mro;have hmade:=Cy.made;have No:=Cy.sub;refine wpAny_call (codeAny_of_tree ?_);show wpAny _ _ (callAny (.type "set") _) _ _ _;refine A3 ⟨Code.quiet_builtin _ (by ac_nf),BQ F.entry_type_call ?_⟩;rw[Around.under_plain (weight_type_call_type "set" [.ref l] []) rfl];have h1:=Cy.notType;have h2:=Cy.canCreate;have hct:=F.typeCall_set_1 (.ref l)
 repeat (any_goals (first|assumption|wp_step))
 refine codeAny_mono (Er (.ref l) (E:=E) (Q₁:=fun obj s₁=>obj= .ref s.heap.objs.size/\s₁={s with heap:=s.heap.push {cls:= .type "set",dict:=none,data:= .set #[] 0 (.fresh 0 0 (!w.params.followText "set-order"))}}) ⟨rfl,rfl⟩) fun r s₁ hr=> ?_;generalize (!w.params.followText "set-order")=led at K8 hr;cases r with
 |error e=>exact hr
 |ok fl=>
  cases fl with
  |ret obj=>
   obtain⟨rfl,rfl⟩:=hr;have hS:(s.heap.push {cls:= .type "set",dict:=none,data:= .set #[] 0 (.fresh 0 0 led)}).get? s.heap.objs.size=some {cls:= .type "set",dict:=none,data:= .set #[] 0 (.fresh 0 0 led)}:=AB _ rfl;have hT:Shared.TypeIs {s with heap:=s.heap.push {cls:= .type "set",dict:=none,data:= .set #[] 0 (.fresh 0 0 led)}} (.ref s.heap.objs.size) "set":=⟨_,hS,rfl⟩;have Mj:=Cy.init.lookup;have hbi:=Cy.init.bind (.ref s.heap.objs.size)
   repeat (any_goals (first|assumption|wp_step))
   refine codeAny_mono (codeAny_call_builtin (R:=wants (fun r s₂=>r= .none/\∃h' tk es,s₂={s with heap:=h',toks:=tk}/\
     eA h' s.heap.objs.size y.1 es/\EsK kk ad items.size es y.2/\
     (∀b o,b<s.heap.objs.size->s.heap.get? b=some o->h'.get? b=some o)) E) Cy.init.plain F.entry_set_init (check_set_init_1 hT ?_)) fun r₂ s₂ hr₂=> ?_
   .obtain⟨ol,OC,PD,nl,hdl⟩:=hl;obtain⟨ocls,odict,odata,PP⟩:=ol;simp only at PD hdl;subst PD;subst hdl;have PQ:(s.heap.push {cls:= .type "set",dict:=none,data:= .set #[] 0 (.fresh 0 0 led)}).get? l=some {cls:= .type "list",dict:=odict,data:= .seq items nl,slots:=PP}:=A4 _ OC;have hsls:=F.sub_list_set;have hslf:=F.sub_list_frozenset;have LD:(Value.type "list"==Value.type "dict")=false:=by decide
    have Mv:(s.heap.push {cls:= .type "set",dict:=none,data:= .set #[] 0 (.fresh 0 0 led)}).IsList l items:=⟨_,PQ,rfl,nl,rfl⟩;unfold Builtin.«set.__init__» noKeywords Builtin.Frozenset.updateFrom;generalize hPI:pyIter=PI
    wp_walk
    subst hPI;refine wpAny_pyIter_list Mv ?_;refine A0 (wpAny_runValue ?_);have hlS:l<s.heap.objs.size:=AM OC;have hh3:A.in1.in1.in1.handled=none:=by simp[hh]
    have hneI:l≠(s.heap.push {cls:= .type "set",dict:=none,data:= .set #[] 0 (.fresh 0 0 led)}).objs.size:=by
     rw[An];exact AO (Al hlS)
    have Lw:s.heap.objs.size∉[(s.heap.push {cls:= .type "set",dict:=none,data:= .set #[] 0 (.fresh 0 0 led)}).objs.size,l]:=by
     rw[An];simp only[AI,Ab,As,Bu,not_or];exact⟨AO (BN _),Bn hlS⟩
    refine Ep ((Walks.list hh3 _ l hneI items).toS) s.heap.objs.size
     Lw ?hu kk ad ?hval ?hwr hxs (sV K8) (items.size-0) 0 _ #[] _ (by lia) (AL _)
     ⟨⟨_,AB _ rfl,rfl,rfl⟩,(Mv.push _)⟩ ?hS0 ?hE0 rfl ?hkk ?hR
    case hu=>show A.units+3<cLine;lia
    case hval=>
     intro i v hv;have hi:i<items.size:=sT hv;rw[(hk i hi).1,Option.some.injEq] at hv;exact hv.symm
    case hwr=>
     intro i hi;obtain⟨o,_,_,ho,_⟩:=(hk i hi).2;have:=AM ho;rw[An];simp only[AI,As,Bu];exact AO (Al this)
    case hS0=>exact⟨_,A4 _ hS⟩
    case hE0=>exact⟨rfl,fun i k e=>by simp at e⟩
    case hkk=>exact fun j hj=>mG (hk j hj).2 fun o e=>A4 _ (A4 _ e)
    case hR=>
     intro s' Lo y' hm LB ek' LQ;rw[<-hxl,AF,K8] at LQ;cases LQ;obtain⟨h',g',d',tk',Pu⟩:=s';have eg:g'=s.gens:=hm.gens;have ed:d'=s.drawn:=hm.drawn;have eo:Pu=s.os:=hm.os;subst eg;subst ed;subst eo;show wpAny _ _ _ _ _ _;refine A3 ?_;show wpAny _ _ (ret Value.none) _ _ _;refine A3 ⟨rfl,h',tk',Lo,rfl,LB,ek',fun b o hb e=> ?_⟩;have hb1:b≠s.heap.objs.size:=AO hb;have hb2:b≠(s.heap.push {cls:= .type "set",dict:=none,data:= .set #[] 0 (.fresh 0 0 led)}).objs.size:=by
      rw[An];exact AO (Al hb)
     exact hm.heap b o (by simp only[AI,Ab,As,Bu,not_or];exact⟨hb1,hb2⟩) (A4 _ (A4 _ e))
   .cases r₂ with
    |error e=>exact hr₂
    |ok fl₂=>
     cases fl₂ with
     |ret r=>
      obtain⟨rfl,h',tk,es,rfl,LB,ek',NQ⟩:=hr₂
      repeat (any_goals (first|assumption|wp_step))
      exact h _ _ _ LB ek' NQ
     |_=>exact hr₂.elim
  |_=>exact hr.elim
end
theorem Et:entryFor table "set.__iter__"=some Builtin.«frozenset.__iter__»:=
 entryFor_alias (id':="frozenset.__iter__") (by kernel_rfl) rfl (by ac_nf) (by kernel_rfl)
theorem tz:Slot "set_iterator" "__iter__" "set_iterator.__iter__":=
 .of (owner:="set_iterator") (n:="__iter__") (by rw[typeLookup_type,builtinLookup_eq_fast];kernel_rfl) (by ac_nf) (by ac_nf) (by ac_nf)
  (by first|exact .inl (by ac_nf)|exact .inr (by ac_nf)) (by rw[isSubtype_type];kernel_rfl)
theorem Eu:entryFor table "set_iterator.__iter__"=some Builtin.«dict_keyiterator.__iter__»:=
 entryFor_alias (id':="dict_keyiterator.__iter__") (by kernel_rfl) rfl (by ac_nf) (by kernel_rfl)
theorem Ev (a:NR):argsOk "set_iterator.__iter__" ⟨[a],[]⟩:=by unfold argsOk;kernel_rfl
theorem gQ:Slot "set_iterator" "__next__" "set_iterator.__next__":=
 .of (owner:="set_iterator") (n:="__next__") (by rw[typeLookup_type,builtinLookup_eq_fast];kernel_rfl) (by ac_nf) (by ac_nf) (by ac_nf)
  (by first|exact .inl (by ac_nf)|exact .inr (by ac_nf)) (by rw[isSubtype_type];kernel_rfl)
theorem tD:entryFor table "set_iterator.__next__"=some Builtin.«set_iterator.__next__»:=entryFor_of_tree (by kernel_rfl)
theorem tE (a:NR):argsOk "set_iterator.__next__" ⟨[a],[]⟩:=by unfold argsOk;kernel_rfl
theorem tF {α:Type}:∀(l:Qt α) (i:Nat) (h:i<l.length),([l[i]]++l.eraseIdx i).Perm l
 |[],i,h=>absurd h (by simp)
 |a::l,0,h=>by simp
 |a::l,i+1,h=>by
  have hi:i<l.length:=by simpa using h
  have:=tF l i hi;simp only[List.getElem_cons_succ,List.eraseIdx_cons_succ,List.singleton_append] at this⊢;exact(List.Perm.swap a l[i] _).trans (this.cons a)
theorem tG {α:Type} (next:Nat->Nat):∀(f k:Nat) (left:Qt α) (On:Array α),left.length=f->(pickOrder.go next f k left On).toList.Perm (On.toList++left)
 |0,k,left,On,e=>by
  have:left=[]:=Br.mp e;subst this;unfold pickOrder.go;simp
 |f+1,k,left,On,e=>by
  have hp:next k%left.length<left.length:=Nat.mod_lt _ (by lia);unfold pickOrder.go;rw[A2 hp];dsimp only;refine(tG next f (k+1) _ _ (by rw[List.length_eraseIdx_of_lt hp];lia)).trans ?_;rw[Array.toList_push,BP];refine List.Perm.append_left _ ?_;exact tF left _ hp
theorem Ew {α:Type} (next:Nat->Nat) (xs:Array α):(pickOrder next xs).toList.Perm xs.toList:=by
 unfold pickOrder;simpa using tG next xs.size 0 xs.toList #[] (by simp)
def e7 (w:Qr) (a:Qo) (ep:Nat) (es:Array (Int×NR)):Array (Int×NR):=if w.params.followText "set-order" then pickOrder (w.params.setOrder a ep) es else es
theorem tH (w:Qr) (a:Qo) (ep:Nat) (es:Array (Int×NR)):(e7 w a ep es).toList.Perm es.toList:=by
 unfold e7;split
 .exact Ew _ _
 .exact List.Perm.refl _
theorem mH (w:Qr) (a:Qo) (ep:Nat) (es:Array (Int×NR)):(e7 w a ep es).size=es.size:=by
 have:=(tH w a ep es).length_eq;simpa using this
def bH (w:Qr) (t:SetTable) (i:Nat):Nat:=if w.params.followText "set-order" then 0 else if i=0 then 0 else t.place.getD (i-1) 0+1
theorem tJ (r:Ris xs) {j:Nat} (hp:p<=xs.size) (h1:∀i,i<p->xs.getD i 0<j) (h2:∀i,p<=i->i<xs.size->j<=xs.getD i 0):below xs j=p:=by
 obtain⟨a1,a2,a3⟩:=Ej r j;rcases Nat.lt_trichotomy (below xs j) p with c|c|c
 .have:=h1 _ c;have:=a3 _ (A' _) (by lia);lia
 .exact c
 .have:=a2 _ c;have:=h2 p (A' _) (by lia);lia
theorem Ex {t:SetTable} (r:Ris t.place) (hi:i<=t.place.size):below t.place (if i=0 then 0 else t.place.getD (i-1) 0+1)=i:=by
 by_cases z:i=0
 .subst z;exact tJ r (AL _) (fun i h=>absurd h (by lia)) fun i _ _=>AL _
 .rw [A5 z];refine tJ r hi (fun j hj=> ?_) fun j h1 h2=> ?_
  .rcases Bo j (i-1) with c|c
   .have:=r j (i-1) c (by lia);lia
   .have:j=i-1:=by lia
    subst this;lia
  .have:=r (i-1) j (by lia) h2;lia
section
variable {prog:Qp}{w:Qr}{A:Qs}{E:NR->Qn->Prop}{s:Qn}
def Ey (a:Addr) (slot given epochThen:Nat):setNext a slot given epochThen=(do
  let (es,epoch,t)<-setState a
  if<-setsByText then
   if epoch !=epochThen then unsupported "set_iterator.__next__:elements-changed"
   return ((<-setWalk a)[given]?).map fun e=>(e.2,slot)
  if !t.plain&&es.size>1 then unsupported "set_iterator.__next__:the-table-is-plain-no-more"
  (do if !t.led&& !es.isEmpty then unsupported "set:maker-not-led":Sem Unit)
  let i:=SetTable.below t.place slot
  return match es[i]?,t.place[i]? with
   |some (_,x),some j=>some (x,j+1)
   |_,_=>none):=rfl
theorem tL {es:Array (Int×NR)}{ep:Nat}{t:SetTable}{i:Nat}{Q:Qw (NR×Nat)->Qn->Prop}
  (ho:s.heap.get? S=some {cls:= .type "set",dict:=none,data:= .set es ep t}) (b:Tb t es) (hs:es.size<=t.mask) (hl:t.led= !w.params.followText "set-order") (hp:t.plain=true) (hi:i<=es.size)
  (h:Q (((e7 w S ep es)[i]?).map fun e=>(e.2,bH w t (i+1))) s):wpAny (model prog w) A (setNext S (bH w t i) i ep) Q E s:=by
 have hf:=j0 b hs;rw[Ey];refine A0 (BZ ho rfl hf ?_);dsimp only;unfold setsByText;refine A0 (A0 (DJ (A3 ?_)));show wpAny _ _ (if(w.params.followText "set-order")=true then _ else _) _ _ s;unfold e7 bH at h;unfold bH;cases ht:w.params.followText "set-order" with
 |true=>
  rw[ht] at h;simp only[C0] at h⊢;simp only[D3,AG,Ap];unfold setWalk;refine A0 (A0 (BZ ho rfl hf ?_));dsimp only;unfold setsByText;refine A0 (A0 (DJ (A3 ?_)));show wpAny _ _ (if(w.params.followText "set-order")=true then _ else _) _ _ s;rw[ht];simp only[C0];refine A0 (DJ (A3 ?_));exact A3 h
 |false=>
  rw[ht] at h hl;simp only[AG,Ap] at h⊢;rw[hp,hl];simp only[BF,Ce,Bool.false_and,AG,Ap];refine A0 (A3 ?_);rw[Ex b.ris (by rw[b.size];exact hi)];refine A3 ?_;rcases Bo i es.size with c|c
  .have c':i<t.place.size:=by rw[b.size];exact c
   have e2:t.place.getD (i+1-1) 0=t.place[i]:=by simp[Array.getD,c']
   rw[AZ c] at h⊢;rw[AZ c'];rw[A5 (by lia),e2] at h;exact h
  .rw [BR c] at h⊢;exact h
def eB (h:Qv) (it S:Qo) (slot i n ep:Nat):Prop:=∃o,h.get? it=some o/\o.cls= .type "set_iterator"/\o.data= .fields #[.int slot 0, .int i 0, .ref S, .int n 0, .int ep 0]
def eB.typeIs (x:eB s.heap it S slot i n ep):s.TypeIs (.ref it) "set_iterator":=let ⟨o,ho,hc,_⟩:=x;⟨o,ho,hc⟩
def eB.mv (x:eB h it S slot i n ep) (e:∀o,h.get? it=some o->h'.get? it=some o):eB h' it S slot i n ep:=let ⟨o,ho,r⟩:=x;⟨o,e _ ho,r⟩
theorem Ez {es:Array (Int×NR)}{ep:Nat}{t:SetTable}{Q:NR->Qn->Prop}
  (ho:s.heap.get? S=some {cls:= .type "set",dict:=none,data:= .set es ep t}) (b:Tb t es) (hs:es.size<=t.mask) (hp:t.plain=true)
  (h:Q (.ref s.heap.objs.size) {s with heap:=s.heap.push {cls:= .type "set_iterator",data:= .fields #[.int (bH w t 0:Nat) 0, .int (0:Nat) 0, .ref S, .int es.size 0, .int ep 0]}}):
  wpAny (model prog w) A (pyIter (.ref S)) Q E s:=by
 have hT:s.TypeIs (.ref S) "set":=⟨_,ho,rfl⟩;have hf:=j0 b hs;refine wpAny_pyIter_slot hT F.slot_set_iter (Af F.slot_set_iter hT Et ?_ (F.args_set_iter_1 _));unfold Builtin.«frozenset.__iter__» Builtin.Frozenset.slot0 slotArgs;simp only[List.isEmpty_nil,BF,AG,↓reduceIte,bind_assoc,CB,D3];unfold Builtin.Frozenset.addrOf Builtin.Frozenset.sizeOf setEntries;refine A0 (A3 ?_);try dsimp only
 refine A0 (A3 ?_);refine A0 (A0 (A0 (BZ ho rfl hf (A3 (A3 ?_)))));have hdr:∀{Q':Bool->Qn->Prop},Q' false s->wpAny (model prog w) A.in1 (setDrawn S) Q' E s:=by
  intro Q' q;unfold setDrawn;refine A0 (BZ ho rfl hf ?_);dsimp only;unfold setsByText;refine A0 (A0 (DJ (A3 ?_)));refine A3 ?_;have:(!t.plain&&decide (es.size>1))=false:=by rw[hp];rfl
  show Q' (!w.params.followText "set-order"&&(!t.plain&&decide (es.size>1))) s;rw[this,DR];exact q
 refine A0 (hdr ?_);simp only[AG,Ap];refine A0 (A3 ?_);refine A0 (wpAny_setEpoch_of ho rfl hf ?_);unfold newFields;refine A0 (Am (A3 ⟨_,rfl,"set_iterator",_,⟨_,AB _ rfl,rfl⟩,gQ.lookup, ?_⟩));have e0:bH w t 0=0:=by unfold bH;split<;>rfl
 rw[e0] at h;simpa[rawInt] using h
def tM {vs:Array NR} (ho:h.get? a=some o) (hd:o.data= .fields vs) (f:Array NR->Array NR):
  ∃o',(h.update a (Obj.mapFields f)).get? a=some o'/\o'.cls=o.cls/\o'.data= .fields (f vs):=
 ⟨_,B4 _ ho (DI (Bz hd _)),Obj.cls_mapFields ..,Bz hd _⟩
theorem EA {t:SetTable}{e:Int×NR}{Q:Qw NR->Qn->Prop} (KW:eB s.heap it S (bH w t i) i es.size ep)
  (ho:s.heap.get? S=some {cls:= .type "set",dict:=none,data:= .set es ep t}) (b:Tb t es) (hs:es.size<=t.mask) (hl:t.led= !w.params.followText "set-order") (hp:t.plain=true) (hi:i<es.size)
  (he:(e7 w S ep es)[i]? =some e) (hQ:∀h',eB h' it S (bH w t (i+1)) (i+1) es.size ep->Heap.SameBut it s.heap h'->Q (some e.2) {s with heap:=h'}):
  wpAny (model prog w) A (pyNext (.ref it)) Q E s:=by
 obtain⟨o,NU,hc,hd⟩:=id KW;have hf:=j0 b hs;unfold pyNext;refine A0 (Cg (B2 (name:=Str.ofString "__next__") KW.typeIs gQ
  (Af gQ KW.typeIs tD ?_ (tE _))))
 show wpAny _ _ (fieldsOf (.ref it)>>=_) _ _ s;refine A0 (DE NU hd ?_);dsimp only;unfold setEntries;refine A0 (A0 (BZ ho rfl hf (A3 ?_)));dsimp only;rw[A5 (by simp)];simp only[Az];refine A0 (tL ho b hs hl hp (Ad hi) ?_);rw[he];dsimp only[Option.map_some];refine A0 (CD NU hd (by simp) ?_);obtain⟨o1,Lz,hc1,hd1⟩:=tM NU hd (·.setIfInBounds 0 (rawInt (bH w t (i+1):Nat)));have sb1:=BE s.heap it (Obj.mapFields (·.setIfInBounds 0 (rawInt (bH w t (i+1):Nat))));generalize s.heap.update it (Obj.mapFields (·.setIfInBounds 0 (rawInt (bH w t (i+1):Nat))))=h1 at Lz sb1⊢;refine A0 (CD (s:={s with heap:=h1}) Lz hd1 (by simp) ?_);obtain⟨o2,LK,LO,LW⟩:=tM Lz hd1 (·.setIfInBounds 1 (rawInt ((i:Int)+1)));have O3:=BE h1 it (Obj.mapFields (·.setIfInBounds 1 (rawInt ((i:Int)+1))));dsimp only;generalize h1.update it (Obj.mapFields (·.setIfInBounds 1 (rawInt ((i:Int)+1))))=h2 at LK O3⊢;refine A3 ⟨_,rfl,A3 (hQ _ ⟨o2,LK,by rw[LO,hc1,hc], ?_⟩ (sb1.trans O3))⟩;rw[LW];simp[rawInt]
theorem EB {t:SetTable}{Q:Qw NR->Qn->Prop} (hh:A.handled=none) (KW:eB s.heap it S (bH w t es.size) es.size es.size ep)
  (ho:s.heap.get? S=some {cls:= .type "set",dict:=none,data:= .set es ep t}) (b:Tb t es) (hs:es.size<=t.mask) (hl:t.led= !w.params.followText "set-order") (hp:t.plain=true)
  (hQ:∀h',Heap.ExtBut it s.heap h'->Q none {s with heap:=h'}):
  wpAny (model prog w) A (pyNext (.ref it)) Q E s:=by
 obtain⟨o,NU,hc,hd⟩:=id KW;have hf:=j0 b hs;unfold pyNext;refine A0 (Cg (B2 (name:=Str.ofString "__next__") KW.typeIs gQ
  (Af gQ KW.typeIs tD ?_ (tE _))))
 show wpAny _ _ (fieldsOf (.ref it)>>=_) _ _ s;refine A0 (DE NU hd ?_);dsimp only;unfold setEntries;refine A0 (A0 (BZ ho rfl hf (A3 ?_)));dsimp only;rw[A5 (by simp)];simp only[Az];refine A0 (tL ho b hs hl hp (A' _) ?_);rw[BR (by rw[mH];exact A' _)];dsimp only[Option.map_none];refine A0 (CD NU hd (by simp) ?_);show wpAny _ _ (newExc (.type "StopIteration") []>>=_) _ _ _;refine A0 ?_;simp only[newExc,newTuple];refine A0 (Am ?_ (by size_fits));refine A0 (m:=firstArgMember _ _) (Co (a:=Value.none) (by first|rfl|(simp only[firstArgMember];rfl)) ?_);refine Am ?_ (by size_fits);simp only[raiseNew];refine A0 (wpAny_handled ?_);rw[show A.in1.handled=none from hh];refine A0 (A3 (wpAny_throw ?_));refine A0 (Bj (T:="StopIteration") (b:=true) ⟨_,AB _ rfl,rfl⟩ isSubtype_stop ?_);exact A3 (hQ _ (((BE ..).extBut.push _).push _))
theorem EC (hh:A.handled=none) (I S:Qo) (LD:S≠I) {t:SetTable} (b:Tb t es) (hs:es.size<=t.mask) (hl:t.led= !w.params.followText "set-order") (hp:t.plain=true):
  Walks prog w A I [I,S] [I] es.size (fun i v=>∃e,(e7 w S ep es)[i]? =some e/\v=e.2) (fun i h=>eB h I S (bH w t i) i es.size ep/\h.get? S=some {cls:= .type "set",dict:=none,data:= .set es ep t}) where
 sub:=fun b hb=>by simp at hb;simp[hb]
 frame:=fun _ _ _ st hk=>⟨st.1.mv fun o e=>hk I (by simp) o e,hk S (by simp) _ st.2⟩
 item:=fun i s Q E hi st hQ=>by
  have LP:i<(e7 w S ep es).size:=by rw[mH];exact hi
  refine EA st.1 st.2 b hs hl hp hi (AZ LP) fun h' Ms MC=> ?_;exact hQ _ h' s.toks ⟨_,AZ LP,rfl⟩ ⟨Ms,MC.extBut S _ LD st.2⟩ fun b o hb e=>MC.extBut b o (fun h=>hb (by simp[h])) e
 done:=fun s Q E st hQ=>EB hh st.1 st.2 b hs hl hp fun h' MW=>hQ h' s.toks fun b o hb e=>MW b o (fun h=>hb (by simp[h])) e
 self:=fun _ s _ _ st hQ=>by
  refine wpAny_pyIter_slot st.1.typeIs tz (Af tz st.1.typeIs Eu ?_ (Ev _));show wpAny _ _ (ret (.ref I)) _ _ s;exact A3 ⟨_,rfl,"set_iterator",_,st.1.typeIs,gQ.lookup,hQ⟩
end
open PySem.W
section
variable {prog:Qp}{w:Qr}{A:Qs}{E:NR->Qn->Prop}{s:Qn}
theorem ED {es:Array (Int×NR)}{ep:Nat}{t:SetTable}{Q:Qt NR->Qn->Prop} (hh:A.handled=none)
  (ho:s.heap.get? S=some {cls:= .type "set",dict:=none,data:= .set es ep t}) (b:Tb t es) (hs:es.size<=t.mask) (hl:t.led= !w.params.followText "set-order") (hp:t.plain=true)
  (hQ:∀h' tk vs,(∀b o,s.heap.get? b=some o->h'.get? b=some o)->s.heap.objs.size<=h'.objs.size->vs.Perm (es.toList.map (·.2))->Q vs {s with heap:=h',toks:=tk}):
  wpAny (model prog w) A (collect (.ref S)) Q E s:=by
 unfold collect;refine A0 (wpAny_runValue (BQ F.entry_proto_collect ?_));rw[BB F.plain_proto_collect _];show wpAny _ A.in1 (newList []>>=fun l=>again (.builtin "list.__iadd__" ⟨[l, .ref S],[]⟩)) _ _ s;refine A0 (Am ?_);refine A3 ⟨BX F.plain_list_iadd _,BQ F.entry_list_iadd ?_⟩;rw[BB F.plain_list_iadd _];show wpAny _ A.in1 (Builtin.List.listExtendWith (.ref s.heap.objs.size) (.ref S) (.ref s.heap.objs.size)) _ _ _;have hS:S<s.heap.objs.size:=AM ho;have Lz:(s.heap.push {cls:= .type "list",data:= .seq ([]:Qt NR).toArray}).get? S=some {cls:= .type "set",dict:=none,data:= .set es ep t}:=A4 _ ho;have hT:Shared.TypeIs {s with heap:=s.heap.push {cls:= .type "list",data:= .seq ([]:Qt NR).toArray}} (.ref S) "set":=⟨_,Lz,rfl⟩;unfold Builtin.List.listExtendWith;refine A0 (Cu hT ?_);have h1:Builtin.List.listSameRef (.ref s.heap.objs.size) (.ref S)=false:=by
  show(s.heap.objs.size==S)=false;exact CK.mpr (Bn hS)
 have h2:(Value.type "set"==Value.type "list")=false:=by decide
 have h3:(Value.type "set"==Value.type "tuple")=false:=by decide
 simp only[h1,h2,h3,Bool.or_false,AG,Ap];refine A0 (Ez Lz b hs hp ?_);refine A0 (Ar ?_);unfold Builtin.List.listLengthHint;generalize hH:s.heap.push {cls:= .type "list",data:= .seq ([]:Qt NR).toArray}=H at Lz hT⊢;have hHs:H.objs.size=s.heap.objs.size+1:=by rw[<-hH,An]
 have PJ:Shared.TypeIs {s with heap:=H.push {cls:= .type "set_iterator",data:= .fields #[.int (bH w t 0:Nat) 0, .int (0:Nat) 0, .ref S, .int es.size 0, .int ep 0]}} (.ref S) "set":=⟨_,A4 _ Lz,rfl⟩;refine A0 (Bt PJ F.slot_set_len.lookup ?_)
 wp_delta
 refine A0 (Bj (b:=true) PJ (by rw[isSubtype_type];kernel_rfl) ?_);show wpAny _ A.in1 (typeOf (.ref S)>>=_) _ _ _;refine A0 (Cu PJ ?_);refine A3 ?_;rw[A7 (by decide)];refine A0 (CP ?_);unfold Builtin.List.listTouch;have LD:S≠H.objs.size:=by rw[hHs];exact AO (Al hS)
 have hI0:eB (H.push {cls:= .type "set_iterator",data:= .fields #[.int (bH w t 0:Nat) 0, .int (0:Nat) 0, .ref S, .int es.size 0, .int ep 0]}) H.objs.size S (bH w t 0) 0 es.size ep:=⟨_,AB _ rfl,rfl,rfl⟩;have hL:(H.push {cls:= .type "set_iterator",data:= .fields #[.int (bH w t 0:Nat) 0, .int (0:Nat) 0, .ref S, .int es.size 0, .int ep 0]}).get? s.heap.objs.size=some (seqObj "list" #[] 0):=A4 _ (hH▸AB _ rfl);have hS2:(H.push {cls:= .type "set_iterator",data:= .fields #[.int (bH w t 0:Nat) 0, .int (0:Nat) 0, .ref S, .int es.size 0, .int ep 0]}).get? S=some {cls:= .type "set",dict:=none,data:= .set es ep t}:=A4 _ Lz;have hold:∀b o,s.heap.get? b=some o->(H.push {cls:= .type "set_iterator",data:= .fields #[.int (bH w t 0:Nat) 0, .int (0:Nat) 0, .ref S, .int es.size 0, .int ep 0]}).get? b=some o:=fun b o e=>A4 _ (hH▸A4 _ e);have hsz:(H.push {cls:= .type "set_iterator",data:= .fields #[.int (bH w t 0:Nat) 0, .int (0:Nat) 0, .ref S, .int es.size 0, .int ep 0]}).objs.size=s.heap.objs.size+2:=by rw[An,hHs]
 generalize H.push {cls:= .type "set_iterator",data:= .fields #[.int (bH w t 0:Nat) 0, .int (0:Nat) 0, .ref S, .int es.size 0, .int ep 0]}=H1 at hI0 hL hS2 hold hsz⊢;refine A0 (A0 (Cv (s:={s with heap:=H1}) hL rfl ?_ (AL _) (by decide)));have O4:=Cq hL (fun x=>x.push Value.none);have LA:∀b,b≠s.heap.objs.size->(H1.update s.heap.objs.size (Obj.mapSeq fun x=>x.push Value.none)).get? b=H1.get? b:=(BE H1 s.heap.objs.size _).2;dsimp only;generalize H1.update s.heap.objs.size (Obj.mapSeq fun x=>x.push Value.none)=H2 at O4 LA⊢;refine Cv (s:={s with heap:=H2}) O4 rfl ?_ (by simp[Ay]) (by simp);have PR:=Cq O4 (fun x=>x.pop);have Me:∀b,b≠s.heap.objs.size->(H2.update s.heap.objs.size (Obj.mapSeq fun x=>x.pop)).get? b=H2.get? b:=(BE H2 s.heap.objs.size _).2;dsimp only;generalize H2.update s.heap.objs.size (Obj.mapSeq fun x=>x.pop)=H3 at PR Me⊢;have hk3:∀b o,b≠s.heap.objs.size->H1.get? b=some o->H3.get? b=some o:=fun b o hb e=>by rw[Me b hb,LA b hb];exact e
 have Lw:s.heap.objs.size∉[H.objs.size,S]:=by
  rw[hHs];simp only[AI,As,Bu,not_or];exact⟨AO (BN _),Bn hS⟩
 have hSn:S≠s.heap.objs.size:=AO hS;have hHn:H.objs.size≠s.heap.objs.size:=by rw[hHs];exact Bn (BN _)
 refine A3 ⟨BX F.plain_extend_loop _,codeAny_extend_loopS (EC (A:=A.in1) (ep:=ep) hh H.objs.size S LD b hs hl hp).toS ?_ _ Lw _ es.size 0 _ _ _ rfl (AL _) ⟨hI0.mv fun o e=>hk3 _ o hHn e,hk3 S _ hSn hS2⟩ PR (ItemsOf.nil _) fun s' K1 c' hm LB KR=> ?_⟩
 .have:=b.few;rw[Ay];lia
 show wpAny _ A (load s.heap.objs.size>>=_) _ _ s';refine A0 (wpAny_load LB ?_);obtain⟨h',g',d',tk',Pu⟩:=s';have eg:g'=s.gens:=hm.gens;have ed:d'=s.drawn:=hm.drawn;have eo:Pu=s.os:=hm.os;subst eg;subst ed;subst eo;refine A3 (hQ h' tk' K1.toList (fun b o e=> ?_) (Ad (AM LB)) ?_)
 .have KU:=AM e;refine hm.heap b o (fun hb=> ?_) (hk3 b o (AO KU) (hold b o e));simp only[AI,As,Bu] at hb;rcases hb with hb|hb
  .exact absurd KU (by rw[hb];exact Bb _)
  .rw [hb,hHs] at KU;exact absurd KU (Nat.not_lt.mpr (D0 _))
 .have:K1.toList=(e7 w S ep es).toList.map (·.2):=by
   apply List.ext_getElem?;intro i;rw[AC,BK,BK];rcases Bo i es.size with c|c
   .have hi:i<K1.size:=by rw[KR.1];exact c
    obtain⟨e,he,hv⟩:=KR.2 i _ (AZ hi);rw[AZ hi,hv,he];rfl
   .rw [BR (by rw[KR.1];exact c),BR (by rw[mH];exact c)];rfl
  rw[this];exact(tH w S ep es).map _
abbrev lsH (h:Qv) (vs:Qt NR):Qv:=h.push (seqObj "list" vs.toArray 0)
def iW (h:Qv) (vs:Qt NR):(lsH h vs).get? h.objs.size=some (seqObj "list" vs.toArray 0):=AB _ rfl
theorem mI (hb:h.get? b=some o):(aZ (lsH h vs) h.objs.size vs).get? b=some o:=by
 have KU:b<h.objs.size:=AM hb;have n0:b≠h.objs.size:=AO KU;have n1:b≠h.objs.size+1:=AO (Al KU);have n2:b≠h.objs.size+1+1:=AO (Al (Al KU));rw[BD _ _ _ (by rw[C4,BC,C4];exact n2),BD _ _ _ (by rw[BC,C4];exact n1),DT _ _ _ _ n0,BD _ _ _ n0];exact hb
theorem tN {On:Array NR}(hb:h.get? b=some o):(sortedHeap (lsH h vs) h.objs.size vs On).get? b=some o:=by
 unfold sortedHeap;rw[DT _ _ _ _ (AO (AM hb))];exact mI hb
theorem tO (h:Qv) (vs:Qt NR) (On:Array NR):∃e,(sortedHeap (lsH h vs) h.objs.size vs On).get? h.objs.size=some (seqObj "list" On e):=by
 obtain⟨e1,Lz⟩:∃e1,((lsH h vs).update h.objs.size (Obj.mapSeq fun _=>(#[]:Array NR))).get? h.objs.size=some (seqObj "list" #[] e1):=⟨_,Cq (iW h vs) (fun _=> #[])⟩;have NA:(aZ (lsH h vs) h.objs.size vs).get? h.objs.size=some (seqObj "list" #[] e1):=by
  rw[BD _ _ _ (by rw[C4,BC,C4];exact AO (Al (BN _))),BD _ _ _ (by rw[BC,C4];exact AO (BN _))];exact Lz
 exact⟨_,Cq NA (fun _=>On)⟩
theorem EE {v:NR}{gR:Qt NR->Qn->Prop}{Q:NR->Qn->Prop} (hcol:wpAny (model prog w) A.in1 (collect v) gR E s)
  (h:∀vs s1,gR vs s1->vs.length<64/\(vs.length<2->Q (.ref s1.heap.objs.size) {s1 with heap:=sortedHeap (lsH s1.heap vs) s1.heap.objs.size vs vs.toArray})/\
   (2<=vs.length->∃(c:Nat->Nat->Bool) (kd:SortKind),
    (∀(R:SortKind->Qn->Prop) (E:NR->Qn->Prop),R kd {s1 with heap:=aZ (lsH s1.heap vs) s1.heap.objs.size vs}->wpAny (model prog w) A.in1.in1 (keyKind' vs.toArray) R E {s1 with heap:=aZ (lsH s1.heap vs) s1.heap.objs.size vs})/\
    (∀i j,i<vs.length->j<vs.length->∀C:Bool->Qn->Prop,C (c i j) {s1 with heap:=aZ (lsH s1.heap vs) s1.heap.objs.size vs}->wpAny (model prog w) A.in1.in1 (keyLt' kd (vs.getD i .none) (vs.getD j .none)) C (fun _ _=>False) {s1 with heap:=aZ (lsH s1.heap vs) s1.heap.objs.size vs})/\
    ∀p,Ord vs.length p->p=aV c (kas_sort vs.length)->Q (.ref s1.heap.objs.size) {s1 with heap:=sortedHeap (lsH s1.heap vs) s1.heap.objs.size vs (p.map fun i=>vs.getD i .none)})):
  wpAny (model prog w) A (call (.builtin "sorted") [v]) Q E s:=by
 refine Calls.call_function_entry kind_sorted plain_sorted entry_sorted (args_sorted1 _) ?_;unfold Builtin.«sorted»;refine A0 (m:=checkCount "sorted" 1 1 _) (A3 ?_);refine A0 (thn hcol fun vs s1 g=> ?_);obtain⟨h64,few,many⟩:=h vs s1 g;refine A0 (DK ?_ (by rw[Ay];lia));show wpAny _ _ _ _ _ {s1 with heap:=lsH s1.heap vs};by_cases h2:vs.length<2
 .refine A0 (Ar (Af slot_list_sort ⟨_,iW s1.heap vs,rfl⟩ entry_list_sort (r9 (s:={s1 with heap:=lsH s1.heap vs}) (iW s1.heap vs) h2 ⟨_,rfl, ?_⟩) (args_list_sort _)));exact A3 ⟨_,rfl,few h2⟩
 .obtain⟨c,kd,Ol,hc,hq⟩:=many (by lia);refine A0 (Ar (Af slot_list_sort ⟨_,iW s1.heap vs,rfl⟩ entry_list_sort (Ef (c:=c) (s:={s1 with heap:=lsH s1.heap vs}) (iW s1.heap vs) (by lia) h64 (fun R=>Ol R _) hc fun p hp hpc=>⟨_,rfl, ?_⟩) (args_list_sort _)));exact A3 ⟨_,rfl,hq p hp hpc⟩
end
section
variable {X:Cx}{KO:Qt (Qo×Obj)}{σ:St}{H:Hp}{s:Qn}
theorem tP:∀{xs:Qt Int}{vs:Qt NR},au (xs.map V.int) vs->∀(prog:Qp) (w:Qr),ItemsAre (intKind prog w) xs vs
 |[],_, .nil,_,_=> .nil
 |x::xs,_, .cons r1 r2,prog,w=>by
  obtain⟨t,rfl⟩:=r1;exact .cons (intKind_is prog w x t) (tP r2 prog w)
theorem EF (I:Inv X KO σ H s) {xs:Qt Int} (h:SqT X.K H a (xs.map V.int)):IsTupleKey (intKind X.prog X.w) s.heap xs a:=by
 obtain⟨KQ,r,p,z⟩:=I.tuple h;obtain⟨o,ho,hc,n,hd⟩:=p;exact⟨o,_,n,ho,hc,hd,tP r _ _⟩
theorem EG {A:Qs}{k:Nat} (hr:Room k A):A.units+8<cLine:=Nat.lt_of_le_of_lt (Nat.add_le_add_left (by decide:8<=64) _) hr.units
def ssB (xss:Qt (Qt Int)):Bool:=[true,false].all fun led=>match stE (.fresh 0 0 led, #[]) xss with
 |some y=>y.1.fits y.2.size&&decide (y.1.dummies= #[])&&decide (y.1.place.toList.Pairwise (· < ·))&&(y.1.led==led)&&y.1.plain&&decide (y.2.size<=y.1.mask)&&decide (y.2.size<64)&&decide y.2.toList.Nodup&&y.2.toList.all (xss.contains ·)&&xss.all (y.2.toList.contains ·)
 |none=>false
theorem EH (h:ssB xss=true) (led:Bool):∃y,stE (.fresh 0 0 led, #[]) xss=some y/\(∀es:Array (Int×NR),es.size=y.2.size->Tb y.1 es)/\y.1.led=led/\y.1.plain=true/\y.2.size<=y.1.mask/\y.2.size<64/\y.2.toList.Nodup/\∀z,z∈y.2.toList↔z∈xss:=by
 have h:=AY.mp h led (by cases led<;>simp)
 generalize stE (.fresh 0 0 led, #[]) xss=r at h⊢;cases r with
 |none=>cases h
 |some y=>
  simp only[AN,Av,AY,List.contains_iff_mem,DO] at h;obtain⟨⟨⟨⟨⟨⟨⟨⟨⟨h1,h2⟩,h3⟩,h4⟩,h5⟩,h6⟩,h7⟩,h8⟩,h9⟩,h10⟩:=h;refine⟨y,rfl,fun es e=>⟨?_,h2,fun i j ML hj=> ?_,by lia⟩,h4,h5,h6,h7,h8,fun z=>⟨h9 z,h10 z⟩⟩
  .unfold SetTable.fits at h1;simp only[AN,DO] at h1;rw[h1.1,e]
  .have:=List.pairwise_iff_getElem.mp h3 i j (by simp;lia) (by simpa using hj) ML;simpa[Array.getD,hj,Nat.lt_trans ML hj] using this
inductive rSSet (vs:List V) (H:Hp) (Q:VK):Prop
 |mk (v:V) (xss:List (List Int)) (m:Nat):vs=[v]->Is H (.l (xss.map tI)) v->0<m->((∀xs∈xss,xs.length=m))->ssB xss=true->(∀(L9:List (List Int)) (q:Addr) (H':Hp),L9.Nodup->(∀z,z∈L9↔z∈xss)->(∀i j,i<j->j<L9.length->ltI (L9.getD j []) (L9.getD i [])=false)->H q=none->ae H H'->Is H' (.l (L9.map tI)) (.ref q)->Q (.ref q) H')->rSSet vs H Q
theorem EI (I:Inv X KO σ H s) {rs:Qt V}(hi:Iss H (xss.map tI) rs) (r':au rs vs) (hm:0<m) (OD:∀xs∈xss,xs.length=m) (KS:xss.length<64) {Q:VK}
  (q:∀(L9:Qt (Qt Int)) (q:Qo) (H':Hp),L9.Perm xss->(∀i j,i<j->j<L9.length->ltI (L9.getD j []) (L9.getD i [])=false)->H q=none->ae H H'->Is H' (.l (L9.map tI)) (.ref q)->Q (.ref q) H') (A:Qs):
  vs.length<64/\(vs.length<2->EP X KO σ Q (.ref s.heap.objs.size) {s with heap:=sortedHeap (lsH s.heap vs) s.heap.objs.size vs vs.toArray})/\
   (2<=vs.length->∃(c:Nat->Nat->Bool) (kd:SortKind),
    (∀(R:SortKind->Qn->Prop) (E:NR->Qn->Prop),R kd {s with heap:=aZ (lsH s.heap vs) s.heap.objs.size vs}->wpAny (model X.prog X.w) A.in1.in1 (keyKind' vs.toArray) R E {s with heap:=aZ (lsH s.heap vs) s.heap.objs.size vs})/\
    (∀i j,i<vs.length->j<vs.length->∀C:Bool->Qn->Prop,C (c i j) {s with heap:=aZ (lsH s.heap vs) s.heap.objs.size vs}->wpAny (model X.prog X.w) A.in1.in1 (keyLt' kd (vs.getD i .none) (vs.getD j .none)) C (fun _ _=>False) {s with heap:=aZ (lsH s.heap vs) s.heap.objs.size vs})/\
    ∀p,Ord vs.length p->p=aV c (kas_sort vs.length)->EP X KO σ Q (.ref s.heap.objs.size) {s with heap:=sortedHeap (lsH s.heap vs) s.heap.objs.size vs (p.map fun i=>vs.getD i .none)}):=by
 have LD:∀xs∈xss,xs≠[]:=fun xs hx z=>by have:=OD xs hx;rw[z] at this;exact absurd this (by show¬0=m;lia)
 have PU:rs.length=xss.length:=by rw[hi.length,A1]
 have ln:=r'.length;have lns:vs.length=xss.length:=by lia
 refine⟨by lia,fun h2=> ?_,fun h2=>⟨gP xss,tuples' true,fun R E hR=> ?_,fun i j LP hj' C hC=> ?_,fun p ho hpc=> ?_⟩⟩
 .obtain⟨e,he⟩:=tO s.heap vs vs.toArray;have fr:=I.hok.fresh (a:=s.heap.objs.size) (A' _);exact⟨.ref s.heap.objs.size,_,I.laid (t':=s.toks) (fun _ _=>tN) (A' _) (show aD X.prog X.w _ _ _ (.lst rs) from⟨by rw[Ay];lia,vs,e,r',he⟩),rfl,q xss _ _ (List.Perm.refl _) (fun i j a b=>absurd b (by lia)) fr (ae.new fr) (aB al (hi.mono (ae.new fr)))⟩
 .have I2:Inv X KO σ H {s with heap:=aZ (lsH s.heap vs) s.heap.objs.size vs}:=I.kept (t':=s.toks) fun b o e=>mI e;obtain⟨fs,k1,k2,k3⟩:=sk I2 hi r' LD;exact kat_kind (T:= .type "int") k1 (by lia) (fun f hf=>by obtain⟨z,t,rfl⟩:=k3 f hf;exact .now) rfl hR
 .have I2:Inv X KO σ H {s with heap:=aZ (lsH s.heap vs) s.heap.objs.size vs}:=I.kept (t':=s.toks) fun b o e=>mI e;have g:∀i,i<xss.length->∃a,vs.getD i .none= .ref a/\SqT X.K H a ((xss.getD i []).map V.int):=fun i h=>by
   have hr:i<rs.length:=by lia
   obtain⟨d,hd,h1⟩:=hi.of_get (A2 hr);rw[AC,A2 h] at hd;cases hd;obtain⟨a,ea,ha⟩:=bO h1;obtain⟨u,LA,ru⟩:=r'.get (A2 hr);rw[ea] at ru;obtain rfl:u=Value.ref a:=ru;refine⟨a, ?_, ?_⟩
   .rw [A9,LA];rfl
   .rw [A9,A2 h];exact SqT.of ha
  obtain⟨a1,e1,s1⟩:=g i (by lia);obtain⟨a2,e2,s2⟩:=g j (by lia);rw[e1,e2];rw[sQ (by lia) (by lia)] at hC;exact DX I2 s1 s2 hC
 .rw [lns] at ho hpc;have MI:∀i∈p.toList,i<xss.length:=fun i hi=>ho.lt hi;obtain⟨e,he⟩:=tO s.heap vs (p.map fun i=>vs.getD i .none);have en:(p.map fun i=>vs.getD i .none)=List.toArray (p.toList.map fun i=>vs.getD i .none):=by
   apply Array.toList_inj.mp;simp
  rw[en] at he⊢;have fr:=I.hok.fresh (a:=s.heap.objs.size) (A' _);refine⟨.ref s.heap.objs.size,_,I.laid (t':=s.toks) (fun _ _=>tN) (A' _) (show aD X.prog X.w _ _ _ (.lst (p.toList.map fun i=>rs.getD i .non)) from⟨?_,_,e,mw r' p.toList (fun i hi=>by rw[PU];exact MI i hi),he⟩),rfl,q (p.toList.map fun i=>xss.getD i []) _ _ ?_ ?_ fr (ae.new fr) (aB al ((sj hi p.toList MI).mono (ae.new fr)))⟩
  .rw [A1,Ao,Ay,ho.size];lia
  .have pp:=(Cf.mp ho).map fun i=>xss.getD i [];rw[show(List.range xss.length).toArray.toList=List.range xss.length from rfl,DW] at pp;exact pp
  .intro i j ML hj;rw[A1,Ao,ho.size] at hj;have up:=Ec (Ee (xss:=xss) (m:=m) (by lia) OD) (n:=xss.length) (by lia) i j ML hj;rw[<-hpc] at up;have g:∀i,i<xss.length->(p.toList.map fun i=>xss.getD i []).getD i []=xss.getD (at0 p i) []/\at0 p i<xss.length:=fun i h=>by
    have hs:i<p.size:=by rw[ho.size];exact h
    have e:at0 p i=p[i]:=by simp[at0,Array.getD,hs]
    rw[e];refine⟨?_,ho.lt (by simp)⟩;rw[A9,AC];simp[hs]
   obtain⟨g1,g2⟩:=g i (by lia);obtain⟨g3,g4⟩:=g j hj;rw[g1,g3];rw[sQ g4 g2] at up;exact up
theorem mJ {α β:Type}{f:β->α}{P:β->Prop}:∀(vs:Qt α),(∀v∈vs,∃j,P j/\v=f j)->∃js:Qt β,vs=js.map f/\∀j∈js,P j
 |[],_=>⟨[],rfl,fun _ h=>nomatch h⟩
 |v::vs,h=>by
  obtain⟨j,pj,e⟩:=h v (by simp);obtain⟨js,es,ps⟩:=mJ vs fun u hu=>h u (by simp[hu]);exact⟨j::js,by rw[e,es];rfl,fun i hi=>by rcases AI.mp hi with rfl|hi;exact pj;exact ps i hi⟩
theorem tQ (ad:Nat->Qo):∀js:Qt Nat,au (js.map fun j=>V.ref (ad j)) (js.map fun j=>Value.ref (ad j))
 |[]=> .nil
 |j::js=> .cons rfl (tQ ad js)
theorem tR {H:Hp} (kk:Nat->Qt Int) (ad:Nat->Qo):∀js:Qt Nat,(∀j∈js,H (ad j)=some (.tup ((kk j).map V.int)))->Iss H ((js.map kk).map tI) (js.map fun j=>V.ref (ad j))
 |[],_=>ao
 |j::js,h=>ak (eX (h j (by simp))) (tR kk ad js fun i hi=>h i (by simp[hi]))
theorem EJ {α β:Type}{f:α->β}{L:Qt α}{vs:Qt β} (h:vs.Perm (L.map f)):∃js:Qt α,js.Perm L/\vs=js.map f:=by
 generalize hm:L.map f=ms at h;induction h generalizing L with
 |nil=>exact⟨[],by rw[List.map_eq_nil_iff.mp hm],rfl⟩
 | @cons x l1 l2 p ih=>
  cases L with
  |nil=>cases hm
  |cons a L=>
   rw[AE] at hm;injection hm with h1 h2;obtain⟨js,p,e⟩:=ih h2;exact⟨a::js,p.cons a,by rw[AE,h1,e]⟩
 |swap x y l=>
  match L,hm with
  |a::b::L,hm=>
   simp only[AE,CC] at hm;obtain⟨rfl,rfl,rfl⟩:=hm;exact⟨b::a::L,List.Perm.swap ..,rfl⟩
 |trans p1 p2 ih1 ih2=>
  obtain⟨js,q1,e1⟩:=ih2 hm;obtain⟨ks,q2,e2⟩:=ih1 e1.symm;exact⟨ks,q2.trans q1,e2⟩
theorem EK (ek:EsK kk ad n es ks) (hp:vs.Perm (es.toList.map (·.2))):
  ∃js:Qt Nat,vs=js.map (fun j=>Value.ref (ad j))/\(∀j∈js,j<n)/\(js.map kk).Perm ks.toList:=by
 have hl:es.toList.length=ks.toList.length:=by simp[ek.size]
 obtain⟨L,eL,pL⟩:=mJ (f:=fun j=>((hK (kk j),Value.ref (ad j)),kk j)) (P:=fun j=>j<n) (es.toList.zip ks.toList) fun v hv=>by
  obtain⟨i,hi,e⟩:=B6.mp hv;rw[List.getElem_zip] at e;rw[List.length_zip] at hi;have O0:i<es.size:=by simp at hi;lia
  obtain⟨j,j1,j2,j3⟩:=ek.of (AZ O0);have hk:ks[i]? =some ks.toList[i]:=by rw[<-BK,A2]
  rw[hk,Option.some.injEq] at j2;refine⟨j,j1, ?_⟩;rw[<-e,j2];exact Prod.ext (by simpa using j3) rfl
 have e1:es.toList=L.map fun j=>(hK (kk j),Value.ref (ad j)):=by
  have:=BU (List.map Prod.fst) eL;rw[List.map_fst_zip (by lia),BA] at this;exact this
 have e2:ks.toList=L.map kk:=by
  have:=BU (List.map Prod.snd) eL;rw[List.map_snd_zip (by lia),BA] at this;exact this
 rw[e1,BA] at hp;obtain⟨js,p,e⟩:=EJ hp;exact⟨js,e,fun j hj=>pL j (p.mem_iff.mp hj),by rw[e2];exact p.map kk⟩
theorem EL {e:Qu}{ta:TA}{p p2 pos NV:Pos} (hu:X.A.units+8<cLine) (hh:X.A.handled=none) (hg:Gl X "sorted") (hm:X.mg "sorted"=none) (hg2:Gl X "set") (hm2:X.mg "set"=none)
  (ha:PA X [e] ta) (he:starEach [e] X.env=(false,eval e X.env)::starEach [] X.env:=by rfl)
  (Oz:starEach [Expr.Call (.Name "set" p2) [e] [] NV] X.env=(false,eval (Expr.Call (.Name "set" p2) [e] [] NV) X.env)::starEach [] X.env:=by rfl):
  PE X (.Call (.Name "sorted" p) [.Call (.Name "set" p2) [e] [] NV] [] pos) (tCB rSSet ta):=by
 intro KO s σ H Q I h;refine Be (cQ I hg hm (by first|exact boot_sorted|rfl|ac_nf) ?_ (by decide) (by decide));refine DB ?_ Oz (by rfl);rw[Oz];show wpAny _ _ (spliced ((false,eval (Expr.Call (.Name "set" p2) [e] [] NV) X.env)::backTo pos (starEach [] X.env))) _ _ s;refine Ca ?_;refine Be (cQ I hg2 hm2 (by first|rfl|ac_nf) ?_ (by decide) (by decide));refine B3 (thn (ha NV KO s σ H _ I h) fun us s1 ⟨vs,H1,I1,r1,q1⟩=> ?_) he (by rfl);obtain⟨v,xss,m,rfl,hv,hm',OD,PV,q⟩:=q1;obtain⟨y,K8,htb,tl,tp,tm,t64,knd,OE⟩:=EH PV (!X.w.params.followText "set-order");obtain⟨l,rs,rfl,hl,hi⟩:=az hv;have PU:rs.length=xss.length:=by rw[hi.length,A1]
 obtain⟨u,rfl,rx⟩:=dM r1;cases rx;obtain⟨KQ,r',pl,hz⟩:=I1.list (SqL.of (K:=X.K) hl);have ln:=r'.length;have g:∀i,∃a,i<xss.length->KQ[i]? =some (.ref a)/\rs[i]? =some (.ref a)/\H1 a=some (.tup ((xss.getD i []).map V.int)):=fun i=>by
  by_cases h:i<xss.length
  .have hr:i<rs.length:=by lia
   obtain⟨d,hd,h1⟩:=hi.of_get (A2 hr);rw[AC,A2 h] at hd;cases hd;obtain⟨a,ea,ha⟩:=bO h1;obtain⟨u,LA,ru⟩:=r'.get (A2 hr);rw[ea] at ru;obtain rfl:u=Value.ref a:=ru;refine⟨a,fun _=>⟨LA,by rw[A2 hr,ea], ?_⟩⟩;rw[A9,A2 h];exact ha
  .exact⟨0,fun c=>absurd c h⟩
 let ad:Nat->Qo:=fun i=>Classical.choose (g i)
 have hg:∀i,i<xss.length->KQ[i]? =some (.ref (ad i))/\rs[i]? =some (.ref (ad i))/\H1 (ad i)=some (.tup ((xss.getD i []).map V.int)):=fun i hi=>Classical.choose_spec (g i) hi;generalize ad=ad at hg;refine Es (kk:=fun i=>xss.getD i []) (ad:=ad) (items:=KQ.toArray) hh (by lia) pl.isList (xs:=xss) (fun i hi=> ?_) (by rw[AJ];lia) K8 (fun i hi=> ?_) fun h' tk es hS ek hk=> ?_
 .rw [AJ] at hi;rw[A9,A2 (by lia)];rfl
 .rw [AJ] at hi;have hg':=hg i (by lia);exact⟨by rw[List.getElem?_toArray];exact hg'.1,EF I1 (SqT.of hg'.2.2)⟩
 .have I2:Inv X KO σ H1 {s1 with heap:=h',toks:=tk}:=I1.kept fun b o e=>hk b o (AM e) e;refine A3 ?_;show wpAny _ _ (call (.builtin "sorted") [.ref s1.heap.objs.size]) _ _ {s1 with heap:=h',toks:=tk};obtain⟨ep,ho⟩:=hS;have ez:=ek.size;refine EE (ED (s:={s1 with heap:=h',toks:=tk}) (A:=X.A.in1) hh ho (htb es ez) (by lia) tl tp fun MN tk' vs NQ hsz hp=> ?_) fun vs s' g=>g;obtain⟨js,ev,lt,pk⟩:=EK ek hp;have I3:Inv X KO σ H1 {s1 with heap:=MN,toks:=tk'}:=I2.kept NQ;have lt':∀j∈js,j<xss.length:=fun j hj=>by have:=lt j hj;rw[AJ] at this;lia
  subst ev;have mem:∀z,z∈js.map (fun i=>xss.getD i [])↔z∈xss:=fun z=>by rw[pk.mem_iff];exact OE z
  have bound:(js.map fun i=>xss.getD i []).length=y.2.size:=by rw[pk.length_eq,Ao]
  have nd:=pk.nodup_iff.mpr knd;refine EI I3 (rs:=js.map fun j=>V.ref (ad j)) (xss:=js.map fun i=>xss.getD i []) (tR _ ad js fun j hj=>(hg j (lt' j hj)).2.2) (tQ ad js) hm' (fun xs hx=>OD xs ((mem xs).mp hx)) (by lia) (fun L9 q' H' pm srt hq sm his=> ?_) X.A;exact q L9 q' H' (pm.nodup_iff.mpr nd) (fun z=>by rw[pm.mem_iff];exact mem z) srt hq sm his
end
end L2
namespace L2
open PySem PySem.Spec PyProof.Rows PySem.W
variable {H H':Hp}{P:Qp}{Q:Qw NR->Qn->Prop}{d it:Qo}{e:DictEntry}{ep i:Nat}{es:Array DictEntry}{kvs:Qt (Qt Key×V)}{o:Obj}{w:Qr}
section
variable {prog:Qp}{w:Qr}{A:Qs}{E:NR->Qn->Prop}{s:Qn}
theorem mL {Q:NR->Qn->Prop} (hd:(d==sysModules)=false) (ho:s.heap.get? d=some o) (hc:o.ExactDict) (K5:o.data= .dict es ep)
  (hQ:Q (.ref s.heap.objs.size) {s with heap:=s.heap.push {cls:= .type "dict_keyiterator",data:= .fields #[.ref d, .int 0 0, .int es.size 0, .int ep 0]}}):
  wpAny (model prog w) A (pyIter (.ref d)) Q E s:=by
 have hT:s.TypeIs (.ref d) "dict":=⟨o,ho,hc.1⟩;refine wpAny_pyIter_slot hT PySem.F.slot_dict_iter (Af PySem.F.slot_dict_iter hT PySem.F.entry_dict_iter ?_ (PySem.F.args_dict_iter_1 _));unfold Builtin.«dict.__iter__»;refine A0 ?_;unfold Builtin.Dict.dictSlotNone;refine A0 (wpAny_notOrdered_dict hT ?_);show wpAny _ _ (pure (Value.ref d)) _ _ s;refine A3 ?_;show wpAny _ _ (Builtin.Dict.showsAll d>>=_) _ _ s;unfold Builtin.Dict.showsAll;rw[A5 (by rw[hd];exact AV)];refine A0 (A3 ?_);refine A0 (Cm ho K5 ?_);refine A0 (D9 ho K5 ?_);refine A0 (Am (A3 ⟨_,rfl,"dict_keyiterator",_,⟨_,AB _ rfl,rfl⟩,Bq.lookup, ?_⟩));simpa[rawInt] using hQ
theorem mM (KW:s.heap.IsKeyIter it d i es.size ep) (NW:s.heap.get? d=some o) (NX:o.data= .dict es ep) (he:es[i]? =some e)
  (hQ:∀h',h'.IsKeyIter it d (i+1) es.size ep->Heap.SameBut it s.heap h'->Q (some e.key) {s with heap:=h'}):wpAny (model prog w) A (pyNext (.ref it)) Q E s:=by
 obtain⟨oi,ho,hc,hd⟩:=id KW;have KU:i<es.size:=(Array.getElem?_eq_some_iff.mp he).1;unfold pyNext;refine A0 (Cg (B2 (name:=Str.ofString "__next__") KW.typeIs Bq (Af Bq KW.typeIs PySem.F.entry_dict_keyiterator_next ?_ (PySem.F.args_dict_keyiterator_next_1 _))));refine A0 (A3 ?_);refine A0 ?_;refine A0 ?_;first|refine A0 (CW KW.typeIs (A3 ?_));skip|refine A0 (D2 KW.typeIs (A3 ?_));skip
 refine A0 (DE ho hd ?_);have Mw:Builtin.Dict_items.ownsTuple "dict_keyiterator"=false:=by decide
 simp only[Mw,AG,Ap];show wpAny _ _ (if(Value.ref d==Value.none)=true then _ else _) _ _ s;rw[A5 (show¬((Value.ref d==Value.none)=true) from AV)];refine A0 (A3 ?_);refine A0 (Cm NW NX ?_);rw[A5 (by simp)];refine A0 (A3 ?_);refine A0 (D9 NW NX ?_);rw[A5 (by simp)];refine A3 ?_;simp only[show¬((i:Int)<0) from by lia,Ap,Az,he];refine A0 ?_;first|refine A0 (CW KW.typeIs (A3 ?_));skip|refine A0 (D2 KW.typeIs (A3 ?_));skip
 refine A0 (wpAny_isOneOf_keyiter KW.typeIs ?_);show wpAny _ _ (setField (.ref it) 1 (rawInt ((i:Int)+1))>>=_) _ _ s;refine A0 (CD ho hd (by simp) ?_);have Lg:(s.heap.update it (Obj.mapFields (·.setIfInBounds 1 (rawInt ((i:Int)+1))))).IsKeyIter it d (i+1) es.size ep:=⟨_,B4 _ ho (DI (Bz hd _)),(Obj.cls_mapFields ..).trans hc,by rw[Bz hd];simp[rawInt]⟩;refine A0 (Ar ?_);refine A0 (wpAny_isOneOf_keyiter (s:={s with heap:=s.heap.update it (Obj.mapFields (·.setIfInBounds 1 (rawInt ((i:Int)+1))))}) Lg.typeIs ?_);show wpAny _ _ (pure e.key) _ _ _;exact A3 (A3 ⟨_,rfl,A3 (hQ _ Lg (BE ..))⟩)
theorem mN (hh:A.handled=none) (KW:s.heap.IsKeyIter it d i es.size ep) (NW:s.heap.get? d=some o) (NX:o.data= .dict es ep) (he:es.size<=i)
  (hQ:∀h',Heap.ExtBut it s.heap h'->Q none {s with heap:=h'}):wpAny (model prog w) A (pyNext (.ref it)) Q E s:=by
 obtain⟨oi,ho,hc,hd⟩:=id KW;unfold pyNext;refine A0 (Cg (B2 (name:=Str.ofString "__next__") KW.typeIs Bq (Af Bq KW.typeIs PySem.F.entry_dict_keyiterator_next ?_ (PySem.F.args_dict_keyiterator_next_1 _))));refine A0 (A3 ?_);refine A0 ?_;refine A0 ?_;first|refine A0 (CW KW.typeIs (A3 ?_));skip|refine A0 (D2 KW.typeIs (A3 ?_));skip
 refine A0 (DE ho hd ?_);have Mw:Builtin.Dict_items.ownsTuple "dict_keyiterator"=false:=by decide
 simp only[Mw,AG,Ap];show wpAny _ _ (if(Value.ref d==Value.none)=true then _ else _) _ _ s;rw[A5 (show¬((Value.ref d==Value.none)=true) from AV)];refine A0 (A3 ?_);refine A0 (Cm NW NX ?_);rw[A5 (by simp)];refine A0 (A3 ?_);refine A0 (D9 NW NX ?_);rw[A5 (by simp)];refine A3 ?_;simp only[show¬((i:Int)<0) from by lia,Ap,Az,BR he];refine A0 ?_;first|refine A0 (CW KW.typeIs (A3 ?_));skip|refine A0 (D2 KW.typeIs (A3 ?_));skip
 show wpAny _ _ (setField (.ref it) 0 .none>>=_) _ _ s;refine A0 (CD ho hd (by simp) ?_);show wpAny _ _ (newExc (.type "StopIteration") []>>=_) _ _ _;refine A0 ?_;simp only[newExc,newTuple];refine A0 (Am ?_ (by size_fits));refine A0 (m:=firstArgMember _ _) (Co (a:=Value.none) (by first|rfl|(simp only[firstArgMember];rfl)) ?_);refine Am ?_ (by size_fits);simp only[raiseNew];refine A0 (wpAny_handled ?_);rw[show A.in1.handled=none from hh];refine A0 (A3 (wpAny_throw ?_));refine A0 (Bj (T:="StopIteration") (b:=true) ⟨_,AB _ rfl,rfl⟩ isSubtype_stop ?_);exact A3 (hQ _ (((BE ..).extBut.push _).push _))
end
section
variable {prog:Qp}{w:Qr}{A:Qs}{E:NR->Qn->Prop}{s:Qn}
theorem EM {Q:NR->Qn->Prop} (hd:(d==sysModules)=false) (ho:s.heap.get? d=some o) (hc:o.ExactDict)
  (hQ:Q (.ref s.heap.objs.size) {s with heap:=s.heap.push {cls:= .type "dict_values",data:= .fields #[.ref d]}}):wpAny (model prog w) A (call (.builtin "dict.values") [.ref d]) Q E s:=by
 have hT:s.TypeIs (.ref d) "dict":=⟨o,ho,hc.1⟩;refine Af PySem.F.slot_dict_values hT PySem.F.entry_dict_values ?_ (PySem.F.args_dict_values_1 _);refine A0 ?_;unfold Builtin.Dict.noArgs;refine A0 (wpAny_notOrdered_dict hT ?_);show wpAny _ _ (pure d) _ _ s;refine A3 ?_;show wpAny _ _ (Builtin.Dict.showsAll d>>=_) _ _ s;unfold Builtin.Dict.showsAll;rw[A5 (by rw[hd];exact AV)];refine A0 (A3 ?_);exact A0 (Am (A3 ⟨_,rfl,hQ⟩))
theorem EN {v:Qo}{Q:NR->Qn->Prop} (hv:s.heap.IsValuesView v d) (ho:s.heap.get? d=some o) (K5:o.data= .dict es ep)
  (hQ:Q (.ref s.heap.objs.size) {s with heap:=s.heap.push {cls:= .type "dict_valueiterator",data:= .fields #[.ref d, .int 0 0, .int es.size 0, .int ep 0]}}):
  wpAny (model prog w) A (pyIter (.ref v)) Q E s:=by
 obtain⟨ov,hov,hcv,hdv⟩:=id hv;refine wpAny_pyIter_slot hv.typeIs PySem.F.slot_dict_values_iter (Af PySem.F.slot_dict_values_iter hv.typeIs PySem.F.entry_dict_values_iter ?_ (PySem.F.args_dict_values_iter_1 _));unfold Builtin.«dict_values.__iter__»;refine A0 (A3 ?_);refine A0 ?_;unfold Builtin.Dict_items.dictOf;refine A0 (Bp hov hdv (x:= .ref d) rfl (A3 ?_));refine A0 ?_;unfold Builtin.Dict_items.newIterator;refine A0 (Cm ho K5 ?_);refine A0 (D9 ho K5 ?_);have Mw:Builtin.Dict_items.ownsTuple "dict_valueiterator"=false:=by decide
 simp only[Mw,AG,Ap];refine Am (A3 ⟨_,rfl,"dict_valueiterator",_,⟨_,AB _ rfl,rfl⟩,Bg.lookup, ?_⟩);simpa[rawInt] using hQ
theorem EO (KW:s.heap.IsValIter it d i es.size ep) (NW:s.heap.get? d=some o) (NX:o.data= .dict es ep) (he:es[i]? =some e)
  (hQ:∀h',h'.IsValIter it d (i+1) es.size ep->Heap.SameBut it s.heap h'->Q (some e.val) {s with heap:=h'}):wpAny (model prog w) A (pyNext (.ref it)) Q E s:=by
 obtain⟨oi,ho,hc,hd⟩:=id KW;have KU:i<es.size:=(Array.getElem?_eq_some_iff.mp he).1;unfold pyNext;refine A0 (Cg (B2 (name:=Str.ofString "__next__") KW.typeIs Bg (Af Bg KW.typeIs PySem.F.entry_dict_valueiterator_next ?_ (PySem.F.args_dict_valueiterator_next_1 _))));refine A0 (A3 ?_);refine A0 ?_;refine A0 ?_;first|refine A0 (CV KW.typeIs (A3 ?_));skip|refine A0 (D1 KW.typeIs (A3 ?_));skip
 refine A0 (DE ho hd ?_);have Mw:Builtin.Dict_items.ownsTuple "dict_valueiterator"=false:=by decide
 simp only[Mw,AG,Ap];show wpAny _ _ (if(Value.ref d==Value.none)=true then _ else _) _ _ s;rw[A5 (show¬((Value.ref d==Value.none)=true) from AV)];refine A0 (A3 ?_);refine A0 (Cm NW NX ?_);rw[A5 (by simp)];refine A0 (A3 ?_);refine A0 (D9 NW NX ?_);rw[A5 (by simp)];refine A3 ?_;simp only[show¬((i:Int)<0) from by lia,Ap,Az,he];refine A0 ?_;first|refine A0 (CV KW.typeIs (A3 ?_));skip|refine A0 (D1 KW.typeIs (A3 ?_));skip
 refine A0 (wpAny_isOneOf_valiter KW.typeIs ?_);show wpAny _ _ (setField (.ref it) 1 (rawInt ((i:Int)+1))>>=_) _ _ s;refine A0 (CD ho hd (by simp) ?_);have Lg:(s.heap.update it (Obj.mapFields (·.setIfInBounds 1 (rawInt ((i:Int)+1))))).IsValIter it d (i+1) es.size ep:=⟨_,B4 _ ho (DI (Bz hd _)),(Obj.cls_mapFields ..).trans hc,by rw[Bz hd];simp[rawInt]⟩;refine A0 (Ar ?_);refine A0 (wpAny_isOneOf_valiter (s:={s with heap:=s.heap.update it (Obj.mapFields (·.setIfInBounds 1 (rawInt ((i:Int)+1))))}) Lg.typeIs ?_);refine A0 (wpAny_isOneOf_valiter (s:={s with heap:=s.heap.update it (Obj.mapFields (·.setIfInBounds 1 (rawInt ((i:Int)+1))))}) Lg.typeIs ?_);show wpAny _ _ (pure e.val) _ _ _;exact A3 (A3 ⟨_,rfl,A3 (hQ _ Lg (BE ..))⟩)
theorem EQ (hh:A.handled=none) (KW:s.heap.IsValIter it d i es.size ep) (NW:s.heap.get? d=some o) (NX:o.data= .dict es ep) (he:es.size<=i)
  (hQ:∀h',Heap.ExtBut it s.heap h'->Q none {s with heap:=h'}):wpAny (model prog w) A (pyNext (.ref it)) Q E s:=by
 obtain⟨oi,ho,hc,hd⟩:=id KW;unfold pyNext;refine A0 (Cg (B2 (name:=Str.ofString "__next__") KW.typeIs Bg (Af Bg KW.typeIs PySem.F.entry_dict_valueiterator_next ?_ (PySem.F.args_dict_valueiterator_next_1 _))));refine A0 (A3 ?_);refine A0 ?_;refine A0 ?_;first|refine A0 (CV KW.typeIs (A3 ?_));skip|refine A0 (D1 KW.typeIs (A3 ?_));skip
 refine A0 (DE ho hd ?_);have Mw:Builtin.Dict_items.ownsTuple "dict_valueiterator"=false:=by decide
 simp only[Mw,AG,Ap];show wpAny _ _ (if(Value.ref d==Value.none)=true then _ else _) _ _ s;rw[A5 (show¬((Value.ref d==Value.none)=true) from AV)];refine A0 (A3 ?_);refine A0 (Cm NW NX ?_);rw[A5 (by simp)];refine A0 (A3 ?_);refine A0 (D9 NW NX ?_);rw[A5 (by simp)];refine A3 ?_;simp only[show¬((i:Int)<0) from by lia,Ap,Az,BR he];refine A0 ?_;first|refine A0 (CV KW.typeIs (A3 ?_));skip|refine A0 (D1 KW.typeIs (A3 ?_));skip
 show wpAny _ _ (setField (.ref it) 0 .none>>=_) _ _ s;refine A0 (CD ho hd (by simp) ?_);show wpAny _ _ (newExc (.type "StopIteration") []>>=_) _ _ _;refine A0 ?_;simp only[newExc,newTuple];refine A0 (Am ?_ (by size_fits));refine A0 (m:=firstArgMember _ _) (Co (a:=Value.none) (by first|rfl|(simp only[firstArgMember];rfl)) ?_);refine Am ?_ (by size_fits);simp only[raiseNew];refine A0 (wpAny_handled ?_);rw[show A.in1.handled=none from hh];refine A0 (A3 (wpAny_throw ?_));refine A0 (Bj (T:="StopIteration") (b:=true) ⟨_,AB _ rfl,rfl⟩ isSubtype_stop ?_);exact A3 (hQ _ (((BE ..).extBut.push _).push _))
theorem ER (hh:A.handled=none) (I d:Qo) (LD:d≠I) (K5:o.data= .dict es ep):
  Walks prog w A I [I,d] [I] es.size (fun i v=>∃e,es[i]? =some e/\v=e.val) (fun i h=>h.IsValIter I d i es.size ep/\h.get? d=some o) where
 sub:=fun b hb=>by simp at hb;simp[hb]
 frame:=fun _ _ _ st hk=>⟨st.1.at fun o e=>hk I (by simp) o e,hk d (by simp) _ st.2⟩
 item:=fun i s Q E hi st hQ=>EO st.1 st.2 K5 (AZ hi) fun h' Ms MC=>hQ _ h' s.toks ⟨_,AZ hi,rfl⟩ ⟨Ms,MC.extBut d _ LD st.2⟩ fun b o hb e=>MC.extBut b o (fun h=>hb (by simp[h])) e
 done:=fun s Q E st hQ=>EQ hh st.1 st.2 K5 (A' _) fun h' MW=>hQ h' s.toks fun b o hb e=>MW b o (fun h=>hb (by simp[h])) e
 self:=fun _ _ _ _ st hQ=>wpAny_pyIter_valiter st.1 hQ
theorem tS (ns:Qt Int):∀k,k<=ns.length->preSum (fun i=>ns.getD i 0) k=(ns.take k).sum
 |0,_=>by simp[preSum]
 |k+1,h=>by
  have hk:k<ns.length:=by lia
  have g:ns.getD k 0=ns[k]:=by simp[List.getD,hk]
  rw[preSum,tS ns k (by lia),AK,A2 hk,CA];show _+ns.getD k 0=_+[ns[k]].sum;rw[g];simp
end
theorem j4 {α β:Type}{R:α->β->Prop}:∀{xs:Qt α}{ys:Qt β}{i:Nat}{x:α},Paired R xs ys->xs[i]? =some x->∃y,ys[i]? =some y/\R x y
 |_,_,i,x, .nil,h=>by simp at h
 |_,_,0,x, .cons r _,h=>by simp at h;subst h;exact⟨_,rfl,r⟩
 |_,_,i+1,x, .cons _ t,h=>by simp at h;obtain⟨y,e,r⟩:=j4 t h;exact⟨y,by simpa using e,r⟩
def Itk (d:Qo) (o:Obj) (kvs:Qt (Qt Key×V)):It:=
 ⟨fun i H=>H d=some (.frz o (.dT kvs))/\i<kvs.length,fun i H x H'=>H'=H/\∃b k v,x= .ref b/\kvs[i]? =some (k,v)/\H b=some (.tup (k.map kV)),fun i H=>H d=some (.frz o (.dT kvs))/\kvs.length<=i⟩
inductive iDict_ (R:(It->Hp->Prop)) (x:V) (H1:Hp):Prop
 |mk (d:Addr) (kvs:List (List Key×V)):x= .ref d->Rd H1 d (.dT kvs)->(∀(o:Obj) (H2:Hp),H2 d=some (.frz o (.dT kvs))->(∀b,b≠d->H2 b=H1 b)->R (Itk d o kvs) H2)->iDict_ R x H1
def ES (td:TE):TI:=fun σ H R=>td σ H fun x H1=>iDict_ R x H1
theorem ET {K:W.Frag}{tg:Qu} (d it:Qo) (o:Obj) (kvs:Qt (Qt Key×V)) (ep:Nat) (hep:∀Lo Mp,o.data= .dict Lo Mp->Mp=ep):Turn P w K tg (Itk d o kvs) [it] it (fun i h=>h.IsKeyIter it d i kvs.length ep) where
 mem:=by simp
 obj:=fun i h st b hb=>by
  have e:b=it:=by simpa using hb
  subst e;obtain⟨o,e,c,d⟩:=st;exact⟨o,e,fun v z=>by rw[d] at z;cases z⟩
 keep:=fun i h h' st k=>st.at fun o e=>k it (by simp) o e
 item:=by
  intro X hP hw hK hc i KO s σ H E I hf st hg;subst hP hw hK;obtain⟨hq,hi⟩:=hg;obtain⟨ho,z,y,xs,K2,o',es,Mp,h1,h2,h3,h4,h5⟩:=(show aD X.prog X.w H s.heap d (.frz o (.dT kvs)) from I.hok d _ hq);obtain rfl:o=o':=Ac (ho.symm.trans h1);obtain rfl:Mp=ep:=hep _ _ h3;have hx:kvs[i]? =some kvs[i]:=A2 hi;obtain⟨q,hq1,e1,e2,e3⟩:=j4 K2 hx;have hsz:es.size=kvs.length:=by rw[<-Ao,h4,A1,<-BL K2]
  have he:es[i]? =some (entryOfKey (tupleKind (bT X.prog X.w)) q):=by rw[<-BK,h4,AC,hq1];rfl
  obtain⟨f0,f1,f2,f3,f4,f5⟩:=hf it (by simp);rw[<-hsz] at st;refine mM st ho h3 he fun h' Lg sb=> ?_;have I1:Inv X KO σ H {s with heap:=h'}:=I.turned (t':=s.toks) (fun b o hb e=>(sb.2 b hb).trans e) f0 f1 f3 f4 f5;obtain⟨oo,e,c,d'⟩:=id Lg;rw[hsz] at Lg;exact⟨_,rfl,go_of (s:={s with heap:=h'}) e c d' (by decide) ⟨.ref q.2.1,H,I1,rfl,⟨rfl,q.2.1,kvs[i].1,kvs[i].2,rfl,hx,e2⟩,Lg,fun b hb=>(hf b hb).1⟩⟩
 done:=by
  intro X hP hw hK hc i KO s σ H E I hf st hg;subst hP hw hK;obtain⟨hq,hi⟩:=hg;obtain⟨ho,z,y,xs,K2,o',es,Mp,h1,h2,h3,h4,h5⟩:=(show aD X.prog X.w H s.heap d (.frz o (.dT kvs)) from I.hok d _ hq);obtain rfl:o=o':=Ac (ho.symm.trans h1);obtain rfl:Mp=ep:=hep _ _ h3;have hsz:es.size=kvs.length:=by rw[<-Ao,h4,A1,<-BL K2]
  obtain⟨f0,f1,f2,f3,f4,f5⟩:=hf it (by simp);rw[<-hsz] at st;exact mN (I.ok.hd hc) st ho h3 (by lia) fun h' eb=>⟨rfl,I.turned (t':=s.toks) (fun b o hb e=>eb b o hb e) f0 f1 f3 f4 f5⟩
 self:=fun _ _ _ _ _ st h=>wpAny_pyIter_keyiter st h
section
variable {X:Cx}{tg:Qu}
theorem EU {h:Qv}(q:aD P w H h d (.dT kvs)) (k:∀b ys,H b=some (.tup ys)->H' b=some (.tup ys)):aD P w H' h d (.dT kvs):=by
 obtain⟨z,y,xs,K2,r⟩:=q;exact⟨z,y,xs,KT.keeps K2 fun c ys ec=>k c ys ec,r⟩
theorem EV {l:Qu}{tl:TE} (hl:PE X l tl):PI X tg l (ES tl):=by
 intro KO s σ H R I h;refine thn (hl KO s σ H _ I h) fun v s1 ⟨x,H1,I1,r1,q1⟩=> ?_;obtain⟨d,kvs,rfl,hq,q⟩:=q1;cases r1;have NS:aD X.prog X.w H1 s1.heap d (.dT kvs):=iM I1.hok hq;obtain⟨z,y,xs,K2,o,es,ep,h1,h2,h3,h4,h5⟩:=id NS;have hsz:es.size=kvs.length:=by rw[<-Ao,h4,A1,<-BL K2]
 obtain⟨H2,I2,e2,k2⟩:∃H2,Inv X KO σ H2 s1/\H2 d=some (.frz o (.dT kvs))/\∀b,b≠d->H2 b=H1 b:=by
  rcases hq with hq|⟨o',hq⟩
  .exact⟨_,gG (t':=s1.toks) I1 (by rw[hq];exact True.intro) (Heap.SameBut.refl _ _) ⟨o,h1⟩ (show aD X.prog X.w (upd H1 d (.frz o (.dT kvs))) s1.heap d (.frz o (.dT kvs)) from⟨h1,EU NS fun b ys e=>by rw[ar (lG e hq (fun z=>nomatch z))];exact e⟩),al,fun b hb=>ar hb⟩
  .obtain⟨Lr,_⟩:=(show aD X.prog X.w H1 s1.heap d (.frz o' (.dT kvs)) from I1.hok d _ hq);obtain rfl:o'=o:=Ac (Lr.symm.trans h1);exact⟨H1,I1,hq,fun _ _=>rfl⟩
 refine mL y h1 h2 h3 ?_;rw[hsz];refine⟨s1.heap.objs.size,[s1.heap.objs.size],_,_,_,rfl,I2.kept (t':=s1.toks) fun b o e=>A4 _ e,ET d _ o kvs ep (fun Lo Mp e=>by rw[h3] at e;cases e;rfl),⟨_,AB _ rfl,rfl,rfl⟩,fun b hb=> ?_,q o H2 e2 k2⟩;have e:b=s1.heap.objs.size:=by simpa using hb
 subst e;exact I2.fpOk (A' _) (I2.hok.fresh (A' _))
theorem EW {g:TG}{tb:TS}{D:Ends}{σ:St}(Pv:Nat->St->Hp->Prop) (h0:Pv 0 σ H) (hl:∀i σ H,i<=kvs.length->Pv i σ H->H d=some (.frz o (.dT kvs)))
  (hs:∀i k v b σ H,kvs[i]? =some (k,v)->Pv i σ H->H b=some (.tup (k.map kV))->g (.ref b) σ H fun σ2 H2=>tb (eLp D (Pv (i+1))) σ2 H2) (hd:∀σ H,Pv kvs.length σ H->D.nx σ H):
  ∃Wq:Nat->Nat->St->Hp->Prop,(∃m,Wq 0 m σ H)/\∀i m σ H,Wq i m σ H->
   ((Itk d o kvs).stop i H/\D.nx σ H)\/((Itk d o kvs).go i H/\∃N:St->Hp->Prop,(∀σ' H',N σ' H'->∃m',m'<m/\Wq (i+1) m' σ' H')/\∀x H',(Itk d o kvs).yld i H x H'->g x σ H' fun σ2 H2=>tb (eLp D (N)) σ2 H2):=by
 refine⟨fun i m σ H=>m=kvs.length-i/\i<=kvs.length/\Pv i σ H,⟨kvs.length,by simp,AL _,h0⟩, ?_⟩;rintro i m σ H ⟨rfl,hi,p⟩;have q:=hl i σ H hi p;by_cases KU:i<kvs.length
 .refine .inr ⟨⟨q,KU⟩,Pv (i+1),fun σ' H' p'=>⟨kvs.length-(i+1),by lia,rfl,KU,p'⟩, ?_⟩;rintro x H' ⟨rfl,b,k,v,rfl,e,hb⟩;exact hs i k v b σ _ e p hb
 .obtain rfl:i=kvs.length:=by lia
  exact .inl ⟨⟨q,A' _⟩,hd σ H p⟩
def EX (tk tv:TE):TE:=fun σ H Q=>∀p,H p=none->tk σ (upd H p (.dT [])) fun x H1=>tv σ H1 fun y H2=>H2 p=some (.dT [])/\∃k b,x= .ref b/\H2 b=some (.tup (k.map kV))/\Q (.ref p) (upd H2 p (.dT (aR [] k y)))
theorem EY {ek ev:Qu}{tk tv:TE}{pos:Pos} (hu:X.A.units+1<cLine) (hk:PE X ek tk) (hv:PE X ev tv):PE X (.Dict [some ek] [ev] pos) (EX tk tv):=by
 intro KO s σ H Q I q;have hn:=I.hok.fresh (A' s.heap.objs.size);have I1:=I.laid (a:=s.heap.objs.size) (o:= .dT []) (h':=s.heap.push {cls:= .type "dict",data:= .dict #[]}) (t':=s.toks) (fun _ _ q=>A4 _ q) (A' _) (rA s.heap I.big);rw[arm_eval_Dict,zip_pairTrees [some ek] [ev] X.env pos rfl rfl,dictDisplay_pairs (pairTrees [some ek] [ev] X.env pos) (by intro z;cases z) (show 1<17 by decide)];refine A0 (wpAny_standAt (A0 ?_));unfold subDict;refine A0 (wpAny_alloc ?_);refine A0 (Ar ?_);rw[A7 (show(pairTrees [some ek] [ev] X.env pos).length<=15 from(by decide:1<=15))];refine A0 (pairTrees_cons_walk (thn (hk KO _ σ _ _ I1 (q _ hn)) fun u s1 ⟨x,H1,I2,rx,q1⟩=>thn (hv KO s1 σ H1 _ I2 q1) fun w2 s2 ⟨y,H2,I3,ry,e,k,b,ex,eb,q2⟩=>pairTrees_nil_walk ?_));subst ex;cases (show u=Value.ref b from rx);obtain⟨z,hd,xs,K2,dd⟩:=rp I3.hok e;cases K2;refine wpAny_holding (wpAny_bind ?_);rw[List.forIn_cons];dsimp only;refine A0 (A0 (wpAny_dictSet_heap (knd:=tupleKind (bT X.prog X.w)) (show X.A.units<cLine by lia) (iN I3.hok eb) dd (fun h' Oj hs=>A3 ?_) (AL _)));dsimp only;rw[List.forIn_nil];refine wpAny_pure (wpAny_pure (wpAny_pure (wpAny_pure ?_)));obtain⟨o,es,ep,hq,h2,h3,h4,_,h5⟩:=Oj;refine⟨.ref s.heap.objs.size,_,gG I3 (by rw[e];exact True.intro) hs ⟨o,hq⟩ (show aD X.prog X.w (upd H2 s.heap.objs.size (.dT (aR [] k y))) h' s.heap.objs.size (.dT (aR [] k y)) from⟨(by show 1<=sizeLine;decide),hd,_,KT.keeps (KT.put .nil k eb ry) fun c ys ec=> ?_,o,es,ep,hq,h2,h3,h4,h5⟩),rfl,q2⟩;rw[ar (lG ec e (fun z=>nomatch z))];exact ec
inductive tSumV_ (Q:VK) (x:V) (H1:Hp):Prop
 |mk (d:Addr) (kvs:List (List Key×V)) (ns:List Int):x= .ref d->Rd H1 d (.dT kvs)->kvs.map (·.2)=ns.map V.int->Q (.int ns.sum) H1->tSumV_ Q x H1
def EZ (td:TE):TE:=fun σ H Q=>td σ H fun x H1=>tSumV_ Q x H1
theorem E1 {e:Qu}{td:TE}{p Li K3 pos:Pos} (hc:X.calm=true) (hg:Gl X "sum") (hm:X.mg "sum"=none) (he:PE X e td)
  (Oz:starEach [Expr.Call (.Attribute e "values" Li) [] [] K3] X.env=(false,eval (Expr.Call (.Attribute e "values" Li) [] [] K3) X.env)::starEach [] X.env:=by rfl)
  (NK:attributeBase e "values" X.env (eval e X.env)=eval e X.env:=by rfl) (NL:(Li.endLine==K3.line)=true:=by rfl):
  PE X (.Call (.Name "sum" p) [.Call (.Attribute e "values" Li) [] [] K3] [] pos) (EZ td):=by
 intro KO s σ H Q I h;refine Be (cQ I hg hm (by first|exact boot_sum|rfl|ac_nf) ?_ (by decide) (by decide));refine DB ?_ Oz (by rfl);rw[Oz];show wpAny _ _ (spliced ((false,eval (Expr.Call (.Attribute e "values" Li) [] [] K3) X.env)::backTo pos (starEach [] X.env))) _ _ s;refine Ca ?_;refine wpAny_Call_method0_late NK NL (thn (he KO s σ H _ I h) fun v s1 ⟨x,H1,I1,r1,q1⟩=> ?_);obtain⟨d,kvs,ns,rfl,hrd,hns,q⟩:=q1;cases r1;obtain⟨hT,Md,hsys⟩:=rB I1 (.inr ⟨kvs,hrd⟩);obtain⟨z,y,xs,K2,o,es,ep,h1,h2,h3,h4,h5⟩:=(show aD X.prog X.w H1 s1.heap d (.dT kvs) from iM I1.hok hrd);refine⟨"dict","dict.values",PySem.F.plainAttrs_dict,PySem.F.slot_dict_values,PySem.F.type_dict_values,hT,Md,Calls.callWith_builtin rfl (PySem.evalArgs_none (EM hsys h1 h2 (A3 ?_)))⟩;show wpAny _ _ (call (.builtin "sum") [.ref s1.heap.objs.size]) _ _ _;have h1':(s1.heap.push {cls:= .type "dict_values",data:= .fields #[.ref d]}).get? d=some o:=A4 _ h1;have hdl:d<s1.heap.objs.size:=AM h1;have hsz:es.size=kvs.length:=by rw[<-Ao,h4,A1,<-BL K2]
 have hnl:ns.length=kvs.length:=by have:=BU List.length hns;simpa using this.symm
 refine call_sum_walkAnyS (EN (s:={s1 with heap:=s1.heap.push {cls:= .type "dict_values",data:= .fields #[.ref d]}}) ⟨_,AB _ rfl,rfl,rfl⟩ h1' h3 ?_);refine⟨_,_,_,_,_,_,_,fun i=>ns.getD i 0,rfl,(ER (A:=X.A.in1) (I.ok.hd hc) (s1.heap.push {cls:= .type "dict_values",data:= .fields #[.ref d]}).objs.size d (by rw[An];exact AO (Al hdl)) h3).toS,⟨⟨_,AB _ rfl,rfl,rfl⟩,A4 _ h1'⟩, ?_, ?_, ?_⟩
 .intro b hb;simp only[AI,As,Bu] at hb;rcases hb with rfl|rfl
  .show _<(Heap.push (s1.heap.push _) _).objs.size;rw[An (s1.heap.push _)];exact BN _
  .show _<(Heap.push (s1.heap.push _) _).objs.size;rw[An,An];exact Al (Al hdl)
 .rintro i v ⟨e,hei,rfl⟩;rw[<-BK,h4,AC] at hei;obtain⟨q',hq',rfl⟩:=AR.mp hei;have hi:i<kvs.length:=by rw[BL K2];exact(A8.mp hq').1
  obtain⟨q2,hq2,e1,e2,e3⟩:=j4 K2 (A2 hi);rw[hq'] at hq2;cases hq2;have:kvs[i].2=V.int (ns.getD i 0):=by
   have z1:(kvs.map (·.2))[i]? =some kvs[i].2:=by rw[AC,A2 hi];rfl
   rw[hns,AC,A2 (by lia)] at z1;simp only[Option.map_some,Option.some.injEq] at z1;rw[<-z1,A9,A2 (by lia)];rfl
  rw[this] at e3;exact e3
 .intro s' t' hm';obtain⟨h',g',d',tk',Pu⟩:=s';have eg:g'=s1.gens:=hm'.gens;have ed:d'=s1.drawn:=hm'.drawn;have eo:Pu=s1.os:=hm'.os;subst eg;subst ed;subst eo;have es:preSum (fun i=>ns.getD i 0) es.size=ns.sum:=by rw[hsz,<-hnl,tS ns ns.length (A' _),AF]
  rw[es];refine⟨.int ns.sum,H1,I1.kept fun b o e=>hm'.heap b o (fun hb=> ?_) (A4 _ (A4 _ e)),⟨t',rfl⟩,q⟩;simp only[AI,As,Bu] at hb;have:=AM e;rw[hb,An] at this;exact absurd this (Nat.not_lt.mpr (D0 _))
end
section
variable {X:Cx}
theorem mO:OpR X (binaryOp .Add) (fun x y H Q=>∃xs ys,Is H (.t xs) x/\Is H (.t ys) y/\xs.length+ys.length<=sizeLine/\∀v H2,ae H H2->Is H2 (.t (xs++ys)) v->Q v H2):=by
 intro KO s σ H x y v u Q I rx ry h;obtain⟨xs,ys,hx,hy,hz,q⟩:=h;obtain⟨a,vs,rfl,ha,ra⟩:=bn hx;obtain⟨b,ws,rfl,hb,rb⟩:=bn hy;have l1:=ra.length;have l2:=rb.length;by_cases h1:vs=[]
 .subst h1;have hx0:xs=[]:=Br.mp (by rw[<-l1];rfl);subst hx0;cases rx;cases ry;obtain⟨KQ,r1,p1,_⟩:=I.tuple (SqT.of (K:=X.K) ha);obtain⟨Mq,r2,p2,_⟩:=I.tuple (SqT.of (K:=X.K) hb);cases r1;obtain⟨⟨cls,dd,data,sl⟩,ho,hc,n,hd⟩:=p1;obtain⟨⟨NJ,Mg,data2,Mh⟩,LK,LO,n2,LW⟩:=p2;simp only at hc hd LO LW;subst hc hd LO LW;exact concat_meets ⟨_,ho,rfl⟩ ⟨_,LK,rfl⟩ noFill_tuple_add seq_tuple_add PySem.F.slot_tuple_add PySem.F.entry_tuple_add (PySem.F.args_tuple_add_2 _ _) (tuple_addW0 a b _ _ n n2 dd Mg sl Mh (by simp)) ⟨ho,LK,⟨.ref b,H,I,rfl,q _ H (ae.refl H) hy⟩⟩
 .refine yZ KO s σ H (.ref a) (.ref b) v u Q I rx ry ⟨a,b,vs,ws,rfl,rfl,SqT.of ha,SqT.of hb,h1,by lia,fun e=> ?_,fun _ p np=> ?_⟩
  .have:ys=[]:=Br.mp (by rw[<-l2,e];rfl);subst this;exact q _ H (ae.refl H) (by rw[B5];exact hx)
  .exact q _ _ (ae.new np) (bd al ((ra.append rb).mono (ae.new np)))
theorem tT:SlR X (fun x lo hi H Q=>∃xs MK,Is H (.t xs) x/\(∀(H':Hp) (vs:Qt V),Iss H' xs vs->Iss H' MK (cc vs lo hi))/\(∀vs:Qt V,vs.length=xs.length->(HT.sIx vs.length 0 lo=0/\HT.sIx vs.length vs.length hi=vs.length)->MK=xs)/\∀v H2,ae H H2->Is H2 (.t MK) v->Q v H2):=by
 intro KO s σ H x v vl vu lo hi sl Q I rx hs pl pu h;obtain⟨xs,MK,hx,hc,hw,q⟩:=h;obtain⟨a,vs,rfl,ha,ra⟩:=bn hx;refine Eh KO s σ H (.ref a) v vl vu lo hi sl Q I rx hs pl pu ⟨a,vs,rfl,SqT.of ha,fun e=> ?_,fun e p np=> ?_⟩
 .have:=hw vs ra.length e;subst this;exact q _ H (ae.refl H) hx
 .exact q _ _ (ae.new np) (bd al ((hc _ _ ra).mono (ae.new np)))
end
def LTS (H H':Hp):Prop:=(∀b xs,H b=some (.lst xs)->H' b=some (.lst xs))/\∀b xs,H b=some (.tup xs)->H' b=some (.tup xs)
theorem LTS.dict {o:HO} (h:H d=some (.dT kvs)):LTS H (upd H d o):=
 ⟨fun b xs e=>by rw[ar (by rintro rfl;rw[h] at e;cases e)];exact e,fun b xs e=>by rw[ar (by rintro rfl;rw[h] at e;cases e)];exact e⟩
theorem LTS.rd (h:Rd H d (.dT kvs)) (k:∀b,b≠d->H' b=H b):LTS H H':=by
 have nd:∀b o,H b=some o->(∀kvs,o≠ .dT kvs)->(∀ob u,o≠ .frz ob u)->b≠d:=by
  rintro b o e n1 n2 rfl;rcases h with h|⟨ob,h⟩
  .rw [h] at e;cases e;exact n1 _ rfl
  .rw [h] at e;cases e;exact n2 _ _ rfl
 exact⟨fun b xs e=>by rw[k b (nd b _ e (fun _ z=>nomatch z) fun _ _ z=>nomatch z)];exact e,fun b xs e=>by rw[k b (nd b _ e (fun _ z=>nomatch z) fun _ _ z=>nomatch z)];exact e⟩
mutual
theorem Is.lts {H H':Hp} (s:LTS H H'):∀{d:D}{v:V},Is H d v->Is H' d v
 | .i _,_,h=>by rw[aE h];exact bq
 | .l xs,_,h=>by
  obtain⟨a,vs,e,q,r⟩:=az h;rw[e];exact aB (s.1 _ _ q) (Iss.lts s r)
 | .t xs,_,h=>by
  obtain⟨a,vs,e,q,r⟩:=bn h;rw[e];exact bd (s.2 _ _ q) (Iss.lts s r)
theorem Iss.lts {H H':Hp} (s:LTS H H'):∀{xs:Qt D}{vs:Qt V},Iss H xs vs->Iss H' xs vs
 |[],_,h=>by rw[bi h];exact ao
 |x::xs,_,h=>by
  obtain⟨u,us,e,q,r⟩:=aK h;rw[e];exact ak (Is.lts s q) (Iss.lts s r)
end
theorem E3 {k:Key}{v:NR} (h:fm k v=true):aw (kV k) v:=by
 rcases dY h with⟨i,t,rfl,rfl⟩|⟨x,t,rfl,rfl⟩
 .exact⟨t,rfl⟩
 .exact⟨t,rfl⟩
theorem j5 {P:Qp}{w:Qr}:∀{es:Qt DictEntry}{vs:Qt (Key×NR)},Pairs (bT P w) es vs->es.length=vs.length
 |_,_, .nil=>rfl
 |_,_, .cons _ _ t=>by rw[AT,AT,j5 t]
theorem tU {P:Qp}{w:Qr}:∀{es:Qt DictEntry}{vs:Qt (Key×NR)}{i:Nat}{x:Key×NR},Pairs (bT P w) es vs->vs[i]? =some x->∃e,es[i]? =some e/\fm x.1 e.key=true
 |_,_,i,x, .nil,h=>by simp at h
 |_,_,0,x, .cons k _ _,h=>by simp at h;subst h;exact⟨_,rfl,k⟩
 |_,_,i+1,x, .cons _ _ t,h=>by simp at h;obtain⟨e,q,r⟩:=tU t h;exact⟨e,by simpa using q,r⟩
def Iti (d:Qo) (o:Obj) (kvs:Qt (Key×V)):It:=
 ⟨fun i H=>H d=some (.frz o (.dK kvs))/\i<kvs.length,fun i H x H'=>H'=H/\∃k v,x=kV k/\kvs[i]? =some (k,v),fun i H=>H d=some (.frz o (.dK kvs))/\kvs.length<=i⟩
inductive iDictI_ (R:(It->Hp->Prop)) (x:V) (H1:Hp):Prop
 |mk (d:Addr) (kvs:List (Key×V)):x= .ref d->Rd H1 d (.dK kvs)->(∀(o:Obj) (H2:Hp),H2 d=some (.frz o (.dK kvs))->(∀b,b≠d->H2 b=H1 b)->R (Iti d o kvs) H2)->iDictI_ R x H1
def E4 (td:TE):TI:=fun σ H R=>td σ H fun x H1=>iDictI_ R x H1
theorem E5 {P:Qp}{w:Qr}{K:W.Frag}{tg:Qu} (d it:Qo) (o:Obj) (kvs:Qt (Key×V)) (ep:Nat) (hep:∀Lo Mp,o.data= .dict Lo Mp->Mp=ep):Turn P w K tg (Iti d o kvs) [it] it (fun i h=>h.IsKeyIter it d i kvs.length ep) where
 mem:=by simp
 obj:=fun i h st b hb=>by
  have e:b=it:=by simpa using hb
  subst e;obtain⟨o,e,c,d⟩:=st;exact⟨o,e,fun v z=>by rw[d] at z;cases z⟩
 keep:=fun i h h' st k=>st.at fun o e=>k it (by simp) o e
 item:=by
  intro X hP hw hK hc i KO s σ H E I hf st hg;subst hP hw hK;obtain⟨hq,hi⟩:=hg;obtain⟨ho,z,y,vs,K2,o',es,Mp,h1,h2,h3,hk,h4,h5⟩:=(show aD X.prog X.w H s.heap d (.frz o (.dK kvs)) from I.hok d _ hq);obtain rfl:o=o':=Ac (ho.symm.trans h1);obtain rfl:Mp=ep:=hep _ _ h3;have hx:kvs[i]? =some kvs[i]:=A2 hi;obtain⟨q,hq1,e1,e2⟩:=j4 K2 hx;obtain⟨en,MW,Ov⟩:=tU h4 hq1;have hsz:es.size=kvs.length:=by rw[<-Ao,j5 h4,<-BL K2]
  have he:es[i]? =some en:=by rw[<-BK];exact MW
  obtain⟨f0,f1,f2,f3,f4,f5⟩:=hf it (by simp);rw[<-hsz] at st;refine mM st ho h3 he fun h' Lg sb=> ?_;have I1:Inv X KO σ H {s with heap:=h'}:=I.turned (t':=s.toks) (fun b o hb e=>(sb.2 b hb).trans e) f0 f1 f3 f4 f5;obtain⟨oo,e,c,d'⟩:=id Lg;rw[hsz] at Lg;rw[<-e1] at Ov;exact⟨_,rfl,go_of (s:={s with heap:=h'}) e c d' (by decide) ⟨kV kvs[i].1,H,I1,E3 Ov,⟨rfl,kvs[i].1,kvs[i].2,rfl,hx⟩,Lg,fun b hb=>(hf b hb).1⟩⟩
 done:=by
  intro X hP hw hK hc i KO s σ H E I hf st hg;subst hP hw hK;obtain⟨hq,hi⟩:=hg;obtain⟨ho,z,y,vs,K2,o',es,Mp,h1,h2,h3,hk,h4,h5⟩:=(show aD X.prog X.w H s.heap d (.frz o (.dK kvs)) from I.hok d _ hq);obtain rfl:o=o':=Ac (ho.symm.trans h1);obtain rfl:Mp=ep:=hep _ _ h3;have hsz:es.size=kvs.length:=by rw[<-Ao,j5 h4,<-BL K2]
  obtain⟨f0,f1,f2,f3,f4,f5⟩:=hf it (by simp);rw[<-hsz] at st;exact mN (I.ok.hd hc) st ho h3 (by lia) fun h' eb=>⟨rfl,I.turned (t':=s.toks) (fun b o hb e=>eb b o hb e) f0 f1 f3 f4 f5⟩
 self:=fun _ _ _ _ _ st h=>wpAny_pyIter_keyiter st h
section
variable {X:Cx}{tg:Qu}
theorem mP {l:Qu}{tl:TE} (hl:PE X l tl):PI X tg l (E4 tl):=by
 intro KO s σ H R I h;refine thn (hl KO s σ H _ I h) fun v s1 ⟨x,H1,I1,r1,q1⟩=> ?_;obtain⟨d,kvs,rfl,hq,q⟩:=q1;cases r1;have NS:aD X.prog X.w H1 s1.heap d (.dK kvs):=iM I1.hok hq;obtain⟨z,y,vs,K2,o,es,ep,h1,h2,h3,hk,h4,h5⟩:=id NS;have hsz:es.size=kvs.length:=by rw[<-Ao,j5 h4,<-BL K2]
 obtain⟨H2,I2,e2,k2⟩:∃H2,Inv X KO σ H2 s1/\H2 d=some (.frz o (.dK kvs))/\∀b,b≠d->H2 b=H1 b:=by
  rcases hq with hq|⟨o',hq⟩
  .exact⟨_,gG (t':=s1.toks) I1 (by rw[hq];exact True.intro) (Heap.SameBut.refl _ _) ⟨o,h1⟩ (show aD X.prog X.w (upd H1 d (.frz o (.dK kvs))) s1.heap d (.frz o (.dK kvs)) from⟨h1,NS⟩),al,fun b hb=>ar hb⟩
  .obtain⟨Lr,_⟩:=(show aD X.prog X.w H1 s1.heap d (.frz o' (.dK kvs)) from I1.hok d _ hq);obtain rfl:o'=o:=Ac (Lr.symm.trans h1);exact⟨H1,I1,hq,fun _ _=>rfl⟩
 refine mL y h1 h2 h3 ?_;rw[hsz];refine⟨s1.heap.objs.size,[s1.heap.objs.size],_,_,_,rfl,I2.kept (t':=s1.toks) fun b o e=>A4 _ e,E5 d _ o kvs ep (fun Lo Mp e=>by rw[h3] at e;cases e;rfl),⟨_,AB _ rfl,rfl,rfl⟩,fun b hb=> ?_,q o H2 e2 k2⟩;have e:b=s1.heap.objs.size:=by simpa using hb
 subst e;exact I2.fpOk (A' _) (I2.hok.fresh (A' _))
theorem mQ {d:Qo}{o:Obj}{kvs:Qt (Key×V)}{g:TG}{tb:TS}{D:Ends}{σ:St}{H:Hp} (Pv:Nat->St->Hp->Prop) (h0:Pv 0 σ H) (hl:∀i σ H,i<=kvs.length->Pv i σ H->H d=some (.frz o (.dK kvs)))
  (hs:∀i k v σ H,kvs[i]? =some (k,v)->Pv i σ H->g (kV k) σ H fun σ2 H2=>tb (eLp D (Pv (i+1))) σ2 H2) (hd:∀σ H,Pv kvs.length σ H->D.nx σ H):
  ∃Wq:Nat->Nat->St->Hp->Prop,(∃m,Wq 0 m σ H)/\∀i m σ H,Wq i m σ H->
   ((Iti d o kvs).stop i H/\D.nx σ H)\/((Iti d o kvs).go i H/\∃N:St->Hp->Prop,(∀σ' H',N σ' H'->∃m',m'<m/\Wq (i+1) m' σ' H')/\∀x H',(Iti d o kvs).yld i H x H'->g x σ H' fun σ2 H2=>tb (eLp D (N)) σ2 H2):=by
 refine⟨fun i m σ H=>m=kvs.length-i/\i<=kvs.length/\Pv i σ H,⟨kvs.length,by simp,AL _,h0⟩, ?_⟩;rintro i m σ H ⟨rfl,hi,p⟩;have q:=hl i σ H hi p;by_cases KU:i<kvs.length
 .refine .inr ⟨⟨q,KU⟩,Pv (i+1),fun σ' H' p'=>⟨kvs.length-(i+1),by lia,rfl,KU,p'⟩, ?_⟩;rintro x H' ⟨rfl,k,v,rfl,e⟩;exact hs i k v σ _ e p
 .obtain rfl:i=kvs.length:=by lia
  exact .inl ⟨⟨q,A' _⟩,hd σ H p⟩
inductive rDictOf (vs:List V) (H:Hp) (Q:VK):Prop
 |mk (a:Addr) (kvs:List (Key×V)):vs=[.ref a]->Rd H a (.dK kvs)->(∀p,H p=none->Q (.ref p) (upd H p (.dK kvs)))->rDictOf vs H Q
theorem E6:bL X (.type "dict") rDictOf:=by
 intro KO s σ H xs us Q I r ⟨a,kvs,ex,ha,q⟩;subst ex;cases r with
 |cons r1 r2=>
  cases r2;cases r1;exact zF I ha fun p s' np I'=>⟨.ref p,_,I',rfl,q p np⟩
end
section
variable {prog:Qp}{w:Qr}{K:Type} [DecidableEq K] {knd:KeyKind prog w K}
inductive ItemsT (knd:KeyKind prog w K) (h:Heap):List (List K)->List Value->Prop
 |nil:ItemsT knd h [] []
 |cons {k:List K}{a:Addr}{ks:List (List K)}{vs:List Value}:IsTupleKey knd h k a->ItemsT knd h ks vs->ItemsT knd h (k::ks) (.ref a::vs)
def cM (knd:KeyKind prog w K) (h:Qv) (ks:Qt (Qt K)) (a:Qo):Prop:=∃o items n,h.get? a=some o/\o.cls= .type "tuple"/\o.data= .seq items n/\ItemsT knd h ks items.toList
theorem ItemsT.inj {h:Qv}{x y:Qt (Qt K)}{vs:Qt NR} (hx:ItemsT knd h x vs) (hy:ItemsT knd h y vs):x=y:=by
 induction hx generalizing y with
 |nil=>cases hy;rfl
 |cons h1 _ ih=>
  cases hy with
  |cons h2 t2=>rw[h1.inj h2,ih t2]
theorem ItemsT.keeps {h h':Qv}{x:Qt (Qt K)}{vs:Qt NR}{d:Qo}{o:Obj}{es ep} (hx:ItemsT knd h x vs) (ho:h.get? d=some o) (hd:o.data= .dict es ep) (hs:Heap.SameBut d h h'):ItemsT knd h' x vs:=by
 induction hx with
 |nil=>exact .nil
 |cons h1 _ ih=>exact .cons (h1.keeps ho hd hs) ih
def cM.typeIs {s:Qn}{ks:Qt (Qt K)}{a:Qo} (x:cM knd s.heap ks a):s.TypeIs (.ref a) "tuple":=let ⟨o,_,_,ho,hc,_⟩:=x;⟨o,ho,hc⟩
theorem cM.inj {h:Qv}{a:Qo}{x y:Qt (Qt K)} (hx:cM knd h x a) (hy:cM knd h y a):x=y:=by
 obtain⟨o,items,n,ho,_,hd,hi⟩:=hx;obtain⟨o',PX,n',Lr,_,LU,LP⟩:=hy;obtain rfl:o=o':=Ac (ho.symm.trans Lr);rw[hd] at LU;injection LU with h1 _;subst h1;exact hi.inj LP
theorem cM.keeps {h h':Qv}{ks:Qt (Qt K)}{a d:Qo}{o:Obj}{es ep} (x:cM knd h ks a) (ho:h.get? d=some o) (hd:o.data= .dict es ep) (hs:Heap.SameBut d h h'):cM knd h' ks a:=by
 obtain⟨o',items,n,Lr,hc,LU,hi⟩:=x;have LD:a≠d:=by
  rintro rfl;obtain rfl:o'=o:=Ac (Lr.symm.trans ho);rw[hd] at LU;exact nomatch LU
 exact⟨o',items,n,(hs.2 a LD).trans Lr,hc,LU,hi.keeps ho hd hs⟩
def mR (knd:KeyKind prog w K) (ks:Qt (Qt K)):Int:=reduceHash (Builtin.Tuple.tupleHashOf (ks.map (tupleKeyHash knd)))
def mS (ks:Qt (Qt K)):Nat:=(ks.map fun k=>k.length+1).sum+1
variable {A:Qs}{E:NR->Qn->Prop}{s:Qn}
theorem E7 {ks:Qt (Qt K)}{a:Qo}{Q:Int->Qn->Prop} (hu:A.units+1<cLine) (hk:cM knd s.heap ks a) (h:Q (mR knd ks) {s with toks:=s.toks+mS ks}):
  wpAny (model prog w) A (pyHash (.ref a)) Q E s:=by
 have hT:=hk.typeIs;obtain⟨o,items,n,ho,_,hd,hi⟩:=hk;unfold pyHash;first|unfold pyHashByItsType|skip
 first|refine A0 (wpAny_cRoomFor_or (.inr (by lia)) ?_)|skip
 refine A0 (Bt hT Bx.lookup ?_);show wpAny _ _ (if(some (Value.builtin "tuple.__hash__")==some Value.none)=true then _ else _) Q E s;rw[A5 (by rw[beq_builtin_none];exact AV)];refine A0 (Bt hT Bx.lookup ?_);show wpAny _ _ (callSpecialIfBoundUnlessNone? (.ref a) "__hash__" _>>=_) Q E s;refine A0 (wpAny_callSpecialIfBoundUnlessNone?_slot hT Bx (Af Bx hT F.entry_tuple_hash ?_ (F.args_tuple_hash_1 _)));show wpAny _ _ (Builtin.Tuple.tupleItemsOf (.ref a)>>=_) _ _ s;refine A0 (CZ ho hd ?_);refine A0 ?_;rw[<-C9];refine BW _
  (fun aF (b:Array Int) s'=>∃done left,ks=done++left/\ItemsT knd s.heap left aF/\b.toList=done.map (tupleKeyHash knd)/\s'={s with toks:=s.toks+(done.map fun k=>k.length+1).sum})
  _ ?_ ?_ _ _ ⟨[],ks,rfl,hi,rfl,rfl⟩
 .rintro x aF b s' ⟨done,left,rfl,hl,hb,rfl⟩;cases hl with
  | @cons k a1 ks' _ h1 Nz=>
   refine A0 (wpAny_pyHash_tuple (knd:=knd) (ks:=k) (by first|exact hu|(rw[bU];lia)|(simp;lia)) h1 ?_);first
    |exact A3 ⟨done++[k],ks',by simp,Nz,by simp[hb],by simp[C5]⟩
    |exact A0 (A3 (A3 ⟨done++[k],ks',by simp,Nz,by simp[hb],by simp[C5]⟩))
 .rintro b s' ⟨done,left,rfl,hl,hb,rfl⟩;cases hl;rw[B5] at h;show wpAny _ _ (retInt (Builtin.Tuple.tupleHashOf b.toList)) _ _ _;rw[hb];refine wpAny_ret_mkInt ?_;show wpAny _ _ (if(decide (-(2:Int)^63<=Builtin.Tuple.tupleHashOf (done.map (tupleKeyHash knd)))&&decide (Builtin.Tuple.tupleHashOf (done.map (tupleKeyHash knd))<2^63))=true then _ else _) Q E _;unfold mR reduceHash mS at h;by_cases hr:(decide (-(2:Int)^63<=Builtin.Tuple.tupleHashOf (done.map (tupleKeyHash knd)))&&decide (Builtin.Tuple.tupleHashOf (done.map (tupleKeyHash knd))<2^63))=true
  .rw [A7 hr];rw[A7 hr] at h;exact A3 (by simpa[C5] using h)
  .rw [A5 hr];rw[A5 hr] at h;exact A0 (CP (A3 (by simpa[C5] using h)))
theorem E8 {x y:Qt (Qt K)}{a b:Qo}{P:Fin->Qn->Prop} (hu:A.units<cLine) (hx:cM knd s.heap x a) (hy:cM knd s.heap y b) (h:P (.done (.ret (.bool (decide (x=y))))) s):
  wpAny (model prog w) A (Builtin.«tuple.__eq__» ⟨[.ref a, .ref b],[]⟩) P E s:=by
 have hTb:=hy.typeIs;obtain⟨oa,xs,na,hoa,_,L4,hia⟩:=hx;obtain⟨ob,ys,nb,NS,_,NI,hib⟩:=hy;show wpAny _ _ (isInstance (.ref b) (.type "tuple")>>=_) _ _ s;refine A0 (Bj hTb Ch ?_);simp only[BF,AG,Ap];refine A0 (CZ hoa L4 ?_);refine A0 (CZ NS NI ?_);refine A0 ?_;refine BW _
  (fun aF r s'=>r.1=none/\s'=s/\∃x' y' MK NY,aF=List.zip MK NY/\ItemsT knd s.heap x' MK/\ItemsT knd s.heap y' NY/\decide (x'=y')=decide (x=y)/\(MK.length==NY.length)=(xs.size==ys.size))
  _ ?_ ?_ _ _ ⟨rfl,rfl,x,y,xs.toList,ys.toList,rfl,hia,hib,rfl,by simp⟩
 .rintro⟨u,v⟩ aF r s' ⟨hr,rfl,x',y',MK,NY,hz,K4,LQ,Ma,KS⟩;cases K4 with
  |nil=>simp at hz
  | @cons k1 a1 x'' xs'' h1 hx''=>
   cases LQ with
   |nil=>simp at hz
   | @cons k2 a2 Om ys'' h2 MZ=>
    simp only[DP,CC,DD] at hz;obtain⟨⟨rfl,rfl⟩,rfl⟩:=hz;refine A0 (wpAny_eqBool_tuple (knd:=knd) (x:=k1) (y:=k2) (by first|exact hu|(rw[bU];lia)|(simp;lia)) h1 h2 ?_);by_cases hk:k1=k2
    .subst hk;rw[At rfl];simp only[BF,AG,Ap];refine A3 ⟨rfl,rfl,x'',Om,xs'',ys'',rfl,hx'',MZ, ?_,by simpa using KS⟩;rw[<-Ma];by_cases O5:x''=Om
     .simp [O5]
     .simp [O5]
    .rw [Ae hk];simp only[Ce,C0];have hf:decide (x=y)=false:=by rw[<-Ma];simp[hk]
     rw[hf] at h;exact A0 (A3 (A3 (A3 h)))
 .rintro⟨r1,r2⟩ s' ⟨hr,rfl,x',y',MK,NY,hz,K4,LQ,Ma,KS⟩;simp only at hr;subst hr;refine A3 ?_;have PY:(xs.size==ys.size)=decide (x=y):=by
   rw[<-Ma,<-KS];cases K4 with
   |nil=>
    cases LQ with
    |nil=>simp
    |cons _ _=>simp
   |cons _ _=>
    cases LQ with
    |nil=>simp
    |cons _ _=>simp at hz
  show P (.done (.ret (.bool (xs.size==ys.size)))) s';rw[PY];exact h
theorem E9 {x y:Qt (Qt K)}{a b:Qo}{Q:Bool->Qn->Prop} (hu:A.units+1<cLine) (hx:cM knd s.heap x a) (hy:cM knd s.heap y b) (h:Q (decide (x=y)) s):
  wpAny (model prog w) A (eqBool (.ref a) (.ref b)) Q E s:=by
 unfold eqBool;try with_reducible refine Ar ?_
 show wpAny _ _ (if(Value.ref a==Value.ref b)=true then _ else _) Q E s;by_cases PZ:(Value.ref a==Value.ref b)=true
 .rw [A7 PZ];have e:a=b:=by have:=eq_of_beq PZ;injection this
  subst e;obtain rfl:=hx.inj hy;exact A0 (CP (A3 (by simpa using h)))
 .rw [A5 PZ];exact A0 (wpAny_richCompare_same_room (op:= .Eq) hx.typeIs hy.typeIs Cd
   (Af Cd hx.typeIs F.entry_tuple_eq (E8 (by first|lia|(rw[bU];lia)|(simp;lia)) hx hy ⟨_,rfl,(fun e=>nomatch e),BS h⟩) (F.args_tuple_eq_2 _ _)) (by lia))
theorem tV {ks:Qt K}{a:Qo}{n:Nat}{Q:Bool->Qn->Prop} (hk:IsTupleKey knd s.heap ks a) (h:Q true s):wpAny (model prog w) A (eqIsQuiet (n+1) (.ref a)) Q E s:=by
 have hT:=hk.typeIs;obtain⟨o,items,n,ho,_,hd,hi⟩:=hk;unfold eqIsQuiet;refine A0 (Bt hT Cd.lookup ?_);show wpAny _ _ (isInstance (.ref a) (.type "tuple")>>=_) _ _ s;refine A0 (Bj hT Ch ?_);simp only[BF,AG,Ap];refine A0 (B7 ho hd ?_);refine A0 ?_;show wpAny _ _ (forIn items _ _) _ _ s;rw[<-C9];refine BW _ (fun aF r s'=>r.1=none/\s'=s/\∀v∈aF,carriedByValue v=true) _ ?_ ?_ _ _ ⟨rfl,rfl,hi.byValue⟩
 .rintro v aF r s' ⟨hr,rfl,Lm⟩;rw[eqIsQuiet_byValue _ (Lm v AW)];refine A0 (A3 ?_);simp only[BF,AG,Ap];exact A3 ⟨rfl,rfl,fun u OB=>Lm u (AQ _ OB)⟩
 .rintro⟨r1,r2⟩ s' ⟨hr,rfl,_⟩;simp only at hr;subst hr;exact A3 h
theorem Fa {ks:Qt (Qt K)}{a:Qo}{Q:Bool->Qn->Prop} (hk:cM knd s.heap ks a) (h:Q true s):wpAny (model prog w) A (eqIsQuiet 8 (.ref a)) Q E s:=by
 have hT:=hk.typeIs;obtain⟨o,items,n,ho,_,hd,hi⟩:=hk;unfold eqIsQuiet;refine A0 (Bt hT Cd.lookup ?_);show wpAny _ _ (isInstance (.ref a) (.type "tuple")>>=_) _ _ s;refine A0 (Bj hT Ch ?_);simp only[BF,AG,Ap];refine A0 (B7 ho hd ?_);refine A0 ?_;show wpAny _ _ (forIn items _ _) _ _ s;rw[<-C9];refine BW _ (fun aF r s'=>r.1=none/\s'=s/\∃x,ItemsT knd s.heap x aF) _ ?_ ?_ _ _ ⟨rfl,rfl,ks,hi⟩
 .rintro v aF r s' ⟨hr,rfl,x,Lm⟩;cases Lm with
  |cons h1 ht=>
   refine A0 (tV h1 ?_);simp only[BF,AG,Ap];exact A3 ⟨rfl,rfl,_,ht⟩
 .rintro⟨r1,r2⟩ s' ⟨hr,rfl,_⟩;simp only at hr;subst hr;exact A3 h
end
def tW {prog:Qp}{w:Qr}{K:Type} [DecidableEq K] (knd:KeyKind prog w K):HeapKind prog w (Qt (Qt K)) where
 is:=cM knd
 hash:=mR knd
 draws:=mS
 room:=fun A=>A.units+1<cLine
 inj:=fun hx hy=>hx.inj hy
 keeps:=fun x ho hd hs=>x.keeps ho hd hs
 pyHash:=fun hu hk h=>E7 hu hk h
 eqBool:=fun hu hx hy h=>E9 hu hx hy h
 quiet:=fun hk h=>Fa hk h
theorem c7 {A:Qs}{k:Nat} (hr:Room k A):A.units+2<cLine:=by have:=hr.un;lia
class KOk {P:Qp}{w:Qr}{κ:Type} [DecidableEq κ] (hk:HeapKind P w κ) (IK:Hp->κ->V->Prop):Prop where
 of:∀{H:Hp}{h:Qv}{k:κ}{a:Qo},HOk P w H h->IK H k (.ref a)->hk.is h k a
 ref:∀{H:Hp}{k:κ}{y:V},IK H k y->∃b,y= .ref b
 keeps:∀{H H':Hp},(∀b ys,H b=some (.tup ys)->H' b=some (.tup ys))->∀{k:κ}{v:V},IK H k v->IK H' k v
 room1:∀{A:Qs},A.units+1<cLine->hk.room A
section
variable {P:Qp}{w:Qr}{κ:Type} [DecidableEq κ] {hk:HeapKind P w κ}{IK:Hp->κ->V->Prop}{H:Hp}{h:Qv}{a:Qo}
theorem KOk.room (F:KOk hk IK) {A:Qs} (hu:A.units+2<cLine):hk.room A.in1:=F.room1 (by rw[bU];lia)
theorem KOk.rf (F:KOk hk IK) {k:κ}{y:V}{u:NR} (h:IK H k y) (r:aw y u):∃b,y= .ref b/\u= .ref b:=by
 obtain⟨b,rfl⟩:=F.ref h;exact⟨b,rfl,r⟩
def gE (hk:HeapKind P w κ) (xs:Qt (κ×Qo×NR)) (a:Qo) (h:Qv):Prop:=
 ∃o es ep,h.get? a=some o/\o.ExactDict/\o.data= .dict es ep/\es.toList=xs.map (entryOfKey hk)/\(xs.map (·.1)).Nodup
abbrev GT (IK:Hp->κ->V->Prop) (H:Hp):Qt (κ×V)->Qt (κ×Qo×NR)->Prop:=Paired fun p q=>p.1=q.1/\IK H p.1 (.ref q.2.1)/\aw p.2 q.2.2
def DG (hk:HeapKind P w κ) (IK:Hp->κ->V->Prop) (H:Hp) (a:Qo) (kvs:Qt (κ×V)):Prop:=kvs.length<=sizeLine/\(a==sysModules)=false/\∃xs,GT IK H kvs xs/\H a=some (.ext (gE hk xs a))
theorem gS [F:KOk hk IK] {kvs:Qt (κ×V)} (ok:HOk P w H h) (e:DG hk IK H a kvs):kvs.length<=sizeLine/\(a==sysModules)=false/\∃xs,GT IK H kvs xs/\H a=some (.ext (gE hk xs a))/\h.DictOfH hk a xs:=by
 obtain⟨z,y,xs,r,e⟩:=e;obtain⟨⟨o,es,ep,h1,h2,h3,h4,h5⟩,_,_⟩:=(show aD P w H h a (.ext (gE hk xs a)) from ok a _ e);refine⟨z,y,xs,r,e,o,es,ep,h1,h2,h3,h4,fun x hx=> ?_,h5⟩;have all:∀{l:Qt (κ×V)}{m:Qt (κ×Qo×NR)},GT IK H l m->∀x∈m,hk.is h x.1 x.2.1:=by
  intro l m q;induction q with
  |nil=>intro x hx;exact nomatch hx
  | @cons p q ps qs hq t ih=>
   intro x hx;rcases AI.mp hx with e|hx
   .subst e;exact F.of ok (by rw[<-hq.1];exact hq.2.1)
   .exact ih x hx
 exact all r x hx
theorem tX {xs:Qt (κ×Qo×NR)}{H':Hp} (d:∃o es ep,h.get? a=some o/\o.ExactDict/\o.data= .dict es ep/\es.toList=xs.map (entryOfKey hk)/\(xs.map (·.1)).Nodup):aD P w H' h a (.ext (gE hk xs a)):=by
 refine⟨d,let ⟨o,_,_,h1,_⟩:=d;⟨o,h1⟩,fun h1 h2 f k=> ?_⟩;obtain⟨o,es,ep,e1,r⟩:=f;exact⟨o,es,ep,k o e1,r⟩
theorem GT.val {kvs:Qt (κ×V)}{xs:Qt (κ×Qo×NR)} (r:GT IK H kvs xs) (k:κ):cG (aJ kvs k) ((atKey xs k).map (·.2)):=by
 induction r with
 |nil=>exact True.intro
 | @cons p q ps qs h t ih=>
  obtain⟨h1,_,h2⟩:=h;by_cases e:p.1=k
  .have e':q.1=k:=h1.symm.trans e;have b:atKey (q::qs) k=some q.2:=by simp[atKey,Bc,e']
   rw[c9 e,b];exact h2
  .have e':¬q.1=k:=fun z=>e (h1.trans z);have b:atKey (q::qs) k=atKey qs k:=by simp[atKey,Bc,e']
   rw[cR e,b];exact ih
theorem GT.repl {kvs:Qt (κ×V)}{xs:Qt (κ×Qo×NR)} (r:GT IK H kvs xs) (k:κ) {y:V}{u:NR} (ry:aw y u):
  GT IK H (kvs.map fun kv=>if kv.1=k then(kv.1,y) else kv) (xs.map (putAt k u)):=by
 induction r with
 |nil=>exact .nil
 | @cons p q ps qs h t ih=>
  rw[AE,AE];refine .cons ?_ ih;obtain⟨h1,h2,h3⟩:=h;unfold putAt;by_cases e:p.1=k
  .rw [A7 e,A7 (h1.symm.trans e)];exact⟨h1,h2,ry⟩
  .rw [A5 e,A5 (fun z=>e (h1.trans z))];exact⟨h1,h2,h3⟩
theorem GT.put {kvs:Qt (κ×V)}{xs:Qt (κ×Qo×NR)} (r:GT IK H kvs xs) (k:κ) {b:Qo}{y:V}{u:NR} (hb:IK H k (.ref b)) (ry:aw y u):
  GT IK H (aR kvs k y) (storedH xs k b u):=by
 have e:(kvs.any fun kv=>decide (kv.1=k))=(atKey xs k).isSome:=by
  rw[fy,(r.val k).isSome_eq,Option.isSome_map]
 unfold aR storedH;rw[e];by_cases q:(atKey xs k).isSome=true
 .rw [A7 q,A7 q];exact r.repl k ry
 .rw [A5 q,A5 q];exact Paired.snoc r ⟨rfl,hb,ry⟩
theorem GT.keeps (F:KOk hk IK) {H':Hp}{kvs:Qt (κ×V)}{xs:Qt (κ×Qo×NR)} (r:GT IK H kvs xs) (ht:∀b ys,H b=some (.tup ys)->H' b=some (.tup ys)):GT IK H' kvs xs:=
 Paired.mapP r fun _ _ z=>⟨z.1,F.keeps ht z.2.1,z.2.2⟩
theorem DG.keeps [F:KOk hk IK] {H':Hp}{kvs:Qt (κ×V)} (d:DG hk IK H a kvs) (ha:H' a=H a) (ht:∀b ys,H b=some (.tup ys)->H' b=some (.tup ys)):DG hk IK H' a kvs:=by
 obtain⟨z,y,xs,r,e⟩:=d;exact⟨z,y,xs,r.keeps F ht,ha.trans e⟩
theorem DG.mono [F:KOk hk IK] {H':Hp}{kvs:Qt (κ×V)} (s:ae H H') (d:DG hk IK H a kvs):DG hk IK H' a kvs:=by
 obtain⟨z,y,xs,r,e⟩:=d;exact⟨z,y,xs,r.keeps F fun b ys=>s b _,s _ _ e⟩
theorem DG.mut {kvs:Qt (κ×V)} (d:DG hk IK H a kvs):Mut (H a):=by
 obtain⟨_,_,xs,_,e⟩:=d;rw[e];exact True.intro
theorem DG.ntup {kvs:Qt (κ×V)} (d:DG hk IK H a kvs) {b:Qo}{ys:Qt V} (e:H b=some (.tup ys)):b≠a:=by
 obtain⟨_,_,xs,_,e2⟩:=d;rintro rfl;rw[e2] at e;cases e
theorem Fc {p:Qo} (hp:p=h.objs.size) (hb:sysModules<h.objs.size):DG hk IK (upd H p (.ext (gE hk [] p))) p []:=by
 subst hp;exact⟨AL _,CK.mpr (BG (AO hb)),[], .nil,al⟩
def Fd (h:Qv):aD P w H (h.push {cls:= .type "dict",data:= .dict #[]}) h.objs.size (.ext (gE hk [] h.objs.size)):=
 tX ⟨_, #[],0,AB _ rfl,⟨rfl,rfl,rfl⟩,rfl,rfl,DQ⟩
end
section
variable {X:Cx}{κ:Type} [DecidableEq κ] {hk:HeapKind X.prog X.w κ}{IK:Hp->κ->V->Prop}{KO:Qt (Qo×Obj)}{σ:St}{H:Hp}{s:Qn}{a b:Qo}{v:V}{r:NR}{A:Qs}{E:NR->Qn->Prop}{kvs:Qt (κ×V)}{ks:κ}
theorem Fe [F:KOk hk IK] {Q:NR->Qn->Prop} (hu:A.units+2<cLine) (I:Inv X KO σ H s) (d:DG hk IK H a kvs) (k:IK H ks (.ref b)) (l:aJ kvs ks=some v) (h:∀w' s',Inv X KO σ H s'->aw v w'->Q w' s'):
  wpAny (model X.prog X.w) A (getItem (.ref a) (.ref b)) Q E s:=by
 obtain⟨z,hd,xs,K2,_,dd⟩:=gS I.hok d;obtain⟨w',hw,Mr⟩:=cG.some_of (v:=v) (o:=(atKey xs ks).map (·.2)) (by rw[<-l];exact K2.val ks);obtain⟨p,hp,Ox⟩:=AR.mp hw;refine wpAny_getItem_heap (F.room hu) (F.of I.hok k) dd hp ?_;rw[Ox];exact h w' _ (I.tok _) Mr
theorem Ff [F:KOk hk IK] {Q:NR->Qn->Prop} (hu:A.units+2<cLine) (I:Inv X KO σ H s) (d:DG hk IK H a kvs) (k:IK H ks (.ref b)) (h:∀s',Inv X KO σ H s'->Q (.bool (aJ kvs ks).isSome) s'):
  wpAny (model X.prog X.w) A (compareOp .In (.ref b) (.ref a)) Q E s:=by
 obtain⟨z,hd,xs,K2,_,dd⟩:=gS I.hok d;refine wpAny_in_heap (F.room hu) (F.of I.hok k) hd dd ?_;have q:=(K2.val ks).isSome_eq;rw[Option.isSome_map] at q;rw[<-q];exact h _ (I.tok _)
theorem Fg [F:KOk hk IK] {Q:NR->Qn->Prop} (hu:A.units+2<cLine) (I:Inv X KO σ H s) (d:DG hk IK H a kvs) (k:IK H ks (.ref b)) (h:∀s',Inv X KO σ H s'->Q (.bool (!(aJ kvs ks).isSome)) s'):
  wpAny (model X.prog X.w) A (compareOp .NotIn (.ref b) (.ref a)) Q E s:=by
 obtain⟨z,hd,xs,K2,_,dd⟩:=gS I.hok d;refine wpAny_notIn_heap (F.room hu) (F.of I.hok k) hd dd ?_;have q:=(K2.val ks).isSome_eq;rw[Option.isSome_map] at q;rw[<-q];exact h _ (I.tok _)
theorem Fh [F:KOk hk IK] {Q:Unit->Qn->Prop} (hu:A.units+2<cLine) (I:Inv X KO σ H s) (d:DG hk IK H a kvs) (k:IK H ks (.ref b)) (hl:kvs.length<sizeLine) (rv:aw v r)
  (h:∀H' s',DG hk IK H' a (aR kvs ks v)->(∀b,b≠a->H' b=H b)->Inv X KO σ H' s'->Q () s'):wpAny (model X.prog X.w) A (setItem (.ref a) (.ref b) r) Q E s:=by
 obtain⟨z,hd,xs,K2,e,dd⟩:=gS I.hok d;have hz:xs.length<=sizeLine:=by rw[<-BL K2];exact z
 have Nz:(aR kvs ks v).length<=sizeLine:=by have:=lS kvs ks v;lia
 refine wpAny_setItem_heap (hsz:=hz) (F.room hu) (F.of I.hok k) dd fun h' Oj hs=> ?_;obtain⟨q,es,ep,hq,h2,h3,h4,_,h5⟩:=Oj;refine h (upd H a (.ext (gE hk (storedH xs ks b r) a))) _ ⟨Nz,hd,_,(K2.put ks k rv).keeps F fun c ys ec=> ?_,al⟩ (fun c hc=>ar hc) (gG I d.mut hs ⟨q,hq⟩ (tX ⟨q,es,ep,hq,h2,h3,h4,h5⟩));rw[ar (d.ntup ec)];exact ec
theorem Fi [F:KOk hk IK] (I:Inv X KO σ H s) (d:DG hk IK H a kvs):s.TypeIs (.ref a) "dict"/\(∀b,Value.ref a= .ref b->∃ob,s.heap.get? b=some ob/\ob.dict=none)/\(a==sysModules)=false:=by
 obtain⟨_,hd,xs,_,_,dd⟩:=gS I.hok d;refine⟨dd.typeIs,fun b q=> ?_,hd⟩;cases q;obtain⟨ob,_,_,h1,h2,_⟩:=dd;exact⟨ob,h1,h2.2.1⟩
end
section
variable {P:Qp}{w:Qr}{κ:Type} [DecidableEq κ]
inductive tGGet_ (hk:HeapKind P w κ) (IK:Hp->κ->V->Prop) (Q:VK) (x:V) (y:V) (H2:Hp):Prop
 |mk a kvs ks v:x= .ref a->DG hk IK H2 a kvs->IK H2 ks y->aJ kvs ks=some v->Q v H2->tGGet_ hk IK Q x y H2
def mT (hk:HeapKind P w κ) (IK:Hp->κ->V->Prop) (td ty:TE):TE:=fun σ H Q=>td σ H fun x H1=>ty σ H1 fun y H2=>tGGet_ hk IK Q x y H2
inductive tGIn_ (hk:HeapKind P w κ) (IK:Hp->κ->V->Prop) (Q:VK) (y:V) (x:V) (H2:Hp):Prop
 |mk a kvs ks:x= .ref a->DG hk IK H2 a kvs->IK H2 ks y->Q (.bl (aJ kvs ks).isSome) H2->tGIn_ hk IK Q y x H2
def tY (hk:HeapKind P w κ) (IK:Hp->κ->V->Prop) (ty td:TE):TE:=fun σ H Q=>ty σ H fun y H1=>td σ H1 fun x H2=>tGIn_ hk IK Q y x H2
inductive tGNotIn_ (hk:HeapKind P w κ) (IK:Hp->κ->V->Prop) (Q:VK) (y:V) (x:V) (H2:Hp):Prop
 |mk a kvs ks:x= .ref a->DG hk IK H2 a kvs->IK H2 ks y->Q (.bl (!(aJ kvs ks).isSome)) H2->tGNotIn_ hk IK Q y x H2
def tZ (hk:HeapKind P w κ) (IK:Hp->κ->V->Prop) (ty td:TE):TE:=fun σ H Q=>ty σ H fun y H1=>td σ H1 fun x H2=>tGNotIn_ hk IK Q y x H2
inductive sGPut_ (hk:HeapKind P w κ) (IK:Hp->κ->V->Prop) (D:Ends) (σ:St) (v:V) (x:V) (y:V) (H3:Hp):Prop
 |mk a kvs ks:x= .ref a->DG hk IK H3 a kvs->IK H3 ks y->kvs.length<sizeLine->(∀H4,DG hk IK H4 a (aR kvs ks v)->(∀b,b≠a->H4 b=H3 b)->D.nx σ H4)->sGPut_ hk IK D σ v x y H3
def mU (hk:HeapKind P w κ) (IK:Hp->κ->V->Prop) (td ty tv:TE):TS:=fun D σ H=>tv σ H fun v H1=>td σ H1 fun x H2=>ty σ H2 fun y H3=>sGPut_ hk IK D σ v x y H3
def mV (hk:HeapKind P w κ) (IK:Hp->κ->V->Prop):TE:=fun _ H Q=>∀p H',H p=none->DG hk IK H' p []->(∀b,b≠p->H' b=H b)->Q (.ref p) H'
end
section
variable {X:Cx}{κ:Type} [DecidableEq κ] {hk:HeapKind X.prog X.w κ}{IK:Hp->κ->V->Prop}{o i e f value ek ev:Qu}{pos K9 Li K3:Pos}{td ty tv tx tk:TE}
theorem ud [F:KOk hk IK] (hu:X.A.units+2<cLine) (ho:PE X o td) (hi:PE X i ty) (hs:fT i):PE X (.Subscript o i pos) (mT hk IK td ty):=by
 intro KO s σ H Q I h;refine lU PySem.F.slot_dict_getitem.lookup hs (thn (ho KO s σ H _ I h) fun u s1 ⟨x,H1,I1,rx,q1⟩=>thn (hi KO s1 σ H1 _ I1 q1) fun iv s2 ⟨y,H2,I2,ry,a,kvs,ks,v,ex,d,k,l,q2⟩=> ?_);subst ex;obtain rfl:u=Value.ref a:=rx;obtain⟨b,rfl,rfl⟩:=F.rf k ry;exact⟨(Fi I2 d).1,Fe hu I2 d k l fun w' s3 I3 Mr=>⟨v,H2,I3,Mr,q2⟩⟩
theorem Fj [F:KOk hk IK] (hu:X.A.units+2<cLine) (hi:PE X i ty) (ho:PE X o td):PC X .In i o (tY hk IK ty td):=by
 intro KO s σ H Q I h;refine thn (hi KO s σ H _ I h) fun iv s1 ⟨y,H1,I1,ry,q1⟩=>thn (ho KO s1 σ H1 _ I1 q1) fun u s2 ⟨x,H2,I2,rx,a,kvs,ks,ex,d,k,q2⟩=> ?_;subst ex;obtain rfl:u=Value.ref a:=rx;obtain⟨b,rfl,rfl⟩:=F.rf k ry;exact Ff hu I2 d k fun s3 I3=>⟨.bl _,H2,I3,rfl,q2⟩
theorem Fk [F:KOk hk IK] (hu:X.A.units+2<cLine) (hi:PE X i ty) (ho:PE X o td):PC X .NotIn i o (tZ hk IK ty td):=by
 intro KO s σ H Q I h;refine thn (hi KO s σ H _ I h) fun iv s1 ⟨y,H1,I1,ry,q1⟩=>thn (ho KO s1 σ H1 _ I1 q1) fun u s2 ⟨x,H2,I2,rx,a,kvs,ks,ex,d,k,q2⟩=> ?_;subst ex;obtain rfl:u=Value.ref a:=rx;obtain⟨b,rfl,rfl⟩:=F.rf k ry;exact Fg hu I2 d k fun s3 I3=>⟨.bl _,H2,I3,rfl,q2⟩
theorem uf [F:KOk hk IK] (hu:X.A.units+2<cLine) (ho:PE X o td) (hi:PE X i ty) (hv:PE X value tv) (hs:swapsWith value (some (.Subscript o i K9)) pos.line X.env=pure false):
  PS X (.Assign [.Subscript o i K9] value pos) (mU hk IK td ty tv):=by
 intro KO s σ H D I h;refine wpAny_Assign_Subscript (thn (hv KO s σ H _ I h) fun r s1 ⟨v,H1,I1,rv,q1⟩=>thn (ho KO s1 σ H1 _ I1 q1) fun u s2 ⟨x,H2,I2,rx,q2⟩=>thn (hi KO s2 σ H2 _ I2 q2) fun iv s3 ⟨y,H3,I3,ry,a,kvs,ks,ex,d,k,hl,q3⟩=> ?_) hs;subst ex;obtain rfl:u=Value.ref a:=rx;obtain⟨b,rfl,rfl⟩:=F.rf k ry;exact Fh hu I3 d k hl rv fun H4 s4 d4 k4 I4=>⟨σ,H4,I4,q3 H4 d4 k4⟩
def ug:PE X (.Dict [] [] pos) (mV hk IK):=fun KO s σ H Q I h=>
 wpAny_Dict_empty ⟨.ref s.heap.objs.size,_,I.laid (a:=s.heap.objs.size) (o:= .ext (gE hk [] s.heap.objs.size)) (t':=s.toks) (fun _ _ q=>A4 _ q) (A' _) (Fd s.heap),rfl,h _ _ (I.hok.fresh (A' _)) (Fc rfl I.big) (fun b hb=>ar hb)⟩
end
def nK (ks:Qt (Qt Int)):D:= .t (ks.map tI)
section
variable {P:Qp}{w:Qr}{H:Hp}{h:Qv}{a:Qo}
theorem uh:∀{ks:Qt Int}{us:Qt NR},au (ks.map V.int) us->ItemsAre (intKind P w) ks us
 |[],_,r=>by rw[List.map_nil] at r;cases r;exact .nil
 |k::ks,_,r=>by
  rw[AE] at r;cases r with
  |cons h t=>
   obtain⟨t',rfl⟩:=h;exact .cons (show Value.isInt k (.int k t')=true by simp[Value.isInt]) (uh t)
theorem ui {ks:Qt Int} (ok:HOk P w H h) (e:H a=some (.tup (ks.map V.int))):IsTupleKey (intKind P w) h ks a:=by
 obtain⟨_,KQ,r,o,h1,h2,n,h3⟩:=(show aD P w H h a (.tup (ks.map V.int)) from ok a _ e);exact⟨o,KQ.toArray,n,h1,h2,h3,by simpa using uh r⟩
theorem uj (ok:HOk P w H h):∀{ks:Qt (Qt Int)}{vs:Qt V}{us:Qt NR},Iss H (ks.map tI) vs->au vs us->ItemsT (intKind P w) h ks us
 |[],_,_,i,r=>by rw[bi i] at r;cases r;exact .nil
 |k::ks,_,_,i,r=>by
  obtain⟨u,us,rfl,q,i2⟩:=aK i;obtain⟨b,rfl,hb⟩:=bO q;cases r with
  |cons h t=>
   cases h;exact .cons (ui ok hb) (uj ok i2 t)
theorem Fl {ks:Qt (Qt Int)} (ok:HOk P w H h) (e:Is H (nK ks) (.ref a)):(tW (intKind P w)).is h ks a:=by
 obtain⟨b,vs,eb,hb,hi⟩:=bn e;cases eb;obtain⟨_,KQ,r,o,h1,h2,n,h3⟩:=(show aD P w H h a (.tup vs) from ok a _ hb);exact⟨o,KQ.toArray,n,h1,h2,h3,by simpa using uj ok hi r⟩
theorem Fm {H':Hp} (ht:∀b ys,H b=some (.tup ys)->H' b=some (.tup ys)) {ks:Qt (Qt Int)}{v:V} (h:Is H (nK ks) v):Is H' (nK ks) v:=by
 obtain⟨b,vs,rfl,hb,hi⟩:=bn h;have go:∀{xs:Qt (Qt Int)}{vs:Qt V},Iss H (xs.map tI) vs->Iss H' (xs.map tI) vs:=by
  intro xs;induction xs with
  |nil=>intro vs h;rw[bi h];exact ao
  |cons x xs ih=>
   intro vs h;obtain⟨u,us,rfl,q,r⟩:=aK h;obtain⟨c,rfl,hc⟩:=bO q;exact ak (eX (ht _ _ hc)) (ih r)
 exact bd (ht _ _ hb) (go hi)
abbrev hkN (P:Qp) (w:Qr):=tW (intKind P w)
instance nOk:KOk (hkN P w) (fun H ks v=>Is H (nK ks) v):=⟨Fl,fun h=>let ⟨b,_,e,_⟩:=bn h;⟨b,e⟩,fun ht _ _=>Fm ht,fun h=>h⟩
abbrev DN (P:Qp) (w:Qr):Hp->Qo->Qt (Qt (Qt Int)×V)->Prop:=DG (hkN P w) (fun H ks v=>Is H (nK ks) v)
def Fn {kvs:Qt (Qt (Qt Int)×V)} (ok:HOk P w H h) (e:DN P w H a kvs):kvs.length<=sizeLine/\(a==sysModules)=false/\∃xs,GT (fun H ks v=>Is H (nK ks) v) H kvs xs/\H a=some (.ext (gE (hkN P w) xs a))/\h.DictOfH (hkN P w) a xs:=gS ok e
end
abbrev uk (P:Qp) (w:Qr):TE->TE->TE:=mT (hkN P w) (fun H ks v=>Is H (nK ks) v)
abbrev Fo (P:Qp) (w:Qr):TE->TE->TE:=tY (hkN P w) (fun H ks v=>Is H (nK ks) v)
abbrev Fp (P:Qp) (w:Qr):TE->TE->TE->TS:=mU (hkN P w) (fun H ks v=>Is H (nK ks) v)
abbrev Fq (P:Qp) (w:Qr):TE:=mV (hkN P w) (fun H ks v=>Is H (nK ks) v)
section
variable {X:Cx}{o i e f value ek ev:Qu}{pos K9 Li K3:Pos}{td ty tv tx tk:TE}
def gT (hu:X.A.units+2<cLine) (ho:PE X o td) (hi:PE X i ty) (hs:fT i):PE X (.Subscript o i pos) (uk X.prog X.w td ty):=ud hu ho hi hs
def Fs (hu:X.A.units+2<cLine) (hi:PE X i ty) (ho:PE X o td):PC X .In i o (Fo X.prog X.w ty td):=Fj hu hi ho
def j6 (hu:X.A.units+2<cLine) (ho:PE X o td) (hi:PE X i ty) (hv:PE X value tv) (hs:swapsWith value (some (.Subscript o i K9)) pos.line X.env=pure false):
  PS X (.Assign [.Subscript o i K9] value pos) (Fp X.prog X.w td ty tv):=uf hu ho hi hv hs
def mW:PE X (.Dict [] [] pos) (Fq X.prog X.w):=ug
end
section
variable {prog:Qp}{w:Qr}{A:Qs}{E:NR->Qn->Prop}{s:Qn}
theorem Fu (hh:A.handled=none) (I d:Qo) (LD:d≠I) {o:Obj}{es:Array DictEntry}{ep:Nat} (K5:o.data= .dict es ep):
  Walks prog w A I [I,d] [I] es.size (fun i v=>∃e,es[i]? =some e/\v=e.key) (fun i h=>h.IsKeyIter I d i es.size ep/\h.get? d=some o) where
 sub:=fun b hb=>by simp at hb;simp[hb]
 frame:=fun _ _ _ st hk=>⟨st.1.at fun o e=>hk I (by simp) o e,hk d (by simp) _ st.2⟩
 item:=fun i s Q E hi st hQ=>mM st.1 st.2 K5 (AZ hi) fun h' Ms MC=>hQ _ h' s.toks ⟨_,AZ hi,rfl⟩ ⟨Ms,MC.extBut d _ LD st.2⟩ fun b o hb e=>MC.extBut b o (fun h=>hb (by simp[h])) e
 done:=fun s Q E st hQ=>mN hh st.1 st.2 K5 (A' _) fun h' MW=>hQ h' s.toks fun b o hb e=>MW b o (fun h=>hb (by simp[h])) e
 self:=fun _ _ _ _ st hQ=>wpAny_pyIter_keyiter st.1 hQ
theorem Fv {d:Qo}{Q:Bool->Qn->Prop} (hT:s.TypeIs (.ref d) "dict") (h:Q false s):
  wpAny (model prog w) A (Builtin.List.listLengthHint (.ref d)) Q E s:=by
 unfold Builtin.List.listLengthHint;refine A0 (Bt hT PySem.F.slot_dict_len.lookup ?_)
 wp_delta
 refine A0 (Bj (b:=true) hT (by rw[isSubtype_type];kernel_rfl) ?_);show wpAny _ A (typeOf (.ref d)>>=_) _ _ _;refine A0 (Cu hT ?_);exact A3 h
theorem Fw {R:Result->Qn->Prop}{d:Qo}{o:Obj}{es:Array DictEntry}{ep:Nat} (hh:A.handled=none) (hd:(d==sysModules)=false) (ho:s.heap.get? d=some o) (hc:o.ExactDict) (K5:o.data= .dict es ep) (KS:es.size<=2^24)
  (S:Qo) (res:NR) (c₀:Nat) (hS:s.heap.get? S=some {cls:= .type "list",data:= .seq #[] c₀})
  (hR:∀h' tk K1 c',(∀b o,b≠S->s.heap.get? b=some o->h'.get? b=some o)->h'.get? S=some {cls:= .type "list",dict:=none,data:= .seq K1 c',slots:= #[]}->
   ItemsOf (fun i v=>∃e,es[i]? =some e/\v=e.key) K1 es.size->R (.ok (.ret res)) {s with heap:=h',toks:=tk}):
  wpAny (model prog w) A.in1 (Builtin.List.listExtendWith (.ref S) (.ref d) res)
   (fun fin s'=>match fin with| .done f=>R (.ok f) s'| .again c'=>c'.quiet=true/\codeAny (model prog w) A c' R s') (fun e s'=>R (.error e) s') s:=by
 have hSd:S≠d:=fun e=>by rw[e,ho] at hS;have:=Ac hS;rw[this] at K5;cases K5
 have hSlt:S<s.heap.objs.size:=AM hS;have hdlt:d<s.heap.objs.size:=AM ho;have hSI:S≠s.heap.objs.size:=AO hSlt;have Lw:S∉[s.heap.objs.size,d]:=fun hm=>by
  rcases AI.mp hm with e|hm
  .exact hSI e
  .exact hSd (Ab.mp hm)
 have Wq:=(Fu (prog:=prog) (w:=w) (A:=A.in1) hh s.heap.objs.size d (AO hdlt) K5).toS;have key:∀(h:Qv) (c₁ tk:Nat),h.IsKeyIter s.heap.objs.size d 0 es.size ep/\h.get? d=some o->(∀b o,b≠S->s.heap.get? b=some o->h.get? b=some o)->
   h.get? S=some {cls:= .type "list",data:= .seq #[] c₁}->codeAny (model prog w) A (.builtin "list.extend.loop" ⟨[.ref S, .ref s.heap.objs.size,res],[]⟩) R {s with heap:=h,toks:=tk}:=by
  intro h c₁ tk KW hk hS₁;refine codeAny_extend_loopS Wq (by rw[Ay];lia) S Lw res es.size 0 _ #[] c₁ rfl (AL _) KW hS₁ (ItemsOf.nil _) fun s' K1 c' hm LB KR=> ?_;rw[Moved.eq_with hm];refine hR s'.heap s'.toks K1 c' (fun b o hb e=>hm.heap b o (fun hmem=> ?_) (hk b o hb e)) LB KR;rcases AI.mp hmem with e'|hmem
  .exact hb e'
  .exact absurd (AM e) (by rw[Ab.mp hmem];exact Bb _)
 unfold Builtin.List.listExtendWith;refine A0 (Cu (T:="dict") ⟨o,ho,hc.1⟩ ?_);have h1:Builtin.List.listSameRef (.ref S) (.ref d)=false:=by simp[Builtin.List.listSameRef,hSd]
 have h2:(Value.type "dict"==Value.type "list")=false:=by decide
 have h3:(Value.type "dict"==Value.type "tuple")=false:=by decide
 simp only[h1,h2,h3,Bool.or_false,AG,Ap];refine A0 (mL hd ho hc K5 ?_);refine A0 (Ar (Fv ⟨o,A4 _ ho,hc.1⟩ ?_));have hit₁:(s.heap.push {cls:= .type "dict_keyiterator",data:= .fields #[.ref d, .int 0 0, .int es.size 0, .int ep 0]}).IsKeyIter s.heap.objs.size d 0 es.size ep:=⟨_,AB _ rfl,rfl,rfl⟩;have hS₁:=A4 {cls:= .type "dict_keyiterator",data:= .fields #[.ref d, .int 0 0, .int es.size 0, .int ep 0]} hS;have ho₁:=A4 {cls:= .type "dict_keyiterator",data:= .fields #[.ref d, .int 0 0, .int es.size 0, .int ep 0]} ho;rw[A7 (by decide)];refine A0 (CP ?_);refine A0 ?_;show wpAny _ _ (updateSeq S (·.push .none)>>=fun _=>updateSeq S (·.pop)) _ _ _;refine A0 (C6 hS₁ rfl ?_);have hS₂:=B4 (Obj.mapSeq (·.push Value.none)) hS₁ rfl;refine C6 (hz:=by seq_fits) hS₂ rfl ?_;have hS₃:=B4 (Obj.mapSeq (·.pop)) hS₂ rfl;refine A3 ⟨BX F.plain_extend_loop _,key _ _ _ ⟨?_, ?_⟩ (fun b o hb e=> ?_) hS₃⟩
 .exact hit₁.at fun o e=>(AX _ _ hSI).trans ((AX _ _ hSI).trans e)
 .exact(AX _ _ hSd).trans ((AX _ _ hSd).trans ho₁)
 .exact(AX _ _ (BG hb)).trans ((AX _ _ (BG hb)).trans (A4 _ e))
theorem Fx {R:Result->Shared->Prop}{d:Addr}{o:Obj}{es:Array DictEntry}{ep:Nat} (hh:A.handled=none) (hd:(d==sysModules)=false) (ho:s.heap.get? d=some o) (hc:o.ExactDict) (K5:o.data= .dict es ep) (KS:es.size<=2^24)
  (S:Addr) (hS:s.heap.get? S=some {cls:= .type "list",data:= .seq #[]})
  (hR:∀h' tk K1 c',(∀b o,b≠S->s.heap.get? b=some o->h'.get? b=some o)->h'.get? S=some {cls:= .type "list",dict:=none,data:= .seq K1 c',slots:= #[]}->
   ItemsOf (fun i v=>∃e,es[i]? =some e/\v=e.key) K1 es.size->R (.ok (.ret .none)) {s with heap:=h',toks:=tk}):
  wpAny (model prog w) A.in1 (Builtin.«list.__init__» ⟨[.ref S, .ref d],[]⟩)
   (fun fin s'=>match fin with| .done f=>R (.ok f) s'| .again c'=>c'.quiet=true/\codeAny (model prog w) A c' R s') (fun e s'=>R (.error e) s') s:=by
 have hSd:S≠d:=fun e=>by rw[e,ho] at hS;have:=Ac hS;rw[this] at K5;cases K5
 show wpAny _ _ (do let LL<-Builtin.List.listItems (.ref S);Builtin.List.listUpdate (.ref S) (fun _=> #[]);letGo LL.toList.reverse;Builtin.List.listExtendWith (.ref S) (.ref d) .none) _ _ s;refine A0 ?_;unfold Builtin.List.listItems;refine A0 (B7 hS rfl (A3 ?_));show wpAny _ _ (updateSeq S (fun _=> #[])>>=fun _=>letGo (#[]:Array Value).toList.reverse>>=fun _=>Builtin.List.listExtendWith (.ref S) (.ref d) .none) _ _ s;refine A0 (C6 hS rfl ?_);have hS₂:=B4 (Obj.mapSeq (fun _=>(#[]:Array Value))) hS rfl;have oth:∀b o,b≠S->s.heap.get? b=some o->(s.heap.update S (Obj.mapSeq (fun _=>(#[]:Array Value)))).get? b=some o:=
  fun b o hb e=>(AX _ _ (BG hb)).trans e
 refine A0 (CL ?_);refine Fw hh hd (oth d _ (BG hSd) ho) hc K5 KS S .none _ hS₂ fun h' tk K1 c' hk LB KR=> ?_;exact hR h' tk K1 c' (fun b o hb e=>hk b o hb (oth b o hb e)) LB KR
theorem Fy {Q:NR->Qn->Prop}{d:Qo}{o:Obj}{es:Array DictEntry}{ep:Nat} (hh:A.handled=none) (hd:(d==sysModules)=false) (ho:s.heap.get? d=some o) (hc:o.ExactDict) (K5:o.data= .dict es ep) (KS:es.size<=2^24)
  (hQ:∀h' tk K1 c',(∀b o,s.heap.get? b=some o->h'.get? b=some o)->
   h'.get? s.heap.objs.size=some {cls:= .type "list",dict:=none,data:= .seq K1 c',slots:= #[]}->ItemsOf (fun i v=>∃e,es[i]? =some e/\v=e.key) K1 es.size->Q (.ref s.heap.objs.size) {s with heap:=h',toks:=tk}):
  wpAny (model prog w) A (call (.type "list") [.ref d]) Q E s:=by
 refine callType_codes (Q₁:=fun obj s₁=>obj= .ref s.heap.objs.size/\s₁={s with heap:=s.heap.push {cls:= .type "list",data:= .seq #[]}}) F.called_list (F.typeCall_list_1 _) F.entry_list_init
  (code_list_new _ ⟨rfl,rfl⟩) fun obj s₁ h₁=> ?_
 obtain⟨rfl,rfl⟩:=h₁;have hS:(s.heap.push {cls:= .type "list",data:= .seq #[]}).get? s.heap.objs.size=some {cls:= .type "list",data:= .seq #[]}:=AB _ rfl;refine⟨⟨_,hS,rfl⟩,F.args_list_init_2 _ _,Fx (A:=A.in1) hh hd (A4 _ ho) hc K5 KS _ hS fun h' tk K1 c' hk LB KR=> ?_⟩;exact⟨rfl,hQ h' tk K1 c' (fun b o e=>hk b o (AO (AM e)) (A4 _ e)) LB KR⟩
end
section
variable {X:Cx}
theorem FA (hc:X.calm=true):bL X (.type "list") (fun vs H Q=>∃a kvs,vs=[V.ref a]/\DN X.prog X.w H a kvs/\kvs.length<=2^24/\∀l H',H l=none->ae H H'->Is H' (.l (kvs.map fun p=>nK p.1)) (.ref l)->Q (.ref l) H'):=by
 intro KO s σ H xs us Q I r ⟨a,kvs,ex,d,hl,q⟩;subst ex;obtain⟨u,rfl,r1⟩:∃u,us=[u]/\aw (.ref a) u:=by cases r with|cons h t=>cases t;exact⟨_,rfl,h⟩
 cases r1;obtain⟨z,hd,xs,K2,_,o,es,ep,h1,h2,h3,h4,_,h5⟩:=Fn I.hok d;have hsz:es.size=kvs.length:=by rw[<-Ao,h4,A1,<-BL K2]
 refine Fy (I.ok.hd hc) hd h1 h2 h3 (by lia) fun h' tk K1 c' hk hS KR=> ?_;have hn:=I.hok.fresh (A' s.heap.objs.size);have NN:∃vs,au vs K1.toList/\Iss H (kvs.map fun p=>nK p.1) vs:=by
  obtain⟨a1,a2⟩:=KR;have go:∀{l:Qt (Qt (Qt Int)×V)}{m:Qt (Qt (Qt Int)×Qo×NR)},Paired (fun(p:Qt (Qt Int)×V) (q:Qt (Qt Int)×Qo×NR)=>p.1=q.1/\Is H (nK p.1) (.ref q.2.1)/\aw p.2 q.2.2) l m->au (m.map fun q=>V.ref q.2.1) (m.map fun q=>Value.ref q.2.1)/\Iss H (l.map fun p=>nK p.1) (m.map fun q=>V.ref q.2.1):=by
   intro l m t;induction t with
   |nil=>exact⟨.nil,ao⟩
   |cons h _ ih=>exact⟨.cons rfl ih.1,ak h.2.1 ih.2⟩
  have e:K1.toList=xs.map fun q=>Value.ref q.2.1:=by
   refine List.ext_getElem? fun i=> ?_;rw[AC];by_cases hi:i<xs.length
   .have LP:i<K1.toList.length:=by rw[Ao,a1,hsz,BL K2];exact hi
    obtain⟨en,e1,e2⟩:=a2 i _ (by rw[<-BK];exact A2 LP);rw[A2 LP,e2];rw[<-BK,h4,AC,A2 hi] at e1;have e1:=Ac e1;rw[<-e1,A2 hi];rfl
   .have LP:¬i<K1.toList.length:=by rw[Ao,a1,hsz,BL K2];exact hi
    rw[C' (by lia),C' (by lia)];rfl
  rw[e];exact⟨_,go K2⟩
 obtain⟨vs,v1,v2⟩:=NN;have ln:vs.length=kvs.length:=by rw[v2.length,A1]
 refine⟨.ref s.heap.objs.size,_,I.laid (t':=tk) hk (A' _) (show aD X.prog X.w _ h' _ (.lst vs) from⟨by lia,K1.toList,c',v1,hS⟩),rfl,q _ _ hn (ae.new hn) (aB al (v2.mono (ae.new hn)))⟩
end
end L2
namespace PySem.SeqAt
open AutoSeq1 (wpAny_loadPart')
open MeetsSeq MeetsSeq2 MeetsSeq3 SeqRoads2
variable {s:Qn}
def GtAt (A:Qs) (s:Qn) (y x:NR) (b:Bool):Prop:=
 ∀(prog:Qp) (w:Qr) (E:NR->Qn->Prop) (Q:NR->Qn->Prop),Q (.bool b) s->wpAny (model prog w) A (richCompare .Gt y x) Q E s
section
variable {prog:Qp}{w:Qr}{A:Qs}{R:Result->Qn->Prop}{I S:Qo}{fp wr:Qt Qo}{P:Nat->NR->Prop}{St:Nat->Qv->Prop}{a b:NR}{lt:Bool}
theorem um (Wq:Walks prog w A.in1 I fp wr 2 P St) (Lw:S∉fp) {c:Nat}{v:NR} (K8:St 2 s.heap)
  (hS:s.heap.get? S=some {cls:= .type "list",dict:=none,data:= .seq #[v,v] c,slots:= #[]})
  (hR:∀h' tk,(∀b o,b∉wr->b≠S->s.heap.get? b=some o->h'.get? b=some o)->R (.ok (.ret v)) {s with heap:=h',toks:=tk}):
  codeAny (model prog w) A (.builtin "min.loop" ⟨[.ref I, .none, .ref S],[]⟩) R s:=by
 have Nh:S∉wr:=fun h=>Lw (Wq.sub _ h);refine BQ F.entry_min_loop ?_;rw[BB CT _];show wpAny _ A.in1 (seqItems? (.ref S)>>=_) _ _ s;refine A0 (B7 hS rfl ?_);show wpAny _ A.in1 (tryCatch (pyNext (.ref I)) _>>=_) _ _ s;refine A0 (CS (Wq.done s _ _ K8 fun h' tk hk=> ?_));show wpAny _ A.in1 (updateSeq S (fun _=> #[])>>=_) _ _ _;refine A0 (C6 (hk S _ Nh hS) rfl (A0 (CL (A3 ?_))));exact hR _ tk fun b o Ls LN e=>(AX _ _ (BG LN)).trans (hk b o Ls e)
theorem FB (Wq:Walks prog w A.in1 I fp wr 2 P St) (Lw:S∉fp) (hP:∀v,P 1 v->v=b) {c:Nat} (K8:St 1 s.heap)
  (hS:s.heap.get? S=some {cls:= .type "list",dict:=none,data:= .seq #[a,a] c,slots:= #[]})
  (Mb:∀h' tk,(∀b o,b∉wr->b≠S->s.heap.get? b=some o->h'.get? b=some o)->LtAt A.in1 {s with heap:=h',toks:=tk} b a lt)
  (hR:∀h' tk,(∀b o,b∉wr->b≠S->s.heap.get? b=some o->h'.get? b=some o)->R (.ok (.ret (if lt then b else a))) {s with heap:=h',toks:=tk}):
  codeAny (model prog w) A (.builtin "min.loop" ⟨[.ref I, .none, .ref S],[]⟩) R s:=by
 have Nh:S∉wr:=fun h=>Lw (Wq.sub _ h);have La:(toString "min"++toString ".loop":String)="min.loop":=by decide
 refine BQ F.entry_min_loop ?_;rw[BB CT _];show wpAny _ A.in1 (seqItems? (.ref S)>>=_) _ _ s;refine A0 (B7 hS rfl ?_);show wpAny _ A.in1 (tryCatch (pyNext (.ref I)) _>>=_) _ _ s;refine A0 (CS (Wq.item 1 s _ _ (by decide) K8 fun v h' tk hv L8 hk=> ?_));rw[hP v hv];have LB:=hk S _ Nh hS;show wpAny _ A.in1 (tryCatch (holding [b,b] (richCompare .Lt b a>>=_)) _>>=_) _ _ _;refine A0 (CS (Ar (A0 (Mb h' tk (fun b o Ls _ e=>hk b o Ls e) prog w _ _ ?_))));refine A0 (Ar (BS ?_));refine A0 (CL (A3 ?_));cases lt with
 |true=>
  simp only[C0] at hR⊢;refine A0 (C6 LB rfl (A0 (CL ?_)));rw[La];refine A3 ⟨BX CT _,um Wq Lw (Wq.frame _ _ _ L8 fun b P0 o e=> ?_) (B4 _ LB rfl) fun MN Lu Lv=> ?_⟩
  .exact(AX _ _ (fun h:S=b=>Lw (by rw[h];exact P0))).trans e
  .exact hR MN Lu fun b o Ls LN e=>Lv b o Ls LN ((AX _ _ (BG LN)).trans (hk b o Ls e))
 |false=>
  simp only[AG,Ap] at hR⊢;refine A0 (CL ?_);rw[La];refine A3 ⟨BX CT _,um Wq Lw L8 LB fun MN Lu Lv=> ?_⟩;exact hR MN Lu fun b o Ls LN e=>Lv b o Ls LN (hk b o Ls e)
theorem FC (Wq:Walks prog w A.in1 I fp wr 2 P St) (Lw:S∉fp) (hP0:∀v,P 0 v->v=a) (hP:∀v,P 1 v->v=b) {c:Nat} (K8:St 0 s.heap)
  (hS:s.heap.get? S=some {cls:= .type "list",dict:=none,data:= .seq #[] c,slots:= #[]})
  (Mb:∀h' tk,(∀b o,b∉wr->b≠S->s.heap.get? b=some o->h'.get? b=some o)->LtAt A.in1 {s with heap:=h',toks:=tk} b a lt)
  (hR:∀h' tk,(∀b o,b∉wr->b≠S->s.heap.get? b=some o->h'.get? b=some o)->R (.ok (.ret (if lt then b else a))) {s with heap:=h',toks:=tk}):
  codeAny (model prog w) A (.builtin "min.loop" ⟨[.ref I, .none, .ref S],[]⟩) R s:=by
 have Nh:S∉wr:=fun h=>Lw (Wq.sub _ h);have La:(toString "min"++toString ".loop":String)="min.loop":=by decide
 refine BQ F.entry_min_loop ?_;rw[BB CT _];show wpAny _ A.in1 (seqItems? (.ref S)>>=_) _ _ s;refine A0 (B7 hS rfl ?_);show wpAny _ A.in1 (tryCatch (pyNext (.ref I)) _>>=_) _ _ s;refine A0 (CS (Wq.item 0 s _ _ (by decide) K8 fun v h' tk hv L8 hk=> ?_));rw[hP0 v hv];have LB:=hk S _ Nh hS;show wpAny _ A.in1 (updateSeq S (fun _=> #[a,a])>>=_) _ _ _;refine A0 (C6 LB rfl ?_);rw[La];refine A3 ⟨BX CT _,FB (lt:=lt) Wq Lw hP (Wq.frame _ _ _ L8 fun b P0 o e=> ?_) (B4 _ LB rfl) (fun MN Lu Lv=> ?_) fun MN Lu Lv=> ?_⟩
 .exact(AX _ _ (fun h:S=b=>Lw (by rw[h];exact P0))).trans e
 .exact Mb MN Lu fun b o Ls LN e=>Lv b o Ls LN ((AX _ _ (BG LN)).trans (hk b o Ls e))
 .exact hR MN Lu fun b o Ls LN e=>Lv b o Ls LN ((AX _ _ (BG LN)).trans (hk b o Ls e))
end
section
variable {prog:Qp}{w:Qr}{A:Qs}{E:NR->Qn->Prop}{s:Qn}
theorem min_two_at {a b:NR}{lt:Bool}{Q:NR->Qn->Prop} (hh:A.handled=none)
  (Mb:∀h' tk,(∀c o,s.heap.get? c=some o->h'.get? c=some o)->LtAt A.in1 {s with heap:=h',toks:=tk} b a lt)
  (h:∀h' tk,(∀c o,s.heap.get? c=some o->h'.get? c=some o)->Q (if lt then b else a) {s with heap:=h',toks:=tk}):
  wpAny (model prog w) A (call (.builtin "min") [a,b]) Q E s:=by
 have La:(toString "min"++toString ".loop":String)="min.loop":=by decide
 have hT:(s.heap.push {cls:= .type "tuple",data:= .seq #[a,b]}).IsTuple s.heap.objs.size #[a,b]:=⟨_,AB _ rfl,rfl,0,rfl⟩;have hsz:(s.heap.push {cls:= .type "tuple",data:= .seq #[a,b]}).objs.size=s.heap.objs.size+1:=An ..
 refine call_function_tree F.kind_min F.plain_min F.entry_min (F.args_min2 _ _) ?_;show wpAny _ A.in1 (Builtin.Builtins.bindParams "min" ["key","default"] 0 ⟨[],[]⟩>>=_) _ _ s;refine A0 (Co (show Builtin.Builtins.bindParams "min" ["key","default"] 0 ⟨[],[]⟩=pure [none,none] from rfl) ?_);show wpAny _ A.in1 (newTuple [a,b]>>=_) _ _ s;refine A0 (Am ?_);refine A0 (CF hT ?_);refine A0 (Am ?_);rw[La];have Wq:=Walks.tuple (prog:=prog) (w:=w) (A:=A.in1) hh (s.heap.push {cls:= .type "tuple",data:= .seq #[a,b]}).objs.size s.heap.objs.size (by rw[hsz];exact AO (BN _)) #[a,b];have LL:∀h':Qv,(∀c o,c∉[(s.heap.push {cls:= .type "tuple",data:= .seq #[a,b]}).objs.size]->c≠((s.heap.push {cls:= .type "tuple",data:= .seq #[a,b]}).push {cls:= .type "tuple_iterator",data:= .fields #[.ref s.heap.objs.size, .int 0 0]}).objs.size->(((s.heap.push {cls:= .type "tuple",data:= .seq #[a,b]}).push {cls:= .type "tuple_iterator",data:= .fields #[.ref s.heap.objs.size, .int 0 0]}).push {cls:= .type "list",data:= .seq #[]}).get? c=some o->h'.get? c=some o)->∀c o,s.heap.get? c=some o->h'.get? c=some o:=fun h' hk c o e=>by
  have hl:=AM e;refine hk c o (fun hm=> ?_) (fun hm=> ?_) (A4 _ (A4 _ (A4 _ e)))
  .rcases AI.mp hm with e1|hm
   .rw [e1,hsz] at hl;exact Bb _ (CY hl)
   .cases hm
  .rw [hm,An,hsz] at hl;exact Bb _ (CY (CY hl))
 refine A3 ⟨BX CT _,FC (a:=a) (b:=b) (lt:=lt) Wq (fun hm=> ?_) (fun v hv=> ?_) (fun v hv=> ?_) (Wq.frame _ _ _ ⟨⟨_,AB _ rfl,rfl,rfl⟩,hT.push _⟩ fun c _ o e=>A4 _ e) (AB _ rfl) (fun h' tk hk=>Mb h' tk (LL h' hk)) fun h' tk hk=>h h' tk (LL h' hk)⟩
 .simp only[AI,As,Bu,An] at hm;have hm:s.heap.objs.size+1+1=s.heap.objs.size+1\/s.heap.objs.size+1+1=s.heap.objs.size:=hm;lia
 .simpa using hv.symm
 .simpa using hv.symm
end
section
variable {prog:Qp}{w:Qr}{A:Qs}{R:Result->Qn->Prop}{I S:Qo}{fp wr:Qt Qo}{P:Nat->NR->Prop}{St:Nat->Qv->Prop}{a b:NR}{lt:Bool}
theorem uo (Wq:Walks prog w A.in1 I fp wr 2 P St) (Lw:S∉fp) {c:Nat}{v:NR} (K8:St 2 s.heap)
  (hS:s.heap.get? S=some {cls:= .type "list",dict:=none,data:= .seq #[v,v] c,slots:= #[]})
  (hR:∀h' tk,(∀b o,b∉wr->b≠S->s.heap.get? b=some o->h'.get? b=some o)->R (.ok (.ret v)) {s with heap:=h',toks:=tk}):
  codeAny (model prog w) A (.builtin "max.loop" ⟨[.ref I, .none, .ref S],[]⟩) R s:=by
 have Nh:S∉wr:=fun h=>Lw (Wq.sub _ h);refine BQ F.entry_max_loop ?_;rw[BB CU _];show wpAny _ A.in1 (seqItems? (.ref S)>>=_) _ _ s;refine A0 (B7 hS rfl ?_);show wpAny _ A.in1 (tryCatch (pyNext (.ref I)) _>>=_) _ _ s;refine A0 (CS (Wq.done s _ _ K8 fun h' tk hk=> ?_));show wpAny _ A.in1 (updateSeq S (fun _=> #[])>>=_) _ _ _;refine A0 (C6 (hk S _ Nh hS) rfl (A0 (CL (A3 ?_))));exact hR _ tk fun b o Ls LN e=>(AX _ _ (BG LN)).trans (hk b o Ls e)
theorem FD (Wq:Walks prog w A.in1 I fp wr 2 P St) (Lw:S∉fp) (hP:∀v,P 1 v->v=b) {c:Nat} (K8:St 1 s.heap)
  (hS:s.heap.get? S=some {cls:= .type "list",dict:=none,data:= .seq #[a,a] c,slots:= #[]})
  (Mb:∀h' tk,(∀b o,b∉wr->b≠S->s.heap.get? b=some o->h'.get? b=some o)->GtAt A.in1 {s with heap:=h',toks:=tk} b a lt)
  (hR:∀h' tk,(∀b o,b∉wr->b≠S->s.heap.get? b=some o->h'.get? b=some o)->R (.ok (.ret (if lt then b else a))) {s with heap:=h',toks:=tk}):
  codeAny (model prog w) A (.builtin "max.loop" ⟨[.ref I, .none, .ref S],[]⟩) R s:=by
 have Nh:S∉wr:=fun h=>Lw (Wq.sub _ h);have La:(toString "max"++toString ".loop":String)="max.loop":=by decide
 refine BQ F.entry_max_loop ?_;rw[BB CU _];show wpAny _ A.in1 (seqItems? (.ref S)>>=_) _ _ s;refine A0 (B7 hS rfl ?_);show wpAny _ A.in1 (tryCatch (pyNext (.ref I)) _>>=_) _ _ s;refine A0 (CS (Wq.item 1 s _ _ (by decide) K8 fun v h' tk hv L8 hk=> ?_));rw[hP v hv];have LB:=hk S _ Nh hS;show wpAny _ A.in1 (tryCatch (holding [b,b] (richCompare .Gt b a>>=_)) _>>=_) _ _ _;refine A0 (CS (Ar (A0 (Mb h' tk (fun b o Ls _ e=>hk b o Ls e) prog w _ _ ?_))));refine A0 (Ar (BS ?_));refine A0 (CL (A3 ?_));cases lt with
 |true=>
  simp only[C0] at hR⊢;refine A0 (C6 LB rfl (A0 (CL ?_)));rw[La];refine A3 ⟨BX CU _,uo Wq Lw (Wq.frame _ _ _ L8 fun b P0 o e=> ?_) (B4 _ LB rfl) fun MN Lu Lv=> ?_⟩
  .exact(AX _ _ (fun h:S=b=>Lw (by rw[h];exact P0))).trans e
  .exact hR MN Lu fun b o Ls LN e=>Lv b o Ls LN ((AX _ _ (BG LN)).trans (hk b o Ls e))
 |false=>
  simp only[AG,Ap] at hR⊢;refine A0 (CL ?_);rw[La];refine A3 ⟨BX CU _,uo Wq Lw L8 LB fun MN Lu Lv=> ?_⟩;exact hR MN Lu fun b o Ls LN e=>Lv b o Ls LN (hk b o Ls e)
theorem FE (Wq:Walks prog w A.in1 I fp wr 2 P St) (Lw:S∉fp) (hP0:∀v,P 0 v->v=a) (hP:∀v,P 1 v->v=b) {c:Nat} (K8:St 0 s.heap)
  (hS:s.heap.get? S=some {cls:= .type "list",dict:=none,data:= .seq #[] c,slots:= #[]})
  (Mb:∀h' tk,(∀b o,b∉wr->b≠S->s.heap.get? b=some o->h'.get? b=some o)->GtAt A.in1 {s with heap:=h',toks:=tk} b a lt)
  (hR:∀h' tk,(∀b o,b∉wr->b≠S->s.heap.get? b=some o->h'.get? b=some o)->R (.ok (.ret (if lt then b else a))) {s with heap:=h',toks:=tk}):
  codeAny (model prog w) A (.builtin "max.loop" ⟨[.ref I, .none, .ref S],[]⟩) R s:=by
 have Nh:S∉wr:=fun h=>Lw (Wq.sub _ h);have La:(toString "max"++toString ".loop":String)="max.loop":=by decide
 refine BQ F.entry_max_loop ?_;rw[BB CU _];show wpAny _ A.in1 (seqItems? (.ref S)>>=_) _ _ s;refine A0 (B7 hS rfl ?_);show wpAny _ A.in1 (tryCatch (pyNext (.ref I)) _>>=_) _ _ s;refine A0 (CS (Wq.item 0 s _ _ (by decide) K8 fun v h' tk hv L8 hk=> ?_));rw[hP0 v hv];have LB:=hk S _ Nh hS;show wpAny _ A.in1 (updateSeq S (fun _=> #[a,a])>>=_) _ _ _;refine A0 (C6 LB rfl ?_);rw[La];refine A3 ⟨BX CU _,FD (lt:=lt) Wq Lw hP (Wq.frame _ _ _ L8 fun b P0 o e=> ?_) (B4 _ LB rfl) (fun MN Lu Lv=> ?_) fun MN Lu Lv=> ?_⟩
 .exact(AX _ _ (fun h:S=b=>Lw (by rw[h];exact P0))).trans e
 .exact Mb MN Lu fun b o Ls LN e=>Lv b o Ls LN ((AX _ _ (BG LN)).trans (hk b o Ls e))
 .exact hR MN Lu fun b o Ls LN e=>Lv b o Ls LN ((AX _ _ (BG LN)).trans (hk b o Ls e))
end
section
variable {prog:Qp}{w:Qr}{A:Qs}{E:NR->Qn->Prop}{s:Qn}
theorem max_two_at {a b:NR}{lt:Bool}{Q:NR->Qn->Prop} (hh:A.handled=none)
  (Mb:∀h' tk,(∀c o,s.heap.get? c=some o->h'.get? c=some o)->GtAt A.in1 {s with heap:=h',toks:=tk} b a lt)
  (h:∀h' tk,(∀c o,s.heap.get? c=some o->h'.get? c=some o)->Q (if lt then b else a) {s with heap:=h',toks:=tk}):
  wpAny (model prog w) A (call (.builtin "max") [a,b]) Q E s:=by
 have La:(toString "max"++toString ".loop":String)="max.loop":=by decide
 have hT:(s.heap.push {cls:= .type "tuple",data:= .seq #[a,b]}).IsTuple s.heap.objs.size #[a,b]:=⟨_,AB _ rfl,rfl,0,rfl⟩;have hsz:(s.heap.push {cls:= .type "tuple",data:= .seq #[a,b]}).objs.size=s.heap.objs.size+1:=An ..
 refine call_function_tree F.kind_max F.plain_max F.entry_max (F.args_max2 _ _) ?_;show wpAny _ A.in1 (Builtin.Builtins.bindParams "max" ["key","default"] 0 ⟨[],[]⟩>>=_) _ _ s;refine A0 (Co (show Builtin.Builtins.bindParams "max" ["key","default"] 0 ⟨[],[]⟩=pure [none,none] from rfl) ?_);show wpAny _ A.in1 (newTuple [a,b]>>=_) _ _ s;refine A0 (Am ?_);refine A0 (CF hT ?_);refine A0 (Am ?_);rw[La];have Wq:=Walks.tuple (prog:=prog) (w:=w) (A:=A.in1) hh (s.heap.push {cls:= .type "tuple",data:= .seq #[a,b]}).objs.size s.heap.objs.size (by rw[hsz];exact AO (BN _)) #[a,b];have LL:∀h':Qv,(∀c o,c∉[(s.heap.push {cls:= .type "tuple",data:= .seq #[a,b]}).objs.size]->c≠((s.heap.push {cls:= .type "tuple",data:= .seq #[a,b]}).push {cls:= .type "tuple_iterator",data:= .fields #[.ref s.heap.objs.size, .int 0 0]}).objs.size->(((s.heap.push {cls:= .type "tuple",data:= .seq #[a,b]}).push {cls:= .type "tuple_iterator",data:= .fields #[.ref s.heap.objs.size, .int 0 0]}).push {cls:= .type "list",data:= .seq #[]}).get? c=some o->h'.get? c=some o)->∀c o,s.heap.get? c=some o->h'.get? c=some o:=fun h' hk c o e=>by
  have hl:=AM e;refine hk c o (fun hm=> ?_) (fun hm=> ?_) (A4 _ (A4 _ (A4 _ e)))
  .rcases AI.mp hm with e1|hm
   .rw [e1,hsz] at hl;exact Bb _ (CY hl)
   .cases hm
  .rw [hm,An,hsz] at hl;exact Bb _ (CY (CY hl))
 refine A3 ⟨BX CU _,FE (a:=a) (b:=b) (lt:=lt) Wq (fun hm=> ?_) (fun v hv=> ?_) (fun v hv=> ?_) (Wq.frame _ _ _ ⟨⟨_,AB _ rfl,rfl,rfl⟩,hT.push _⟩ fun c _ o e=>A4 _ e) (AB _ rfl) (fun h' tk hk=>Mb h' tk (LL h' hk)) fun h' tk hk=>h h' tk (LL h' hk)⟩
 .simp only[AI,As,Bu,An] at hm;have hm:s.heap.objs.size+1+1=s.heap.objs.size+1\/s.heap.objs.size+1+1=s.heap.objs.size:=hm;lia
 .simpa using hv.symm
 .simpa using hv.symm
end
theorem FF (l b:Qo) (items KP:Array NR) (n n2:Nat) (dd Mg:Qw Qo) (sl Mh:Array (Qw NR)) (e f:Nat->Bool):
  Meets (Builtin.«tuple.__gt__» ⟨[.ref l, .ref b],[]⟩)
   (fun A R s=>s.heap.get? l=some {cls:= .type "tuple",dict:=dd,data:= .seq items n,slots:=sl}/\s.heap.get? b=some {cls:= .type "tuple",dict:=Mg,data:= .seq KP n2,slots:=Mh}/\
    (∀j (h1:j<items.size) (h2:j<KP.size),EqAt A.in1 s items[j] KP[j] (e j))/\(∀j (h1:j<items.size) (h2:j<KP.size),e j=false->GtAt A.in1 s items[j] KP[j] (f j))/\
    R (.ok (.ret (.bool (lex e f KP.size items.size (min items.size KP.size) 0)))) s):=
 .of_wp fun prog w A R s h=>by
  obtain⟨hp,g,d,tk,os⟩:=s;obtain⟨hl,hb,he,hf,h⟩:=h;have f2:=AutoSeq1.sub_tuple_tuple;have hZ:(items.toList.zip KP.toList).length=min items.size KP.size:=by simp
  wp_walk using wpAny_loadPart' hl,CJ hb,BW _ (fun aF b s'=>b.1=none/\s'=⟨hp,g,d,tk,os⟩/\∃i,aF=(items.toList.zip KP.toList).drop i/\i<=min items.size KP.size/\
   R (.ok (.ret (.bool (lex e f KP.size items.size (min items.size KP.size-i) i)))) ⟨hp,g,d,tk,os⟩) _
  case turn=>
   rintro⟨y,x⟩ aF b s' ⟨MV,rfl,i,hz,PL,hR⟩;have KU:i<(items.toList.zip KP.toList).length:=by
    rcases Bo i (items.toList.zip KP.toList).length with h'|h'
    .exact h'
    .rw [Bd h'] at hz;cases hz
   have hm:i<min items.size KP.size:=hZ▸KU;have h1:i<items.size:=Aj hm (Nat.min_le_left _ _);have h2:i<KP.size:=Aj hm (Nat.min_le_right _ _);rw[Ai KU] at hz;injection hz with hyx hrest;have hy:y=items[i]:=by have:=BU Prod.fst hyx;simpa using this
   have hx:x=KP[i]:=by have:=BU Prod.snd hyx;simpa using this
   subst hy hx;rw[show min items.size KP.size-i=(min items.size KP.size-(i+1))+1 by lia,lex] at hR;refine A0 (he i h1 h2 prog w _ _ ?_);cases hy:e i with
   |true=>
    rw[hy,A7 rfl] at hR
    wp_walk
    exact⟨rfl,rfl,i+1,hrest,by lia,hR⟩
   |false=>
    rw[hy,A5 (by simp)] at hR;rw[A7 (show(!false)=true from rfl)];refine A0 (CP ?_);refine A0 (hf i h1 h2 hy prog w _ _ ?_)
    wp_walk
    exact⟨_,rfl,hR⟩
  case fin=>
   rintro⟨b1,b2⟩ s' ⟨MV,rfl,i,hz,PL,hR⟩;simp only at MV;subst MV;have hi:i=min items.size KP.size:=by
    rcases Bo i (items.toList.zip KP.toList).length with h'|h'
    .rw [Ai h'] at hz;cases hz
    .lia
   subst hi;rw[Nat.sub_self] at hR
   wp_walk
   exact⟨_,rfl,hR⟩
  case h=>
   exact⟨rfl,rfl,0,rfl,AL _,by simpa using h⟩
section
variable {A:Qs}{s:Qn}
def GtAt.int_int (i:Int) (t:Tok) (j:Int) (u:Tok):GtAt A s (.int i t) (.int j u) (decide (i>j)):=fun prog w E Q h=>
 CmpOf.ints_gt (prog:=prog) (w:=w) (A:=A) (P:=fun n v=>∃t,v= .int (if n=0 then i else j) t) (fun n=>if n=0 then i else j) (fun _ _ h=>h) 0 1 _ _ s Q E ⟨t,rfl⟩ ⟨u,rfl⟩ h
theorem GtAt.tuples {l b:Qo}{items KP:Array NR}{e f:Nat->Bool} (hl:s.heap.IsTuple l items) (hb:s.heap.IsTuple b KP) (hu:A.units<cLine)
  (he:∀j (h1:j<items.size) (h2:j<KP.size),EqAt A.in1 s items[j] KP[j] (e j)) (hf:∀j (h1:j<items.size) (h2:j<KP.size),e j=false->GtAt A.in1 s items[j] KP[j] (f j)):
  GtAt A s (.ref l) (.ref b) (lex e f KP.size items.size (min items.size KP.size) 0):=fun prog w E Q h=>by
 obtain⟨⟨cls,dd,data,sl⟩,ho,hc,n,hd⟩:=id hl;obtain⟨⟨NJ,Mg,data2,Mh⟩,LK,LO,n2,LW⟩:=id hb;simp only at hc hd LO LW;subst hc hd LO LW;exact richCompare_meets_room (op:= .Gt) ⟨_,ho,rfl⟩ ⟨_,LK,rfl⟩ F.slot_tuple_gt F.entry_tuple_gt (F.args_tuple_gt_2 _ _) (FF l b items KP n n2 dd Mg sl Mh e f)
  ⟨ho,LK,he,hf,show Value.bool (lex e f KP.size items.size (min items.size KP.size) 0)≠Value.notImplemented/\Q (.bool (lex e f KP.size items.size (min items.size KP.size) 0)) s from⟨(fun x=>nomatch x),h⟩⟩ hu
end
end PySem.SeqAt
namespace L2
open PySem PySem.Spec PyProof.Rows
variable {H H1:Hp}{K:W.Frag}{LM:Qt Qu}{P:Qp}{Q:NR->Qn->Prop}{X:Cx}{a acc b i1 i2 it l1 l2 z:Qo}{g:TG}{i k1 own:Nat}{js:Qt Nat}{pos:Pos}{tb:TS}{te:TE}{vs ys:Array NR}{w:Qr}{x:NR}{xs:Qt V}
variable {X:Cx}
theorem FG (hc:X.calm=true) {k:Nat} (hr:Room k X.A):bL X (.builtin "min") (fun vs H Q=>∃x y d e,vs=[x,y]/\LtR X.K H d y x e/\d<=8/\Q (if e then y else x) H):=by
 intro KO s σ H xs us Q I r h;obtain⟨x,y,d,e,rfl,hl,hd,q⟩:=h;obtain⟨u,v,rfl,ru,rv⟩:=fR r;have hu:=hr.un;refine SeqAt.min_two_at (lt:=e) (I.ok.hd hc) (fun h' tk k=>hl.bN (I.kept k) (A:=X.A.in1) (by rw[bU];lia) rv ru) fun h' tk k=>⟨_,H,I.kept k, ?_,q⟩;cases e
 .exact ru
 .exact rv
def gtI (p q:Int×Int):Bool:=if p.1=q.1 then decide (p.2>q.2) else decide (p.1>q.1)
theorem FH (hc:X.calm=true) {k:Nat} (hr:Room k X.A):bL X (.builtin "max") (fun vs H Q=>∃(a b:Qo) (p q:Int×Int),vs=[.ref a, .ref b]/\SqT X.K H a [.int p.1, .int p.2]/\SqT X.K H b [.int q.1, .int q.2]/\Q (if gtI q p then .ref b else .ref a) H):=by
 intro KO s σ H xs us Q I r h;obtain⟨a,b,p,q,rfl,hp,hq,qq⟩:=h;obtain⟨u,v,rfl,ru,rv⟩:=fR r;have hu:=hr.un;obtain rfl:u=Value.ref a:=ru;obtain rfl:v=Value.ref b:=rv;refine SeqAt.max_two_at (lt:=gtI q p) (I.ok.hd hc) (fun h' tk kp=> ?_) fun h' tk kp=>⟨_,H,I.kept kp, ?_,qq⟩
 .obtain⟨is,r1,p1,z1⟩:=(I.kept kp).tuple hp;obtain⟨js,r2,p2,z2⟩:=(I.kept kp).tuple hq;obtain⟨u1,u2,rfl,⟨t1,rfl⟩,⟨t2,rfl⟩⟩:=fR r1;obtain⟨w1,w2,rfl,⟨t3,rfl⟩,⟨t4,rfl⟩⟩:=fR r2;have g:=SeqAt.GtAt.tuples (A:=X.A.in1) (e:=fun j=>if j=0 then decide (q.1=p.1) else decide (q.2=p.2)) (f:=fun j=>if j=0 then decide (q.1>p.1) else decide (q.2>p.2)) p2 p1 (by rw[bU];lia) (fun j h1 h2=> ?_) (fun j h1 h2 _=> ?_)
  .have e:SeqAt.lex (fun j=>if j=0 then decide (q.1=p.1) else decide (q.2=p.2)) (fun j=>if j=0 then decide (q.1>p.1) else decide (q.2>p.2)) 2 2 2 0=gtI q p:=by
    unfold gtI;by_cases c:q.1=p.1
    .by_cases c2:q.2=p.2
     .simp [SeqAt.lex,c,c2]
     .simp [SeqAt.lex,c,c2]
    .simp [SeqAt.lex,c]
   rw[<-e];exact g
  .match j,h1,h2 with
   |0,_,_=>exact SeqAt.EqAt.int_int q.1 t3 p.1 t1
   |1,_,_=>exact SeqAt.EqAt.int_int q.2 t4 p.2 t2
  .match j,h1,h2 with
   |0,_,_=>exact SeqAt.GtAt.int_int q.1 t3 p.1 t1
   |1,_,_=>exact SeqAt.GtAt.int_int q.2 t4 p.2 t2
 .cases gtI q p
  .rfl
  .rfl
open PySem.W
abbrev Mx (K:Type):=Sum K (Qt K)
variable {ks:Qt (Mx Int)}
def isL {K:Type}:Mx K->Bool
 | .inl _=>true
 | .inr _=>false
section
variable {prog:Qp}{w:Qr}{K:Type} [DecidableEq K] {knd:KeyKind prog w K}
inductive ItemsM (knd:KeyKind prog w K) (h:Heap):List (Mx K)->List Value->Prop
 |nil:ItemsM knd h [] []
 |val {k:K}{v:Value}{ks:List (Mx K)}{vs:List Value}:knd.is k v=true->ItemsM knd h ks vs->ItemsM knd h (.inl k::ks) (v::vs)
 |tup {k:List K}{a:Addr}{ks:List (Mx K)}{vs:List Value}:IsTupleKey knd h k a->ItemsM knd h ks vs->ItemsM knd h (.inr k::ks) (.ref a::vs)
def cN (knd:KeyKind prog w K) (sh:Qt Bool) (h:Qv) (ks:Qt (Mx K)) (a:Qo):Prop:=ks.map isL=sh/\∃o items n,h.get? a=some o/\o.cls= .type "tuple"/\o.data= .seq items n/\ItemsM knd h ks items.toList
theorem ItemsM.inj {h:Qv}{x y:Qt (Mx K)}{vs:Qt NR} (hx:ItemsM knd h x vs) (hy:ItemsM knd h y vs) (e:x.map isL=y.map isL):x=y:=by
 induction hx generalizing y with
 |nil=>cases hy;rfl
 |val h1 _ ih=>
  cases hy with
  |val h2 t2=>rw[knd.inj _ _ _ h1 h2,ih t2 (by simpa[isL] using e)]
  |tup h2 t2=>simp[isL] at e
 |tup h1 _ ih=>
  cases hy with
  |val h2 t2=>simp[isL] at e
  |tup h2 t2=>rw[h1.inj h2,ih t2 (by simpa[isL] using e)]
theorem ItemsM.keeps {h h':Qv}{x:Qt (Mx K)}{vs:Qt NR}{d:Qo}{o:Obj}{es ep} (hx:ItemsM knd h x vs) (ho:h.get? d=some o) (hd:o.data= .dict es ep) (hs:Heap.SameBut d h h'):ItemsM knd h' x vs:=by
 induction hx with
 |nil=>exact .nil
 |val h1 _ ih=>exact .val h1 ih
 |tup h1 _ ih=>exact .tup (h1.keeps ho hd hs) ih
variable {sh:Qt Bool}
def cN.typeIs {s:Qn}{ks:Qt (Mx K)}(x:cN knd sh s.heap ks a):s.TypeIs (.ref a) "tuple":=let ⟨_,o,_,_,ho,hc,_⟩:=x;⟨o,ho,hc⟩
theorem cN.inj {h:Qv}{a:Qo}{x y:Qt (Mx K)} (hx:cN knd sh h x a) (hy:cN knd sh h y a):x=y:=by
 obtain⟨e1,o,items,n,ho,_,hd,hi⟩:=hx;obtain⟨e2,o',PX,n',Lr,_,LU,LP⟩:=hy;obtain rfl:o=o':=Ac (ho.symm.trans Lr);rw[hd] at LU;injection LU with h1 _;subst h1;exact hi.inj LP (e1.trans e2.symm)
theorem cN.keeps {h h':Qv}{ks:Qt (Mx K)}{a d:Qo}{o:Obj}{es ep} (x:cN knd sh h ks a) (ho:h.get? d=some o) (hd:o.data= .dict es ep) (hs:Heap.SameBut d h h'):cN knd sh h' ks a:=by
 obtain⟨e,o',items,n,Lr,hc,LU,hi⟩:=x;have LD:a≠d:=by
  rintro rfl;obtain rfl:o'=o:=Ac (Lr.symm.trans ho);rw[hd] at LU;exact nomatch LU
 exact⟨e,o',items,n,(hs.2 a LD).trans Lr,hc,LU,hi.keeps ho hd hs⟩
def eC (knd:KeyKind prog w K):Mx K->Int
 | .inl k=>knd.hash k
 | .inr ks=>tupleKeyHash knd ks
def gU {K:Type}:Mx K->Nat
 | .inl _=>1
 | .inr ks=>ks.length+1
def mX (knd:KeyKind prog w K) (ks:Qt (Mx K)):Int:=reduceHash (Builtin.Tuple.tupleHashOf (ks.map (eC knd)))
def mY (ks:Qt (Mx K)):Nat:=(ks.map gU).sum+1
variable {A:Qs}{E:NR->Qn->Prop}{s:Qn}
theorem FI {ks:Qt (Mx K)}{Q:Int->Qn->Prop} (hu:A.units+1<cLine) (hk:cN knd sh s.heap ks a) (h:Q (mX knd ks) {s with toks:=s.toks+mY ks}):
  wpAny (model prog w) A (pyHash (.ref a)) Q E s:=by
 have hT:=hk.typeIs;obtain⟨_,o,items,n,ho,_,hd,hi⟩:=hk;unfold pyHash;first|unfold pyHashByItsType|skip
 first|refine A0 (wpAny_cRoomFor_or (.inr (by lia)) ?_)|skip
 refine A0 (Bt hT Bx.lookup ?_);show wpAny _ _ (if(some (Value.builtin "tuple.__hash__")==some Value.none)=true then _ else _) Q E s;rw[A5 (by rw[beq_builtin_none];exact AV)];refine A0 (Bt hT Bx.lookup ?_);show wpAny _ _ (callSpecialIfBoundUnlessNone? (.ref a) "__hash__" _>>=_) Q E s;refine A0 (wpAny_callSpecialIfBoundUnlessNone?_slot hT Bx (Af Bx hT F.entry_tuple_hash ?_ (F.args_tuple_hash_1 _)));show wpAny _ _ (Builtin.Tuple.tupleItemsOf (.ref a)>>=_) _ _ s;refine A0 (CZ ho hd ?_);refine A0 ?_;rw[<-C9];refine BW _
  (fun aF (b:Array Int) s'=>∃done left,ks=done++left/\ItemsM knd s.heap left aF/\b.toList=done.map (eC knd)/\s'={s with toks:=s.toks+(done.map gU).sum})
  _ ?_ ?_ _ _ ⟨[],ks,rfl,hi,rfl,rfl⟩
 .rintro x aF b s' ⟨done,left,rfl,hl,hb,rfl⟩;cases hl with
  | @val k v1 ks' _ h1 Nz=>
   refine A0 (knd.pyHash h1 ?_);first
    |exact A3 ⟨done++[.inl k],ks',by simp,Nz,by simp[hb,eC],by simp[C5,gU]⟩
    |exact A0 (A3 (A3 ⟨done++[.inl k],ks',by simp,Nz,by simp[hb,eC],by simp[C5,gU]⟩))
  | @tup k a1 ks' _ h1 Nz=>
   refine A0 (wpAny_pyHash_tuple (knd:=knd) (ks:=k) (by first|exact hu|(rw[bU];lia)|(simp;lia)) h1 ?_);first
    |exact A3 ⟨done++[.inr k],ks',by simp,Nz,by simp[hb,eC],by simp[C5,gU]⟩
    |exact A0 (A3 (A3 ⟨done++[.inr k],ks',by simp,Nz,by simp[hb,eC],by simp[C5,gU]⟩))
 .rintro b s' ⟨done,left,rfl,hl,hb,rfl⟩;cases hl;rw[B5] at h;show wpAny _ _ (retInt (Builtin.Tuple.tupleHashOf b.toList)) _ _ _;rw[hb];refine wpAny_ret_mkInt ?_;show wpAny _ _ (if(decide (-(2:Int)^63<=Builtin.Tuple.tupleHashOf (done.map (eC knd)))&&decide (Builtin.Tuple.tupleHashOf (done.map (eC knd))<2^63))=true then _ else _) Q E _;unfold mX reduceHash mY at h;by_cases hr:(decide (-(2:Int)^63<=Builtin.Tuple.tupleHashOf (done.map (eC knd)))&&decide (Builtin.Tuple.tupleHashOf (done.map (eC knd))<2^63))=true
  .rw [A7 hr];rw[A7 hr] at h;exact A3 (by simpa[C5] using h)
  .rw [A5 hr];rw[A5 hr] at h;exact A0 (CP (A3 (by simpa[C5] using h)))
theorem FK {x y:Qt (Mx K)}{P:Fin->Qn->Prop} (hu:A.units<cLine) (hx:cN knd sh s.heap x a) (hy:cN knd sh s.heap y b) (h:P (.done (.ret (.bool (decide (x=y))))) s):
  wpAny (model prog w) A (Builtin.«tuple.__eq__» ⟨[.ref a, .ref b],[]⟩) P E s:=by
 have hTb:=hy.typeIs;obtain⟨sx,oa,xs,na,hoa,_,L4,hia⟩:=hx;obtain⟨sy,ob,ys,nb,NS,_,NI,hib⟩:=hy;show wpAny _ _ (isInstance (.ref b) (.type "tuple")>>=_) _ _ s;refine A0 (Bj hTb Ch ?_);simp only[BF,AG,Ap];refine A0 (CZ hoa L4 ?_);refine A0 (CZ NS NI ?_);refine A0 ?_;refine BW _
  (fun aF r s'=>r.1=none/\s'=s/\∃x' y' MK NY,aF=List.zip MK NY/\ItemsM knd s.heap x' MK/\ItemsM knd s.heap y' NY/\decide (x'=y')=decide (x=y)/\x'.map isL=y'.map isL/\(MK.length==NY.length)=(xs.size==ys.size))
  _ ?_ ?_ _ _ ⟨rfl,rfl,x,y,xs.toList,ys.toList,rfl,hia,hib,rfl,sx.trans sy.symm,by simp⟩
 .rintro⟨u,v⟩ aF r s' ⟨hr,rfl,x',y',MK,NY,hz,K4,LQ,Ma,Py,KS⟩;cases K4 with
  |nil=>simp at hz
  | @val k1 v1 x'' xs'' h1 hx''=>
   cases LQ with
   |nil=>simp at hz
   |tup _ _=>simp[isL] at Py
   | @val k2 v2 Om ys'' h2 MZ=>
    simp only[DP,CC,DD] at hz;obtain⟨⟨rfl,rfl⟩,rfl⟩:=hz;refine A0 (knd.eqBool h1 h2 ?_);by_cases hk:k1=k2
    .subst hk;rw[At rfl];simp only[BF,AG,Ap];refine A3 ⟨rfl,rfl,x'',Om,xs'',ys'',rfl,hx'',MZ, ?_,by simpa using Py,by simpa using KS⟩;rw[<-Ma];by_cases O5:x''=Om
     .simp [O5]
     .simp [O5]
    .rw [Ae hk];simp only[Ce,C0];have hf:decide (x=y)=false:=by rw[<-Ma];simp[hk]
     rw[hf] at h;exact A0 (A3 (A3 (A3 h)))
  | @tup k1 a1 x'' xs'' h1 hx''=>
   cases LQ with
   |nil=>simp at hz
   |val _ _=>simp[isL] at Py
   | @tup k2 a2 Om ys'' h2 MZ=>
    simp only[DP,CC,DD] at hz;obtain⟨⟨rfl,rfl⟩,rfl⟩:=hz;refine A0 (wpAny_eqBool_tuple (knd:=knd) (x:=k1) (y:=k2) (by first|exact hu|(rw[bU];lia)|(simp;lia)) h1 h2 ?_);by_cases hk:k1=k2
    .subst hk;rw[At rfl];simp only[BF,AG,Ap];refine A3 ⟨rfl,rfl,x'',Om,xs'',ys'',rfl,hx'',MZ, ?_,by simpa using Py,by simpa using KS⟩;rw[<-Ma];by_cases O5:x''=Om
     .simp [O5]
     .simp [O5]
    .rw [Ae hk];simp only[Ce,C0];have hf:decide (x=y)=false:=by rw[<-Ma];simp[hk]
     rw[hf] at h;exact A0 (A3 (A3 (A3 h)))
 .rintro⟨r1,r2⟩ s' ⟨hr,rfl,x',y',MK,NY,hz,K4,LQ,Ma,Py,KS⟩;simp only at hr;subst hr;refine A3 ?_;have PY:(xs.size==ys.size)=decide (x=y):=by
   rw[<-Ma,<-KS];cases K4 with
   |nil=>
    cases LQ with
    |nil=>simp
    |val _ _=>simp
    |tup _ _=>simp
   |val _ _=>
    cases LQ with
    |nil=>simp
    |val _ _=>simp at hz
    |tup _ _=>simp at hz
   |tup _ _=>
    cases LQ with
    |nil=>simp
    |val _ _=>simp at hz
    |tup _ _=>simp at hz
  show P (.done (.ret (.bool (xs.size==ys.size)))) s';rw[PY];exact h
theorem FL {x y:Qt (Mx K)}{Q:Bool->Qn->Prop} (hu:A.units+1<cLine) (hx:cN knd sh s.heap x a) (hy:cN knd sh s.heap y b) (h:Q (decide (x=y)) s):
  wpAny (model prog w) A (eqBool (.ref a) (.ref b)) Q E s:=by
 unfold eqBool;try with_reducible refine Ar ?_
 show wpAny _ _ (if(Value.ref a==Value.ref b)=true then _ else _) Q E s;by_cases PZ:(Value.ref a==Value.ref b)=true
 .rw [A7 PZ];have e:a=b:=by have:=eq_of_beq PZ;injection this
  subst e;obtain rfl:=hx.inj hy;exact A0 (CP (A3 (by simpa using h)))
 .rw [A5 PZ];exact A0 (wpAny_richCompare_same_room (op:= .Eq) hx.typeIs hy.typeIs Cd
   (Af Cd hx.typeIs F.entry_tuple_eq (FK (by first|lia|(rw[bU];lia)|(simp;lia)) hx hy ⟨_,rfl,(fun e=>nomatch e),BS h⟩) (F.args_tuple_eq_2 _ _)) (by lia))
theorem FM {ks:Qt (Mx K)}{Q:Bool->Qn->Prop} (hk:cN knd sh s.heap ks a) (h:Q true s):wpAny (model prog w) A (eqIsQuiet 8 (.ref a)) Q E s:=by
 have hT:=hk.typeIs;obtain⟨_,o,items,n,ho,_,hd,hi⟩:=hk;unfold eqIsQuiet;refine A0 (Bt hT Cd.lookup ?_);show wpAny _ _ (isInstance (.ref a) (.type "tuple")>>=_) _ _ s;refine A0 (Bj hT Ch ?_);simp only[BF,AG,Ap];refine A0 (B7 ho hd ?_);refine A0 ?_;show wpAny _ _ (forIn items _ _) _ _ s;rw[<-C9];refine BW _ (fun aF r s'=>r.1=none/\s'=s/\∃x,ItemsM knd s.heap x aF) _ ?_ ?_ _ _ ⟨rfl,rfl,ks,hi⟩
 .rintro v aF r s' ⟨hr,rfl,x,Lm⟩;cases Lm with
  |val h1 ht=>
   rw[eqIsQuiet_byValue _ (knd.byValue _ _ h1)];refine A0 (A3 ?_);simp only[BF,AG,Ap];exact A3 ⟨rfl,rfl,_,ht⟩
  |tup h1 ht=>
   refine A0 (tV h1 ?_);simp only[BF,AG,Ap];exact A3 ⟨rfl,rfl,_,ht⟩
 .rintro⟨r1,r2⟩ s' ⟨hr,rfl,_⟩;simp only at hr;subst hr;exact A3 h
end
def uq {prog:Qp}{K:Type} [DecidableEq K] (knd:KeyKind prog w K) (sh:Qt Bool):HeapKind prog w (Qt (Mx K)) where
 is:=cN knd sh
 hash:=mX knd
 draws:=mY
 room:=fun A=>A.units+1<cLine
 inj:=fun hx hy=>hx.inj hy
 keeps:=fun x ho hd hs=>x.keeps ho hd hs
 pyHash:=fun hu hk h=>FI hu hk h
 eqBool:=fun hu hx hy h=>FL hu hx hy h
 quiet:=fun hk h=>FM hk h
def mD:Mx Int->D
 | .inl i=> .i i
 | .inr t=>tI t
def qsh:Qt Bool:=[true,true,false,false]
def mK (ks:Qt (Mx Int)):D:= .t (ks.map mD)
def IsK (H:Hp) (ks:Qt (Mx Int)) (v:V):Prop:=ks.map isL=qsh/\Is H (mK ks) v
section
variable {P:Qp}{w:Qr}{H:Hp}{h:Qv}{a:Qo}
theorem mZ (ok:HOk P w H h):∀{ks:Qt (Mx Int)}{vs:Qt V}{us:Qt NR},Iss H (ks.map mD) vs->au vs us->ItemsM (intKind P w) h ks us
 |[],_,_,i,r=>by rw[bi i] at r;cases r;exact .nil
 | .inl k::ks,_,_,i,r=>by
  obtain⟨u,us,rfl,q,i2⟩:=aK i;obtain rfl:=aE q;cases r with
  |cons h t=>
   obtain⟨t',rfl⟩:=h;exact .val (show Value.isInt k (.int k t')=true by simp[Value.isInt]) (mZ ok i2 t)
 | .inr k::ks,_,_,i,r=>by
  obtain⟨u,us,rfl,q,i2⟩:=aK i;obtain⟨b,rfl,hb⟩:=bO q;cases r with
  |cons h t=>
   cases h;exact .tup (ui ok hb) (mZ ok i2 t)
theorem FN (ok:HOk P w H h) (e:IsK H ks (.ref a)):(uq (intKind P w) qsh).is h ks a:=by
 obtain⟨sh,e⟩:=e;obtain⟨b,vs,eb,hb,hi⟩:=bn e;cases eb;obtain⟨_,KQ,r,o,h1,h2,n,h3⟩:=(show aD P w H h a (.tup vs) from ok a _ hb);exact⟨sh,o,KQ.toArray,n,h1,h2,h3,by simpa using mZ ok hi r⟩
theorem FO {H':Hp} (ht:∀b ys,H b=some (.tup ys)->H' b=some (.tup ys)) {v:V} (h:IsK H ks v):IsK H' ks v:=by
 obtain⟨sh,h⟩:=h;obtain⟨b,vs,rfl,hb,hi⟩:=bn h;have go:∀{xs:Qt (Mx Int)}{vs:Qt V},Iss H (xs.map mD) vs->Iss H' (xs.map mD) vs:=by
  intro xs;induction xs with
  |nil=>intro vs h;rw[bi h];exact ao
  |cons x xs ih=>
   intro vs h;obtain⟨u,us,rfl,q,r⟩:=aK h;cases x with
   |inl k=>rw[show u= .int k from aE q];exact ak bq (ih r)
   |inr k=>
    obtain⟨c,rfl,hc⟩:=bO q;exact ak (eX (ht _ _ hc)) (ih r)
 exact⟨sh,bd (ht _ _ hb) (go hi)⟩
abbrev hkM (P:Qp) (w:Qr):=uq (intKind P w) qsh
instance mOk:KOk (hkM P w) IsK:=⟨FN,fun h=>let ⟨b,_,e,_⟩:=bn h.2;⟨b,e⟩,fun ht _ _=>FO ht,fun h=>h⟩
abbrev DM (P:Qp) (w:Qr):Hp->Qo->Qt (Qt (Mx Int)×V)->Prop:=DG (hkM P w) IsK
end
abbrev FP (P:Qp) (w:Qr):TE->TE->TE:=mT (hkM P w) IsK
abbrev FQ (P:Qp) (w:Qr):TE->TE->TE:=tZ (hkM P w) IsK
abbrev FR (P:Qp) (w:Qr):TE->TE->TE->TS:=mU (hkM P w) IsK
abbrev FS (P:Qp) (w:Qr):TE:=mV (hkM P w) IsK
section
variable {X:Cx}{o i e f value ek ev:Qu}{pos K9 Li K3:Pos}{td ty tv tx tk:TE}
def FT (hu:X.A.units+2<cLine) (ho:PE X o td) (hi:PE X i ty) (hs:fT i):PE X (.Subscript o i pos) (FP X.prog X.w td ty):=ud hu ho hi hs
def FU (hu:X.A.units+2<cLine) (hi:PE X i ty) (ho:PE X o td):PC X .NotIn i o (FQ X.prog X.w ty td):=Fk hu hi ho
def FV (hu:X.A.units+2<cLine) (ho:PE X o td) (hi:PE X i ty) (hv:PE X value tv) (hs:swapsWith value (some (.Subscript o i K9)) pos.line X.env=pure false):
  PS X (.Assign [.Subscript o i K9] value pos) (FR X.prog X.w td ty tv):=uf hu ho hi hv hs
def FW:PE X (.Dict [] [] pos) (FS X.prog X.w):=ug
end
section
variable {prog:Qp}{w:Qr}{A:Qs}{E:NR->Qn->Prop}{s:Qn}
theorem m3 {t:Qo}(KW:s.heap.IsTupleIter it t i) (ht:s.heap.IsTuple t vs) (hx:vs[i]? =some x) (hQ:∀h',h'.IsTupleIter it t (i+1)->Heap.SameBut it s.heap h'->Q x {s with heap:=h'}):
  wpAny (model prog w) A (Builtin.SmallTypes.nextOf (.ref it)) Q E s:=by
 obtain⟨o,ho,hc,hd⟩:=id KW;obtain⟨q,hq,_,nq,hdq⟩:=ht;unfold Builtin.SmallTypes.nextOf;refine A0 (B2 (name:=Str.ofString "__next__") KW.typeIs Cp (Af Cp KW.typeIs F.entry_tuple_iterator_next ?_ (F.args_tuple_iterator_next_1 _)));show wpAny _ _ (field (.ref it) 0>>=_) _ _ s;refine A0 (Bp ho hd (x:= .ref t) rfl ?_);show wpAny _ _ (if(Value.ref t==Value.none)=true then _ else _) _ _ s;rw[A5 (show¬((Value.ref t==Value.none)=true) from AV)];show wpAny _ _ (field (.ref it) 1>>=_) _ _ s;refine A0 (Bp ho hd (x:= .int i 0) rfl ?_);show wpAny _ _ (seqItems? (.ref t)>>=_) _ _ s;refine A0 (B7 hq hdq ?_);simp only[Az,hx];refine A0 (CD ho hd (by simp) (A3 ⟨x,rfl,A3 (hQ _ ⟨_,B4 _ ho (DI (Bz hd _)),(Obj.cls_mapFields ..).trans hc,by rw[Bz hd];simp[rawInt]⟩ (BE ..))⟩))
theorem ur {t:Qo}{Q:NR->Qn->Prop} (hh:A.handled=none) (KW:s.heap.IsTupleIter it t i) (ht:s.heap.IsTuple t vs) (hx:vs[i]? =none)
  (hE:∀h' e,Heap.ExtBut it s.heap h'->(∃o,h'.get? e=some o/\o.cls= .type "StopIteration")->E (.ref e) {s with heap:=h'}):wpAny (model prog w) A (Builtin.SmallTypes.nextOf (.ref it)) Q E s:=by
 obtain⟨o,ho,hc,hd⟩:=id KW;obtain⟨q,hq,_,nq,hdq⟩:=ht;unfold Builtin.SmallTypes.nextOf;refine A0 (B2 (name:=Str.ofString "__next__") KW.typeIs Cp (Af Cp KW.typeIs F.entry_tuple_iterator_next ?_ (F.args_tuple_iterator_next_1 _)));show wpAny _ _ (field (.ref it) 0>>=_) _ _ s;refine A0 (Bp ho hd (x:= .ref t) rfl ?_);show wpAny _ _ (if(Value.ref t==Value.none)=true then _ else _) _ _ s;rw[A5 (show¬((Value.ref t==Value.none)=true) from AV)];show wpAny _ _ (field (.ref it) 1>>=_) _ _ s;refine A0 (Bp ho hd (x:= .int i 0) rfl ?_);show wpAny _ _ (seqItems? (.ref t)>>=_) _ _ s;refine A0 (B7 hq hdq ?_);simp only[Az,hx];refine A0 (CP (A0 (CD ho hd (by simp) ?_)));show wpAny _ _ (newExc (.type "StopIteration") []>>=_) _ _ _;refine A0 ?_;simp only[newExc,newTuple];refine A0 (Am ?_ (by size_fits));refine A0 (m:=firstArgMember _ _) (Co (a:=Value.none) (by first|rfl|(simp only[firstArgMember];rfl)) (Am ?_ (by size_fits)));simp only[raiseNew];refine A0 (wpAny_handled ?_);(first|rw[show A.in1.handled=none from hh]|rw[hh]);exact A0 (A3 (wpAny_throw (hE _ _ (((BE ..).extBut.push _).push _) ⟨_,AB _ rfl,rfl⟩)))
theorem ut (hh:A.handled=none) (it t:Qo) (LD:t≠it) (vs:Array NR):Draws prog w A it [it,t] vs.size (fun i v=>vs[i]? =some v) (fun i h=>h.IsTupleIter it t i/\h.IsTuple t vs) where
 live:=fun _ _ st=>let ⟨⟨o,ho,_⟩,_⟩:=st;⟨o,ho⟩
 frame:=fun _ _ _ ⟨st1,Nm⟩ hk=>⟨st1.at fun o e=>hk it (by simp) o e,Nm.at fun o e=>hk t (by simp) o e⟩
 item:=fun i s Q E hi ⟨st1,Nm⟩ hQ=>m3 st1 Nm (x:=vs[i]) (by simp[hi]) fun h' a b=>hQ _ h' s.toks (by simp[hi]) ⟨a,Nm.extBut b.extBut LD⟩ b
 done:=fun s Q E ⟨st1,Nm⟩ hE=>ur hh st1 Nm (by simp) hE
theorem FX {t:Qo}(hL:s.heap.IsTuple t vs)
  (h:∀h',IsEnum h' (s.heap.objs.size+1) s.heap.objs.size 0 .none->h'.IsTupleIter s.heap.objs.size t 0->h'.objs.size=s.heap.objs.size+2->(∀b o,s.heap.get? b=some o->h'.get? b=some o)->Q (.ref (s.heap.objs.size+1)) {s with heap:=h'}):
  wpAny (model prog w) A (call (.type "enumerate") [.ref t]) Q E s:=by
 have mt:Meets (Builtin.«enumerate.__new__» ⟨[.type "enumerate", .ref t],[]⟩) (fun _ R s=>s.heap.IsTuple t vs/\R (.ok (.ret (.ref (s.heap.push {cls:= .type "tuple_iterator",data:= .fields #[.ref t, .int 0 0]}).objs.size))) {s with heap:=(s.heap.push {cls:= .type "tuple_iterator",data:= .fields #[.ref t, .int 0 0]}).push {cls:= .type "enumerate",data:= .fields #[.none, .bool false, .ref s.heap.objs.size,rawInt 0, .none, .none]}}):=
  .of_wp fun prog w A R s h=>by
   obtain⟨hp,g,d,tk,os⟩:=s;obtain⟨hL,h⟩:=h;have No:=sub_enumerate;obtain⟨⟨c,dct,dt,sl⟩,hl,hc,n,hd⟩:=id hL;have hc:c= .type "tuple":=hc;have hd:dt= .seq vs n:=hd;subst hc hd
   wp_walk using AutoSeq1.wpAny_loadPart' hl
   refine wpAny_stack_any fun st=>A3 ?_;split
   .next c _ _ _ _ _=>cases (c==Value.type "enumerate")<;>(wp_walk using AutoSeq1.wpAny_loadPart' hl,CF hL;exact⟨_,rfl,h⟩)
   .wp_walk using AutoSeq1.wpAny_loadPart' hl,CF hL;exact⟨_,rfl,h⟩
 refine callType_new F.called_enumerate (by decide) (F.typeCall_enumerate_1 _) (F.newCall_enumerate_1 _) (fun obj=>F.args_object_init_2 obj _) F.entry_enumerate_new mt ⟨hL, ?_⟩;have hz:(s.heap.push {cls:= .type "tuple_iterator",data:= .fields #[.ref t, .int 0 0]}).objs.size=s.heap.objs.size+1:=An ..
 show _/\_;rw[hz];have he:=AB (s.heap.push {cls:= .type "tuple_iterator",data:= .fields #[.ref t, .int 0 0]}) (o:={cls:= .type "enumerate",data:= .fields #[.none, .bool false, .ref s.heap.objs.size,rawInt 0, .none, .none]}) rfl;rw[hz] at he;exact⟨⟨_,he,rfl⟩,h _ he ⟨_,A4 _ (AB _ rfl),rfl,rfl⟩ (by rw[An,hz]) fun b o x=>A4 _ (A4 _ x)⟩
end
def gb (K:W.Frag) (a:Qo):It:=
 ⟨fun i H=>∃xs x,SqT K H a xs/\xs[i]? =some x,fun i H v H'=>∃x p,(∀xs,SqT K H a xs->xs[i]? =some x)/\v= .ref p/\H p=none/\H'=upd H p (.tup [.int i,x]),fun i H=>∃xs,SqT K H a xs/\xs.length=i⟩
theorem FY {k:Nat}(a e it:Qo) (LD:e≠it) (hai:a≠it) (hae:e≠a):
  Turn P w K (.Tuple LM k pos) (gb K a) [e,it] e (fun i h=>(∃LL,IsEnum h e it (i:Nat) LL)/\h.IsTupleIter it a i) where
 mem:=by simp
 obj:=fun i h st b hb=>by
  obtain⟨⟨LL,h1⟩,o,h2,h3,h4⟩:=st;simp only[AI,As,Bu] at hb;rcases hb with rfl|rfl
  .exact⟨_,h1,fun v y=>by cases y⟩
  .exact⟨o,h2,fun v y=>by rw[h4] at y;cases y⟩
 keep:=fun i h h' ⟨⟨LL,z⟩,Nm⟩ kk=>⟨⟨LL,kk e (by simp) _ z⟩,Nm.at fun o z=>kk it (by simp) o z⟩
 item:=by
  intro X hP hw hK hc i KO s σ H E I hf st hg;subst hP hw hK;obtain⟨xs,x,hq,hx⟩:=hg;obtain⟨KQ,rv,p,hz⟩:=I.tuple hq;obtain⟨u,hu,ru⟩:=rv.get hx;obtain⟨⟨LL,he⟩,KW⟩:=st;have ltE:e<s.heap.objs.size:=AM he;have KU:i<KQ.toArray.size:=by have:=(A8.mp hu).1;simpa using this
  refine wpAny_pyNext_enum_itemD (ut (A:=X.A.in1) (show X.A.in1.handled=none from I.ok.hd hc) it a hai KQ.toArray) he ⟨KW,p⟩ KU LD (by simp[LD,hae]) fun x' h' tk px ho ⟨Ms,_⟩ hT hsz hk=>⟨.ref s.heap.objs.size,rfl, ?_⟩;obtain rfl:x'=u:=by
   have px:KQ.toArray[i]? =some x':=px;have:KQ[i]? =some x':=by simpa using px
   rw[hu] at this;exact(Ac this).symm
  refine wpAny_letOwnedTupleGo_enum ho fun h2 Oz sb=> ?_;have k2:∀b o,b∉[e,it]->s.heap.get? b=some o->h2.get? b=some o:=fun b o n z=>by
   simp only[AI,As,Bu,not_or] at n;exact(sb.2 b n.1).trans (hk b o n.1 n.2 z)
  have PJ:h2.get? s.heap.objs.size=some {cls:= .type "tuple",data:= .seq #[.int i tk,x']}:=(sb.2 _ (Bn ltE)).trans hT;refine⟨.ref s.heap.objs.size,upd H s.heap.objs.size (.tup [.int i,x]),I.turnNew (t':=tk+1) hf k2 ⟨by show 2<=sizeLine;decide,[.int i tk,x'], .cons ⟨_,rfl⟩ (.cons ru .nil),⟨_,PJ,rfl,_,rfl⟩⟩,rfl,⟨x,_,fun ys hy=>by rw[I.tuple_inj hy hq];exact hx,rfl,I.hok.fresh (A' _),rfl⟩,⟨⟨x',by simpa using Oz⟩,Ms.at fun o z=>(sb.2 it LD.symm).trans z⟩,fun b hb=> ?_⟩;have there:∃o,s.heap.get? b=some o:=by
   simp only[AI,As,Bu] at hb;rcases hb with rfl|rfl
   .exact⟨_,he⟩
   .exact KW.imp fun o q=>q.1
  obtain⟨o,q⟩:=there;rw[ar (AO (AM q))];exact(hf b hb).1
 done:=by
  intro X hP hw hK hc i KO s σ H E I hf st hg;subst hP hw hK;obtain⟨xs,hq,hx⟩:=hg;obtain⟨KQ,rv,p,hz⟩:=I.tuple hq;obtain⟨⟨LL,he⟩,KW⟩:=st;have hl:=rv.length;obtain⟨f0,f1,f2,f3,f4,f5⟩:=hf it (by simp);have hn:i=KQ.toArray.size:=by simp;lia
  exact wpAny_pyNext_enum_endD (ut (A:=X.A.in1) (show X.A.in1.handled=none from I.ok.hd hc) it a hai KQ.toArray) he ⟨hn▸KW,p⟩ fun h' eb=>⟨rfl,I.turned (t':=s.toks) (fun b o hb z=>eb b o hb z) f0 f1 f3 f4 f5⟩
 self:=fun _ _ _ _ _ st h=>let ⟨⟨_,z⟩,_⟩:=st;wpAny_pyIter_enum z h
section
variable {X:Cx}{LM:Qt Qu}{k:Nat}{Mf p pos:Pos}{e:Qu}{te:TE}
def FZ (K:W.Frag) (tl:TE):TI:=fun σ H R=>tl σ H fun x H1=>∃a,x= .ref a/\(∃xs,SqT K H1 a xs)/\R (gb K a) H1
theorem m4 (hg:Gl X "enumerate") (hm:X.mg "enumerate"=none) (hl:PE X e te) (he:starEach [e] X.env=[(false,eval e X.env)]:=by rfl):PI X (.Tuple LM k Mf) (.Call (.Name "enumerate" p) [e] [] pos) (FZ X.K te):=by
 intro KO s σ H R I h;refine Be (cQ I hg hm boot_enumerate ?_);refine B3 (thn ((ab hl af he) _ KO s σ H (fun vs H1=>match vs with|[x]=>(∃a,x= .ref a/\(∃xs,SqT X.K H1 a xs)/\R (gb X.K a) H1)|_=>False) I h) fun us s1 ⟨vs,H1,I1,r1,q1⟩=> ?_) he (by rfl)
 match vs,q1,r1 with
 |[x],q1,r1=>
 obtain⟨a,rfl,⟨xs,hq⟩,q⟩:=q1;obtain⟨u,rfl,ru⟩:=dM r1;obtain rfl:u=Value.ref a:=ru;obtain⟨KQ,rv,pl,hz⟩:=I1.tuple hq;have la:a<s1.heap.objs.size:=let ⟨_,q,_⟩:=pl;AM q;refine FX (show s1.heap.IsTuple a KQ.toArray from pl) fun h' hen KW hsz hk=> ?_;refine wpAny_pyIter_enum hen ?_;refine⟨_,[_,_],_,_,H1,rfl,I1.kept (t':=s1.toks) hk,FY a _ _ (Bn (BN _)) (AO la) (Bn (Al la)),⟨⟨_,by simpa using hen⟩,KW⟩,fun b hb=> ?_,q⟩;have fr:∀b,s1.heap.objs.size<=b->cr X KO H1 b:=fun b z=>I1.fpOk z (I1.hok.fresh z);simp only[AI,As,Bu] at hb;rcases hb with rfl|rfl<;>exact fr _ (by lia)
end
theorem uu {D:Ends}{σ:St}(Pv:Nat->St->Hp->Prop) (h0:Pv 0 σ H) (hl:∀i σ H,i<=xs.length->Pv i σ H->SqT K H a xs)
  (hs:∀i x σ H p,xs[i]? =some x->Pv i σ H->H p=none->g (.ref p) σ (upd H p (.tup [.int i,x])) fun σ2 H2=>tb (eLp D (Pv (i+1))) σ2 H2) (hd:∀σ H,Pv xs.length σ H->D.nx σ H):
  ∃Wq:Nat->Nat->St->Hp->Prop,(∃m,Wq 0 m σ H)/\∀i m σ H,Wq i m σ H->
   ((gb K a).stop i H/\D.nx σ H)\/((gb K a).go i H/\∃N:St->Hp->Prop,(∀σ' H',N σ' H'->∃m',m'<m/\Wq (i+1) m' σ' H')/\∀x H',(gb K a).yld i H x H'->g x σ H' fun σ2 H2=>tb (eLp D (N)) σ2 H2):=by
 refine⟨fun i m σ H=>m=xs.length-i/\i<=xs.length/\Pv i σ H,⟨xs.length,by simp,AL _,h0⟩, ?_⟩;rintro i m σ H ⟨rfl,hi,p⟩;have q:=hl i σ H hi p;by_cases KU:i<xs.length
 .refine .inr ⟨⟨xs,xs[i],q,by simp[KU]⟩,Pv (i+1),fun σ' H' p'=>⟨xs.length-(i+1),by lia,rfl,KU,p'⟩,fun x H' y=> ?_⟩;obtain⟨z,pp,e1,e2,e3,e4⟩:=y;subst e2 e4;exact hs i z σ H pp (e1 xs q) p e3
 .obtain rfl:i=xs.length:=by lia
  exact .inl ⟨⟨xs,q,rfl⟩,hd σ H p⟩
theorem F' {ti:TT}{σ:St}{Q:VK} (Pv:Nat->Hp->Prop) (h0:Pv 0 (upd H1 acc (.lst []))) (hl:∀i H2,i<=xs.length->Pv i H2->SqT K H2 a xs)
  (hs:∀i x H2 p,xs[i]? =some x->Pv i H2->H2 p=none->g (.ref p) (dA own js σ) (upd H2 p (.tup [.int i,x])) fun σ4 H4=>ti σ4 H4 fun b H5=>if b=true then te σ4 H5 fun y H6=>rAppend (.ref acc) [y] H6 fun _ H7=>Pv (i+1) H7 else Pv (i+1) H5) (hd:∀H2,Pv xs.length H2->Q (.ref acc) H2)
  (mono:∀σ H (R R':St->Hp->Prop) x,(∀σ' H',R σ' H'->R' σ' H')->g x σ H R->g x σ H R') (LZ:∀σ H (R R':Bool->Hp->Prop),(∀b H',R b H'->R' b H')->ti σ H R->ti σ H R') (L0:∀σ H (R R':VK),(∀v H',R v H'->R' v H')->te σ H R->te σ H R'):
  iQ (gb K a) own js g ti te σ H1 acc Q:=by
 refine⟨fun i m H2=>m=xs.length-i/\i<=xs.length/\Pv i H2,⟨xs.length,by simp,AL _,h0⟩, ?_⟩;rintro i m H2 ⟨rfl,hi,p⟩;have qa:=hl i H2 hi p;by_cases KU:i<xs.length
 .refine .inr ⟨⟨xs,xs[i],qa,by simp[KU]⟩,fun v H3 z=> ?_⟩;obtain⟨x,pp,e1,e3,e4,e5⟩:=z;subst e3 e5;refine mono _ _ _ _ _ (fun σ4 H4 q=>LZ _ _ _ _ (fun b H5 q=> ?_) q) (hs i x _ pp (e1 xs qa) p e4);cases b with
  |true=>
   refine L0 _ _ _ _ (fun v H6 q=> ?_) q;obtain⟨l,zs,y,a1,a2,a3,a4,a5⟩:=q;exact⟨l,zs,y,a1,a2,a3,a4,_,by lia,rfl,KU,a5⟩
  |false=>exact⟨_,by lia,rfl,KU,q⟩
 .obtain rfl:i=xs.length:=by lia
  exact .inl ⟨⟨xs,qa,rfl⟩,hd H2 p⟩
theorem Ga {ti:TT}{σ:St}{Q:VK} (Pv:Nat->Hp->Prop) (h0:Pv 0 (upd H1 acc (.lst []))) (hl:∀i H2,i<=xs.length->Pv i H2->SqL K H2 a xs)
  (hs:∀i x H2 p,xs[i]? =some x->Pv i H2->H2 p=none->g (.ref p) (dA own js σ) (upd H2 p (.tup [.int i,x])) fun σ4 H4=>ti σ4 H4 fun b H5=>if b=true then te σ4 H5 fun y H6=>rAppend (.ref acc) [y] H6 fun _ H7=>Pv (i+1) H7 else Pv (i+1) H5) (hd:∀H2,Pv xs.length H2->Q (.ref acc) H2)
  (mono:∀σ H (R R':St->Hp->Prop) x,(∀σ' H',R σ' H'->R' σ' H')->g x σ H R->g x σ H R') (LZ:∀σ H (R R':Bool->Hp->Prop),(∀b H',R b H'->R' b H')->ti σ H R->ti σ H R') (L0:∀σ H (R R':VK),(∀v H',R v H'->R' v H')->te σ H R->te σ H R'):
  iQ (Ite K a) own js g ti te σ H1 acc Q:=by
 refine⟨fun i m H2=>m=xs.length-i/\i<=xs.length/\Pv i H2,⟨xs.length,by simp,AL _,h0⟩, ?_⟩;rintro i m H2 ⟨rfl,hi,p⟩;have qa:=hl i H2 hi p;by_cases KU:i<xs.length
 .refine .inr ⟨⟨xs,xs[i],qa,by simp[KU]⟩,fun v H3 z=> ?_⟩;obtain⟨x,pp,e1,e3,e4,e5⟩:=z;subst e3 e5;refine mono _ _ _ _ _ (fun σ4 H4 q=>LZ _ _ _ _ (fun b H5 q=> ?_) q) (hs i x _ pp (e1 xs qa) p e4);cases b with
  |true=>
   refine L0 _ _ _ _ (fun v H6 q=> ?_) q;obtain⟨l,zs,y,a1,a2,a3,a4,a5⟩:=q;exact⟨l,zs,y,a1,a2,a3,a4,_,by lia,rfl,KU,a5⟩
  |false=>exact⟨_,by lia,rfl,KU,q⟩
 .obtain rfl:i=xs.length:=by lia
  exact .inl ⟨⟨xs,qa,A' _⟩,hd H2 p⟩
theorem uv (hc:X.calm=true):bL X (.builtin "sum") (fun xs H Q=>∃(p:Qo) (ns:Qt Int),xs=[.ref p]/\SqT X.K H p (ns.map V.int)/\Q (.int ns.sum) H):=by
 intro KO s σ H xs us Q I r h;obtain⟨p,ns,rfl,hq,q⟩:=h;obtain⟨u,rfl,rx⟩:=dM r;cases rx;obtain⟨KQ,r',pl,hz⟩:=I.tuple hq;have hi:IntsAre KQ ns:=lO r';obtain⟨ys,e⟩:=hi.allInts.items;have hl:s.heap.IsTuple p KQ.toArray:=pl;rw[e] at hl;have n1:=hi.numsOf;rw[show KQ=KQ.toArray.toList from rfl,e,nums_intItems] at n1;have lt:p<s.heap.objs.size:=let ⟨_,q,_⟩:=hl;AM q;refine call_sum_walkG (CF hl ?_);refine⟨_,_,_,_,_,_,numAt ys,rfl,Walks.tuple (A:=X.A.in1) (show X.A.in1.handled=none from I.ok.hd hc) _ p (AO lt) (intItems ys),⟨⟨_,AB _ rfl,rfl,rfl⟩,hl.push _⟩,fun b hb=> ?_,fun _ _=>intItems_at,fun h' tk t' hk=> ?_⟩
 .simp only[AI,As,Bu] at hb;rw[An];rcases hb with rfl|rfl
  .exact BN _
  .exact Al lt
 .refine⟨.int ns.sum,H,I.kept fun b o z=>hk b o (fun y=> ?_) (A4 _ z),⟨t', ?_⟩,q⟩
  .simp only[AI,As,Bu] at y;exact absurd (AM z) (by rw[y];exact Bb _)
  .rw [preSum_eq,D4 (by simp[intItems]),n1]
section
variable {prog:Qp}{w:Qr}{A:Qs}{E:NR->Qn->Prop}{s:Qn}
theorem Gb {TI TO:Qo}{k2:Nat}{xs:Array NR}{y a b:NR}{Q:Qw NR->Qn->Prop} (D:ZipApart z TI TO i1 i2 l1 l2) (hz:IsZip s.heap z TI TO .none) (NZ:IsPair s.heap TI (.ref i1) (.ref i2)) (OF:IsPair s.heap TO a b)
  (h1:s.heap.IsTupleIter i1 l1 k1) (h2:s.heap.IsTupleIter i2 l2 k2) (Mv:s.heap.IsTuple l1 xs) (Ly:s.heap.IsTuple l2 ys) (hx:xs[k1]? =some x) (hy:ys[k2]? =some y)
  (hQ:∀h',IsZip h' z TI TO (rawInt s.heap.objs.size)->IsPair h' TO x y->h'.IsTupleIter i1 l1 (k1+1)->h'.IsTupleIter i2 l2 (k2+1)->IsPair h' s.heap.objs.size x y->h'.objs.size=s.heap.objs.size+1->(∀c o,c≠z->c≠TO->c≠i1->c≠i2->s.heap.get? c=some o->h'.get? c=some o)->Q (some (.ref s.heap.objs.size)) {s with heap:=h'}):
  wpAny (model prog w) A (pyNext (.ref z)) Q E s:=by
 have hT:s.TypeIs (.ref z) "zip":=⟨_,hz,rfl⟩;unfold pyNext;refine A0 (Cg (B2 (name:=Str.ofString "__next__") hT F.slot_zip_next (Af F.slot_zip_next hT F.entry_zip_next ?_ (F.args_zip_next_1 _))));show wpAny _ _ (field (.ref z) 2>>=_) _ _ _;refine A0 (Bp hz rfl (x:= .bool false) rfl ?_);show wpAny _ _ (field (.ref z) 3>>=_) _ _ _;refine A0 (Bp hz rfl (x:= .ref TI) rfl (A0 (B7 NZ rfl ?_)));show wpAny _ _ (Builtin.SmallTypes.ownedTupleIsFree (.ref z)>>=_) _ _ _;refine A0 ?_;unfold Builtin.SmallTypes.ownedTupleIsFree;refine A0 (Bp hz rfl (x:= .none) rfl (A3 ?_));simp only[C0];refine A0 (CP (A0 (Bp hz rfl (x:= .ref TO) rfl (A0 (D' hz (by simp) fun a1 P1 s1=> ?_)))));have P1:IsZip a1 z TI TO .ellipsis:=P1;refine A0 ?_;simp only[List.zipIdx_cons,List.zipIdx_nil,List.forIn_cons,List.forIn_nil];refine A0 (A0 (wpAny_onRaise ?_));show wpAny _ _ (Builtin.SmallTypes.nextOf (.ref i1)>>=_) _ _ _;refine A0 (m3 (h1.extBut s1.extBut D.i1z) (Mv.extBut s1.extBut D.l1z) hx fun a2 g1 s2=>A3 ?_);have o2:IsPair a2 TO a b:=s2.extBut _ _ D.TOi1 (s1.extBut _ _ D.TOz OF);refine A0 (B7 o2 rfl (A0 (wpAny_updateSeq_pair o2 fun a3 o3 s3=> ?_)));have o3:IsPair a3 TO x b:=o3;refine A0 (CL (A3 ?_));refine A0 (A0 (wpAny_onRaise ?_));show wpAny _ _ (Builtin.SmallTypes.nextOf (.ref i2)>>=_) _ _ _;refine A0 (m3 (((h2.extBut s1.extBut D.i2z).extBut s2.extBut D.i12.symm).extBut s3.extBut D.TOi2.symm) (((Ly.extBut s1.extBut D.l2z).extBut s2.extBut D.l2i1).extBut s3.extBut D.l2TO) hy fun a4 g2 s4=>A3 ?_);have o4:IsPair a4 TO x b:=s4.extBut _ _ D.TOi2 o3;refine A0 (B7 o4 rfl (A0 (wpAny_updateSeq_pair o4 fun a5 o5 s5=> ?_)));have o5:IsPair a5 TO x y:=o5;refine A0 (CL (A3 (A3 ?_)));refine A0 (B7 o5 rfl (A0 (wpAny_newTuple ?_)));have sz:a5.objs.size=s.heap.objs.size:=by rw[s5.1,s4.1,s3.1,s2.1,s1.1]
 have z5:IsZip a5 z TI TO .ellipsis:=s5.extBut _ _ D.TOz.symm (s4.extBut _ _ D.i2z.symm (s3.extBut _ _ D.TOz.symm (s2.extBut _ _ D.i1z.symm P1)));have k5:∀c o,c≠z->c≠TO->c≠i1->c≠i2->s.heap.get? c=some o->a5.get? c=some o:=fun c o c1 c2 c3 c4 e=>s5.extBut _ _ c2 (s4.extBut _ _ c4 (s3.extBut _ _ c2 (s2.extBut _ _ c3 (s1.extBut _ _ c1 e))));have m1:a5.IsTupleIter i1 l1 (k1+1):=((g1.extBut s3.extBut D.TOi1.symm).extBut s4.extBut D.i12).extBut s5.extBut D.TOi1.symm;have m2:a5.IsTupleIter i2 l2 (k2+1):=g2.extBut s5.extBut D.TOi2.symm;have zl:z<a5.objs.size:=AM z5;show wpAny _ _ (Builtin.SmallTypes.ownedTupleHandOut (.ref z) (.ref a5.objs.size)>>=_) _ _ _;refine A0 ?_;unfold Builtin.SmallTypes.ownedTupleHandOut;have z6:IsZip (a5.push {cls:= .type "tuple",data:= .seq #[x,y]}) z TI TO .ellipsis:=A4 _ z5;refine A0 (D' z6 (by simp) fun a7 z7 s7=> ?_);have z7:IsZip a7 z TI TO (rawInt a5.objs.size):=z7;refine D' z7 (by simp) fun a8 z8 s8=> ?_;have z8:IsZip a8 z TI TO (rawInt a5.objs.size):=z8;have up:∀c o,c≠z->a5.get? c=some o->a8.get? c=some o:=fun c o c1 e=>s8.extBut _ _ c1 (s7.extBut _ _ c1 (A4 _ e));have t8:IsPair a8 a5.objs.size x y:=s8.extBut _ _ (Bn zl) (s7.extBut _ _ (Bn zl) (AB _ rfl));have e8:a8.objs.size=a5.objs.size+1:=by rw[s8.1,s7.1,An]
 rw[sz] at z8 t8 e8;refine A3 ⟨_,rfl,A3 ?_⟩;show Q (some (.ref a5.objs.size)) _;rw[sz];exact hQ a8 z8 (up _ _ D.TOz o5) (m1.at fun o e=>up _ o D.i1z e) (m2.at fun o e=>up _ o D.i2z e) t8 e8 fun c o c1 c2 c3 c4 e=>up c o c1 (k5 c o c1 c2 c3 c4 e)
theorem Gc {TI TO:Qo}{xs:Array NR}{a b:NR}{Q:Qw NR->Qn->Prop} (hh:A.handled=none) (D:ZipApart z TI TO i1 i2 l1 l2) (hz:IsZip s.heap z TI TO .none) (NZ:IsPair s.heap TI (.ref i1) (.ref i2)) (OF:IsPair s.heap TO a b)
  (h1:s.heap.IsTupleIter i1 l1 k1) (Mv:s.heap.IsTuple l1 xs) (hx:xs[k1]? =none) (hQ:∀h',(∀c o,c≠z->c≠TO->c≠i1->c≠i2->s.heap.get? c=some o->h'.get? c=some o)->Q none {s with heap:=h'}):wpAny (model prog w) A (pyNext (.ref z)) Q E s:=by
 have hT:s.TypeIs (.ref z) "zip":=⟨_,hz,rfl⟩;unfold pyNext;refine A0 (Cg (B2 (name:=Str.ofString "__next__") hT F.slot_zip_next (Af F.slot_zip_next hT F.entry_zip_next ?_ (F.args_zip_next_1 _))));show wpAny _ _ (field (.ref z) 2>>=_) _ _ _;refine A0 (Bp hz rfl (x:= .bool false) rfl ?_);show wpAny _ _ (field (.ref z) 3>>=_) _ _ _;refine A0 (Bp hz rfl (x:= .ref TI) rfl (A0 (B7 NZ rfl ?_)));show wpAny _ _ (Builtin.SmallTypes.ownedTupleIsFree (.ref z)>>=_) _ _ _;refine A0 ?_;unfold Builtin.SmallTypes.ownedTupleIsFree;refine A0 (Bp hz rfl (x:= .none) rfl (A3 ?_));simp only[C0];refine A0 (CP (A0 (Bp hz rfl (x:= .ref TO) rfl (A0 (D' hz (by simp) fun a1 P1 s1=> ?_)))));have P1:IsZip a1 z TI TO .ellipsis:=P1;refine A0 ?_;simp only[List.zipIdx_cons,List.zipIdx_nil,List.forIn_cons,List.forIn_nil];refine A0 (A0 (wpAny_onRaise ?_));show wpAny _ _ (Builtin.SmallTypes.nextOf (.ref i1)>>=_) _ _ _;refine A0 (ur hh (h1.extBut s1.extBut D.i1z) (Mv.extBut s1.extBut D.l1z) hx fun a2 e s2 he=> ?_);obtain⟨oe,hoe,hce⟩:=he;have z2:IsZip a2 z TI TO .ellipsis:=s2 _ _ D.i1z.symm P1;have ez:e≠z:=fun x=>by subst x;rw[z2] at hoe;cases hoe;simp at hce
 refine D' z2 (by simp) fun a3 _ s3=> ?_;refine A0 (Bj (T:="StopIteration") (b:=true) ⟨oe,s3.extBut _ _ ez hoe,hce⟩ isSubtype_stop (A3 (hQ _ fun c o c1 _ c3 _ x=>s3.extBut _ _ c1 (s2 _ _ c3 (s1.extBut _ _ c1 x)))))
end
section
variable {prog:Qp}{w:Qr}{A:Qs}{E:NR->Qn->Prop}{s:Qn}
abbrev tz1 (h:Qv) (a:Qo):Qv:=h.push {cls:= .type "tuple_iterator",data:= .fields #[.ref a, .int 0 0]}
abbrev tz2 (h:Qv) (a b:Qo):Qv:=(tz1 h a).push {cls:= .type "tuple_iterator",data:= .fields #[.ref b, .int 0 0]}
abbrev tz3 (h:Qv) (a b:Qo):Qv:=(tz2 h a b).push {cls:= .type "tuple",data:= .seq #[.ref h.objs.size, .ref (tz1 h a).objs.size]}
abbrev tz4 (h:Qv) (a b:Qo):Qv:=(tz3 h a b).push {cls:= .type "tuple",data:= .seq #[.none, .none]}
abbrev tz5 (h:Qv) (a b:Qo):Qv:=(tz4 h a b).push {cls:= .type "zip",data:= .fields #[.none, .bool false, .bool false, .ref (tz2 h a b).objs.size, .ref (tz3 h a b).objs.size]}
theorem Gd {xs:Array NR}(ha:s.heap.IsTuple a xs) (hb:s.heap.IsTuple b ys)
  (h:∀h',IsZip h' (s.heap.objs.size+4) (s.heap.objs.size+2) (s.heap.objs.size+3) .none->IsPair h' (s.heap.objs.size+2) (.ref s.heap.objs.size) (.ref (s.heap.objs.size+1))->IsPair h' (s.heap.objs.size+3) .none .none->h'.IsTupleIter s.heap.objs.size a 0->h'.IsTupleIter (s.heap.objs.size+1) b 0->(∀c o,s.heap.get? c=some o->h'.get? c=some o)->Q (.ref (s.heap.objs.size+4)) {s with heap:=h'}):
  wpAny (model prog w) A (call (.type "zip") [.ref a, .ref b]) Q E s:=by
 have mt:Meets (Builtin.«zip.__new__» ⟨[.type "zip", .ref a, .ref b],[]⟩) (fun _ R s=>s.heap.IsTuple a xs/\s.heap.IsTuple b ys/\R (.ok (.ret (.ref (tz4 s.heap a b).objs.size))) {s with heap:=tz5 s.heap a b}):=
  .of_wp fun prog w A R s h=>by
   obtain⟨hp,g,d,tk,os⟩:=s;obtain⟨h1,h2,h⟩:=h;have No:=sub_zip;have O4:Heap.IsTuple (Shared.heap ⟨hp,g,d,tk,os⟩) a xs:=h1;have PR:Heap.IsTuple (Shared.heap ⟨hp.push {cls:= .type "tuple_iterator",data:= .fields #[.ref a, .int 0 0]},g,d,tk,os⟩) b ys:=Heap.IsTuple.push h2 _
   wp_walk using wpAny_pyIter_tuple O4,CF PR
   exact⟨_,rfl,h⟩
 refine callType_new F.called_zip (by decide) (F.typeCall_zip_2 _ _) (F.newCall_zip_2 _ _) (fun obj=>F.args_object_init_3 obj _ _) F.entry_zip_new mt ⟨ha,hb, ?_⟩;have z1:(tz1 s.heap a).objs.size=s.heap.objs.size+1:=An ..
 have z2:(tz2 s.heap a b).objs.size=s.heap.objs.size+2:=by rw[An,z1]
 have z3:(tz3 s.heap a b).objs.size=s.heap.objs.size+3:=by rw[An,z2]
 have z4:(tz4 s.heap a b).objs.size=s.heap.objs.size+4:=by rw[An,z3]
 have g5:(tz5 s.heap a b).get? (tz4 s.heap a b).objs.size=some _:=AB _ rfl;have g4:(tz5 s.heap a b).get? (tz3 s.heap a b).objs.size=some _:=A4 _ (AB _ rfl);have g3:(tz5 s.heap a b).get? (tz2 s.heap a b).objs.size=some _:=A4 _ (A4 _ (AB _ rfl));have g2:(tz5 s.heap a b).get? (tz1 s.heap a).objs.size=some _:=A4 _ (A4 _ (A4 _ (AB _ rfl)));have g1:(tz5 s.heap a b).get? s.heap.objs.size=some _:=A4 _ (A4 _ (A4 _ (A4 _ (AB _ rfl))));show _/\_;rw[z2,z3,z4] at g5;rw[z1,z2] at g3;rw[z3] at g4;rw[z1] at g2;rw[z4];exact⟨⟨_,g5,rfl⟩,h _ g5 g3 g4 ⟨_,g1,rfl,rfl⟩ ⟨_,g2,rfl,rfl⟩ fun c o x=>A4 _ (A4 _ (A4 _ (A4 _ (A4 _ x))))⟩
end
def ItzT (K : W.Frag) (a b : Qo) : It :=
  ⟨fun i H => ∃ xs x ys y, SqT K H a xs /\ SqT K H b ys /\ xs[i]? = some x /\ ys[i]? = some y,
   fun i H v H' => ∃ x y p, (∀ xs, SqT K H a xs -> xs[i]? = some x) /\ (∀ ys, SqT K H b ys -> ys[i]? = some y) /\ v = .ref p /\ H p = none /\ H' = upd H p (.tup [x, y]),
   fun i H => ∃ xs, SqT K H a xs /\ xs.length <= i⟩
theorem Ge {k:Nat}{TI TO:Qo} (D:ZipApart z TI TO i1 i2 a b):
  Turn P w K (.Tuple LM k pos) (ItzT K a b) [z,TI,TO,i1,i2] z (fun i h=>IsZip h z TI TO .none/\IsPair h TI (.ref i1) (.ref i2)/\(∃x y,IsPair h TO x y)/\h.IsTupleIter i1 a i/\h.IsTupleIter i2 b i) where
 mem:=by simp
 obj:=fun i h st c hc=>by
  obtain⟨h1,h2,⟨x,y,h3⟩,⟨o4,h4,_,d4⟩,⟨o5,h5,_,d5⟩⟩:=st;simp only[AI,As,Bu] at hc;rcases hc with rfl|rfl|rfl|rfl|rfl
  .exact⟨_,h1,fun v q=>by cases q⟩
  .exact⟨_,h2,fun v q=>by cases q⟩
  .exact⟨_,h3,fun v q=>by cases q⟩
  .exact⟨_,h4,fun v q=>by rw[d4] at q;cases q⟩
  .exact⟨_,h5,fun v q=>by rw[d5] at q;cases q⟩
 keep:=fun i h h' st kk=>⟨kk z (by simp) _ st.1,kk TI (by simp) _ st.2.1,st.2.2.1.imp fun x q=>q.imp fun y q=>kk TO (by simp) _ q,st.2.2.2.1.at fun o q=>kk i1 (by simp) o q,st.2.2.2.2.at fun o q=>kk i2 (by simp) o q⟩
 item:=by
  intro X hP hw hK hc i KO s σ H E I hf st hg;subst hP hw hK;obtain⟨xs,x,ys,y,hqa,hqb,hx,hy⟩:=hg;obtain⟨as,ra,pa,za⟩:=I.tuple hqa;obtain⟨bs,rb,pb,zb⟩:=I.tuple hqb;obtain⟨u,hu,ru⟩:=ra.get hx;obtain⟨v,hv,rv⟩:=rb.get hy;obtain⟨hz,NZ,⟨_,_,OF⟩,h1,h2⟩:=st;have ltz:z<s.heap.objs.size:=AM hz;refine Gb D hz NZ OF h1 h2 (show s.heap.IsTuple a as.toArray from pa) (show s.heap.IsTuple b bs.toArray from pb) (x:=u) (y:=v) (by simpa using hu) (by simpa using hv) fun h' hz' hTO' h1' h2' hT hsz hk=>⟨.ref s.heap.objs.size,rfl, ?_⟩;refine wpAny_letOwnedTupleGo_zip hz' fun h3 Oo sb=> ?_;have kk:∀c o,c∉[z,TI,TO,i1,i2]->s.heap.get? c=some o->h3.get? c=some o:=fun c o n e=>by
   simp only[AI,As,Bu,not_or] at n;exact(sb.2 c n.1).trans (hk c o n.1 n.2.2.1 n.2.2.2.1 n.2.2.2.2 e)
  have hT3:h3.get? s.heap.objs.size=some {cls:= .type "tuple",data:= .seq #[u,v]}:=(sb.2 _ (Bn ltz)).trans hT;have hTI3:IsPair h3 TI (.ref i1) (.ref i2):=(sb.2 _ D.TIz).trans (hk _ _ D.TIz D.TITO D.TIi1 D.TIi2 NZ);refine⟨.ref s.heap.objs.size,upd H s.heap.objs.size (.tup [x,y]),I.turnNew (t':=s.toks) hf kk ⟨by show 2<=sizeLine;decide,[u,v], .cons ru (.cons rv .nil),⟨_,hT3,rfl,_,rfl⟩⟩,rfl,
   ⟨x,y,_,fun zs LQ=>by rw[I.tuple_inj LQ hqa];exact hx,fun zs LQ=>by rw[I.tuple_inj LQ hqb];exact hy,rfl,I.hok.fresh (A' _),rfl⟩,
   ⟨Oo,hTI3,⟨_,_,(sb.2 _ D.TOz).trans hTO'⟩,h1'.at fun o q=>(sb.2 _ D.i1z).trans q,h2'.at fun o q=>(sb.2 _ D.i2z).trans q⟩,fun c hc=> ?_⟩
  have there:∃o,s.heap.get? c=some o:=by
   simp only[AI,As,Bu] at hc;rcases hc with rfl|rfl|rfl|rfl|rfl
   .exact⟨_,hz⟩
   .exact⟨_,NZ⟩
   .exact⟨_,OF⟩
   .exact h1.imp fun o q=>q.1
   .exact h2.imp fun o q=>q.1
  obtain⟨o,q⟩:=there;rw[ar (AO (AM q))];exact(hf c hc).1
 done:=by
  intro X hP hw hK hc i KO s σ H E I hf st hg;subst hP hw hK;obtain⟨xs,hqa,hx⟩:=hg;obtain⟨as,ra,pa,za⟩:=I.tuple hqa;obtain⟨hz,NZ,⟨_,_,OF⟩,h1,h2⟩:=st;have la:=ra.length;refine Gc (I.ok.hd hc) D hz NZ OF h1 (show s.heap.IsTuple a as.toArray from pa) (by simp;lia) fun h' hk=>⟨rfl,I.turnAll (t':=s.toks) hf fun c o n e=> ?_⟩;simp only[AI,As,Bu,not_or] at n;exact hk c o n.1 n.2.2.1 n.2.2.2.1 n.2.2.2.2 e
 self:=fun _ _ _ _ _ st h=>wpAny_pyIter_zip st.1 h
section
variable {X:Cx}{LM:Qt Qu}{k:Nat}{Mf p pos:Pos}{e f:Qu}{te tf:TE}
inductive iZipT_ (K:W.Frag) (R:(It->Hp->Prop)) (vs:List V) (H1:Hp):Prop
 |mk a b:vs=[.ref a, .ref b]->((∃xs,SqT K H1 a xs))->((∃ys,SqT K H1 b ys))->R (ItzT K a b) H1->iZipT_ K R vs H1
def Gf (K:W.Frag) (ta:TA):TI:=fun σ H R=>ta σ H fun vs H1=>iZipT_ K R vs H1
theorem Gg {ta:TA} (hg:Gl X "zip") (hm:X.mg "zip"=none) (hl:PA X [e,f] ta) (he:starEach [e,f] X.env=(false,eval e X.env)::starEach [f] X.env:=by rfl) (hp:(backTo pos (starEach [f] X.env)).any (·.1)=false:=by rfl):
  PI X (.Tuple LM k Mf) (.Call (.Name "zip" p) [e,f] [] pos) (Gf X.K ta):=by
 intro KO s σ H R I h;refine Be (cQ I hg hm PyProof.Rows.Boot.«zip» ?_);refine B3 (thn (hl _ KO s σ H _ I h) fun us s1 ⟨vs,H1,I1,r1,a,b,ev,⟨xs,hqa⟩,⟨ys,hqb⟩,q⟩=> ?_) he hp;subst ev;obtain⟨u,v,rfl,ru,rv⟩:=fR r1;obtain rfl:u=Value.ref a:=ru;obtain rfl:v=Value.ref b:=rv;obtain⟨as,ra,pa,za⟩:=I1.tuple hqa;obtain⟨bs,rb,pb,zb⟩:=I1.tuple hqb;have la:a<s1.heap.objs.size:=let ⟨_,q,_⟩:=pa;AM q;have lb:b<s1.heap.objs.size:=let ⟨_,q,_⟩:=pb;AM q;refine Gd (show s1.heap.IsTuple a as.toArray from pa) (show s1.heap.IsTuple b bs.toArray from pb) fun h' hz NZ OF h1 h2 hk=> ?_;refine wpAny_pyIter_zip hz ?_;refine⟨_,[_,_,_,_,_],_,_,H1,rfl,I1.kept (t':=s1.toks) hk,Ge (zipApart_new la lb),⟨hz,NZ,⟨_,_,OF⟩,h1,h2⟩,fun c hc=> ?_,q⟩;have fr:∀c,s1.heap.objs.size<=c->cr X KO H1 c:=fun c z=>I1.fpOk z (I1.hok.fresh z);simp only[AI,As,Bu] at hc;rcases hc with rfl|rfl|rfl|rfl|rfl<;>exact fr _ (by lia)
end
theorem Gh {ys:Qt V}{D:Ends}{σ:St}(hn:xs.length=ys.length) (Pv:Nat->St->Hp->Prop) (h0:Pv 0 σ H) (hl:∀i σ H,i<=xs.length->Pv i σ H->SqT K H a xs/\SqT K H b ys)
  (hs:∀i x y σ H p,xs[i]? =some x->ys[i]? =some y->Pv i σ H->H p=none->g (.ref p) σ (upd H p (.tup [x,y])) fun σ2 H2=>tb (eLp D (Pv (i+1))) σ2 H2) (hd:∀σ H,Pv xs.length σ H->D.nx σ H):
  ∃Wq:Nat->Nat->St->Hp->Prop,(∃m,Wq 0 m σ H)/\∀i m σ H,Wq i m σ H->
   ((ItzT K a b).stop i H/\D.nx σ H)\/((ItzT K a b).go i H/\∃N:St->Hp->Prop,(∀σ' H',N σ' H'->∃m',m'<m/\Wq (i+1) m' σ' H')/\∀x H',(ItzT K a b).yld i H x H'->g x σ H' fun σ2 H2=>tb (eLp D (N)) σ2 H2):=by
 refine⟨fun i m σ H=>m=xs.length-i/\i<=xs.length/\Pv i σ H,⟨xs.length,by simp,AL _,h0⟩, ?_⟩;rintro i m σ H ⟨rfl,hi,p⟩;obtain⟨qa,qb⟩:=hl i σ H hi p;by_cases KU:i<xs.length
 .have ly:i<ys.length:=by lia
  refine .inr ⟨⟨xs,xs[i],ys,ys[i],qa,qb,by simp[KU],by simp[ly]⟩,Pv (i+1),fun σ' H' p'=>⟨xs.length-(i+1),by lia,rfl,KU,p'⟩,fun v H' z=> ?_⟩;obtain⟨x,y,pp,e1,e2,e3,e4,e5⟩:=z;subst e3 e5;exact hs i x y σ H pp (e1 xs qa) (e2 ys qb) p e4
 .obtain rfl:i=xs.length:=by lia
  exact .inl ⟨⟨xs,qa,A' _⟩,hd σ H p⟩
inductive tNotL_ (K:W.Frag) (Q:VK) (x:V) (H1:Hp):Prop
 |mk p xs:x= .ref p->SqL K H1 p xs->Q (.bl xs.isEmpty) H1->tNotL_ K Q x H1
def Gi (K:W.Frag) (ta:TE):TE:=fun σ H Q=>ta σ H fun x H1=>tNotL_ K Q x H1
theorem Gj {a:Qu}{ta:TE}(ha:PE X a ta):PE X (.UnaryOp .Not a pos) (Gi X.K ta):=by
 intro KO s σ H Q I h;refine UnaryOp_ (thn (ha KO s σ H _ I h) fun v s1 ⟨x,H1,I1,r1,q1⟩=> ?_);obtain⟨p,xs,rfl,hx,q⟩:=q1;cases r1;obtain⟨KQ,r,pl,hz⟩:=I1.list hx;have KS:=r.length;have hn:=fQ;exact not_of (wpAny_truthy_list pl.isList (by simp only[AJ];lia) ⟨.bl xs.isEmpty,H1,I1.tok _,by rw[lM r,Bool.not_not];rfl,q⟩)
end L2
local macro_rules | `(tactic| ac_rfl) => `(tactic| (intro _ _ _ _ h; repeat (first | (cases h; subst_vars; rfl) | (obtain ⟨e, _⟩ := h; subst e; rfl) | (obtain ⟨_, h⟩ := h))))
namespace Mine
open PySem L2 PyProof.Rows
variable {H H' H'' H0 H1 H2:Hp}{K:W.Frag}{L L':Nat->Int}{OG rs vs ws:Qt V}{P:Qp}{R:Qt (Qt (Mx Int)×Int)}{Wq:Nat->Nat->Int}{X:Nat->Qt (Nat×Int)}{a f:Qo}{b:Nat->Qo}{d e fi g i j m n s:Nat}{fd:Qq}{kvs:Qt (Qt (Qt Int)×V)}{l:W.OpenLaw}{mg:Str->Qw NR}{o:HO}{r row:Qt Int}{sp z:Int}{st:Qx}{v:V}{w:Qr}{x:Qt Int×Int}{xs ys:Qt (Nat×Int)}
def top (i:Nat):Qx:=PySem.Challenge.pw_floorcurves_k56_whole_without_holes.main.body.getD i (.Pass ⟨0,0,0,0⟩)
abbrev m5:Qx:=top 8
theorem Gk:FnScope ["thing"] ["thing"] (am m5):=by and_intros
abbrev m6:Qx:=top 9
theorem Gm:FnScope ["thing","least","greatest"] ["thing","least","greatest"] (am m6):=by and_intros
abbrev m7:Qx:=top 10
theorem Gn:FnScope ["d","k"] ["d","k"] (am m7):=by and_intros
abbrev m8:Qx:=top 11
theorem Go:FnScope ["d","k"] ["d","k"] (am m8):=by and_intros
abbrev m9:Qx:=top 12
theorem Gp:FnScope ["d"] ["d"] (am m9):=by and_intros
abbrev ng:Qx:=top 14
theorem fC:FnScope ["number","chosen","found","place"] ["number","chosen"] (am ng):=by and_intros
abbrev nh:Qx:=top 16
theorem gW:FnScope ["d","lesser","total","e","f","choices"] ["d","lesser"] (am nh):=by and_intros
abbrev ni:Qx:=top 17
theorem nk:FnScope ["d","counts","degree"] ["d"] (am ni):=by and_intros
abbrev nu:Qx:=top 19
theorem cx:FnScope ["things","pairs","standing","thing","one","other","kept","left"] ["things","pairs"] (am nu):=by and_intros
abbrev iX:Qx:=top 20
theorem j7:FnScope ["things","pairs","standing"] ["things","pairs"] (am iX):=by and_intros
abbrev nv:Qx:=top 22
theorem j8:FnScope ["d","found","x","y"] ["d"] (am nv):=by and_intros
abbrev ny:Qx:=top 23
theorem Gq:FnScope ["d","point"] ["d","point"] (am ny):=by and_intros
abbrev nz:Qx:=top 24
theorem Gr:FnScope ["a","b","c"] ["a","b","c"] (am nz):=by and_intros
abbrev j9:Qx:=top 25
theorem Gs:FnScope ["d"] ["d"] (am j9):=by and_intros
abbrev iY:Qx:=top 26
theorem uw:FnScope ["d","down"] ["d"] (am iY):=by and_intros
abbrev nA:Qx:=top 30
theorem ux:FnScope ["way","side","place"] ["way","side"] (am nA):=by and_intros
abbrev nB:Qx:=top 31
theorem gc:FnScope ["d","way","side","place","a","b","c","found","facing"] ["d","way","side"] (am nB):=by and_intros
abbrev nC:Qx:=top 32
theorem Gu:FnScope ["piece"] ["piece"] (am nC):=by and_intros
abbrev j':Qx:=top 34
theorem uy:FnScope ["row","k","with_first"] ["row","k"] (am j'):=by and_intros
abbrev ka:Qx:=top 35
theorem uz:FnScope ["d","k","row"] ["d","k"] (am ka):=by and_intros
abbrev nD:Qx:=top 37
theorem iZ:FnScope ["d","way","side","edge","found","piece","further","rest"] ["d","way","side","edge"] (am nD):=by and_intros
abbrev nE:Qx:=top 38
theorem gX:FnScope ["d","way","under","over","found","pieces","others"] ["d","way"] (am nE):=by and_intros
abbrev nF:Qx:=top 39
theorem kb:FnScope ["cutting","product","piece"] ["cutting"] (am nF):=by and_intros
abbrev nG:Qx:=top 40
theorem i0:FnScope ["piece","found","ahead","point"] ["piece"] (am nG):=by and_intros
abbrev nH:Qx:=top 41
theorem gY:FnScope ["cutting","known","facing","piece","around","side"] ["cutting"] (am nH):=by and_intros
abbrev kc:Qx:=top 42
theorem Gv:FnScope ["cutting"] ["cutting"] (am kc):=by and_intros
abbrev nI:Qx:=top 43
theorem gd:FnScope ["cutting","thread_of","first","pairs","piece","side","thread"] ["cutting"] (am nI):=by and_intros
abbrev nJ:Qx:=top 44
theorem Gw:FnScope ["cutting"] ["cutting"] (am nJ):=by and_intros
abbrev nL:Qx:=top 45
theorem i5:FnScope ["d","k","total","way","cutting"] ["d","k"] (am nL):=by and_intros
abbrev nM:Qx:=top 47
theorem i6:FnScope ["d","drawing","ends","i","j","w"] ["d","drawing"] (am nM):=by and_intros
abbrev nN:Qx:=top 48
theorem Gx:FnScope ["d","drawing"] ["d","drawing"] (am nN):=by and_intros
abbrev nO:Qx:=top 49
theorem Gy:FnScope ["lift"] ["lift"] (am nO):=by and_intros
abbrev nP:Qx:=top 50
theorem ke:FnScope ["d","floor","weight","spare","found","j","w"] ["d","floor","weight","spare"] (am nP):=by and_intros
abbrev nQ:Qx:=top 51
theorem i7:FnScope ["lifts","weight","spare","found","place","lift","rest"] ["lifts","weight","spare"] (am nQ):=by and_intros
abbrev i8:Qx:=top 52
theorem gZ:FnScope ["d","floor","drawing","spare","there","found","lifts","ends","left"] ["d","floor","drawing","spare"] (am i8):=by and_intros
abbrev kf:Qx:=top 53
theorem ge:FnScope ["d","k","begun","floor","longer","drawing","spare"] ["d","k"] (am kf):=by and_intros
abbrev kg:Qx:=top 54
theorem Gz:FnScope ["d","drawing"] ["d","drawing"] (am kg):=by and_intros
abbrev nR:Qx:=top 55
theorem kh:FnScope ["drawing","product","lift"] ["drawing"] (am nR):=by and_intros
abbrev nS:Qx:=top 57
theorem GA:FnScope ["numbers","place","more"] ["numbers","place","more"] (am nS):=by and_intros
abbrev nT:Qx:=top 58
theorem ki:FnScope ["numbers","product","number"] ["numbers"] (am nT):=by and_intros
abbrev nU:Qx:=top 60
theorem GB:FnScope ["d","drawing"] ["d","drawing"] (am nU):=by and_intros
abbrev nV:Qx:=top 61
theorem kj:FnScope ["d","drawing","found","place","number"] ["d","drawing"] (am nV):=by and_intros
abbrev nW:Qx:=top 62
theorem g6:FnScope ["numbers","first","last","alike","found","here","choices","fuller","others"] ["numbers","first","last","alike"] (am nW):=by and_intros
abbrev nX:Qx:=top 63
theorem fD:FnScope ["d","marks","known","mark","fuller","numbers","further","choices"] ["d","marks"] (am nX):=by and_intros
abbrev nY:Qx:=top 64
theorem GC:FnScope ["d","drawing"] ["d","drawing"] (am nY):=by and_intros
abbrev i9:Qx:=top 65
theorem uA:FnScope ["d","k","whole"] ["d","k"] (am i9):=by and_intros
abbrev nZ:Qx:=top 67
theorem uB:FnScope ["thing","number"] ["thing"] (am nZ):=by and_intros
abbrev ja:Qx:=top 68
theorem uC:FnScope ["row"] ["row"] (am ja):=by and_intros
abbrev og:Qx:=top 69
theorem GD:FnScope ["d","held","free"] ["d","held","free"] (am og):=by and_intros
abbrev oh:Qx:=top 71
theorem GE:FnScope ["row","length"] ["row","length"] (am oh):=by and_intros
abbrev km:Qx:=top 72
theorem g7:FnScope ["row","found","number","longer","begun"] ["row"] (am km):=by and_intros
abbrev oj:Qx:=top 73
theorem ko:FnScope ["row","weight","first","missing","found","place"] ["row","weight","first"] (am oj):=by and_intros
abbrev om:Qx:=top 74
theorem jb:FnScope ["row","chosen","product","number","part"] ["row","chosen"] (am om):=by and_intros
abbrev on:Qx:=top 75
theorem kr:FnScope ["row","fuller","found","place","number"] ["row","fuller"] (am on):=by and_intros
abbrev oq:Qx:=top 76
theorem jc:FnScope ["d","k","held","free","found","place","number","lesser"] ["d","k","held","free"] (am oq):=by and_intros
abbrev ot:Qx:=top 77
theorem jd:FnScope ["d","k","held","free","found","kept","freed","lesser"] ["d","k","held","free"] (am ot):=by and_intros
abbrev ou:Qx:=top 78
theorem je:FnScope ["asked","d","k","held","free"] ["asked"] (am ou):=by and_intros
abbrev ow:Qx:=top 79
theorem g8:FnScope ["asked","known","total","number","weights","lesser"] ["asked","known"] (am ow):=by and_intros
abbrev ox:Qx:=top 80
theorem GF:FnScope ["d","k","held","free"] ["d","k","held","free"] (am ox):=by and_intros
abbrev oy:Qx:=top 81
theorem GG:FnScope ["d","k","held","free"] ["d","k","held","free"] (am oy):=by and_intros
abbrev oz:Qx:=top 83
theorem GH:FnScope ["d","k"] ["d","k"] (am oz):=by and_intros
abbrev oA:Qx:=top 84
theorem GI:FnScope ["d","k"] ["d","k"] (am oA):=by and_intros
abbrev oB:Qx:=top 85
theorem kt:FnScope ["d","found","e","k"] ["d"] (am oB):=by and_intros
abbrev oC:Qx:=top 86
theorem g9:FnScope ["table","greatest","found","d","s","number"] ["table","greatest"] (am oC):=by and_intros
abbrev oD:Qx:=top 87
theorem jf:FnScope ["total","wholes","counts","sign","r","rest","s","product"] ["total","wholes","counts","sign"] (am oD):=by and_intros
abbrev oE:Qx:=top 88
theorem ku:FnScope ["counts","wholes","d","e"] ["counts"] (am oE):=by and_intros
abbrev oF:Qx:=top 89
theorem oG:FnScope ["d","k","s","rows"] ["d","k"] (am oF):=by and_intros
abbrev oH:Qx:=top 91
theorem GK:FnScope ["_law_script","_law_k"] ["_law_script","_law_k"] (am oH):=by and_intros
abbrev oI:Qx:=top 92
theorem hJ:FnScope ["_law_cell","_law_x","_law_found","_law_k"] ["_law_cell"] (am oI):=by and_intros
abbrev oJ:Qx:=top 93
theorem uD:FnScope ["_law_rest","_law_m","_law_digit_here"] ["_law_rest","_law_m"] (am oJ):=by and_intros
abbrev oK:Qx:=top 94
theorem jg:FnScope ["_law_script","_law_rest","_law_d","_law_k","_law_found"] ["_law_script"] (am oK):=by and_intros
set_option genInjectivity false
set_option genSizeOfSpec false
structure Fb (K:W.Frag) (mg:Str->Qw NR) (n:Str) (st:Qx) (ps:Qt Str) (f:Qo) (d:Qq):Prop where
 F:Fun K n n st f d
 B:gD K d ps []
 m:mg n=some (.ref f)
structure Fns (K:W.Frag) (mg:Str->Qw NR) where
 f0:Addr
 d0:FuncData
 f1:Addr
 d1:FuncData
 f2:Addr
 d2:FuncData
 f3:Addr
 d3:FuncData
 f4:Addr
 d4:FuncData
 f5:Addr
 d5:FuncData
 f6:Addr
 d6:FuncData
 f7:Addr
 d7:FuncData
 f8:Addr
 d8:FuncData
 f9:Addr
 d9:FuncData
 f10:Addr
 d10:FuncData
 f11:Addr
 d11:FuncData
 f12:Addr
 d12:FuncData
 f13:Addr
 d13:FuncData
 f14:Addr
 d14:FuncData
 f15:Addr
 d15:FuncData
 f16:Addr
 d16:FuncData
 f17:Addr
 d17:FuncData
 f18:Addr
 d18:FuncData
 f19:Addr
 d19:FuncData
 f20:Addr
 d20:FuncData
 f21:Addr
 d21:FuncData
 f22:Addr
 d22:FuncData
 f23:Addr
 d23:FuncData
 f24:Addr
 d24:FuncData
 f25:Addr
 d25:FuncData
 f26:Addr
 d26:FuncData
 f27:Addr
 d27:FuncData
 f28:Addr
 d28:FuncData
 f29:Addr
 d29:FuncData
 f30:Addr
 d30:FuncData
 f31:Addr
 d31:FuncData
 f32:Addr
 d32:FuncData
 f33:Addr
 d33:FuncData
 f34:Addr
 d34:FuncData
 f35:Addr
 d35:FuncData
 f36:Addr
 d36:FuncData
 f37:Addr
 d37:FuncData
 f38:Addr
 d38:FuncData
 f39:Addr
 d39:FuncData
 f40:Addr
 d40:FuncData
 f41:Addr
 d41:FuncData
 f42:Addr
 d42:FuncData
 f43:Addr
 d43:FuncData
 f44:Addr
 d44:FuncData
 f45:Addr
 d45:FuncData
 f46:Addr
 d46:FuncData
 f47:Addr
 d47:FuncData
 f48:Addr
 d48:FuncData
 f49:Addr
 d49:FuncData
 f50:Addr
 d50:FuncData
 f51:Addr
 d51:FuncData
 f52:Addr
 d52:FuncData
 f53:Addr
 d53:FuncData
 f54:Addr
 d54:FuncData
 f55:Addr
 d55:FuncData
 f56:Addr
 d56:FuncData
 f57:Addr
 d57:FuncData
 f58:Addr
 d58:FuncData
 f59:Addr
 d59:FuncData
 f60:Addr
 d60:FuncData
 f61:Addr
 d61:FuncData
 f62:Addr
 d62:FuncData
 f63:Addr
 d63:FuncData
 f64:Addr
 d64:FuncData
 f65:Addr
 d65:FuncData
 f66:Addr
 d66:FuncData
 f67:Addr
 d67:FuncData
 f68:Addr
 d68:FuncData
 f69:Addr
 d69:FuncData
 f70:Addr
 d70:FuncData
 X0:Fb K mg "is_whole" m5 ["thing"] f0 d0
 X1:Fb K mg "need_between" m6 ["thing","least","greatest"] f1 d1
 X2:Fb K mg "need_narrow" m7 ["d","k"] f2 d2
 X3:Fb K mg "need_wide" m8 ["d","k"] f3 d3
 X4:Fb K mg "need_degree" m9 ["d"] f4 d4
 X5:Fb K mg "choose" ng ["number","chosen"] f5 d5
 X6:Fb K mg "split_in_two" nh ["d","lesser"] f6 d6
 X7:Fb K mg "without_holes" ni ["d"] f7 d7
 X8:Fb K mg "gathered" nu ["things","pairs"] f8 d8
 X9:Fb K mg "how_many_sets" iX ["things","pairs"] f9 d9
 X10:Fb K mg "points" nv ["d"] f10 d10
 X11:Fb K mg "is_point" ny ["d","point"] f11 d11
 X12:Fb K mg "corner" nz ["a","b","c"] f12 d12
 X13:Fb K mg "upper_edge" j9 ["d"] f13 d13
 X14:Fb K mg "lower_edge" iY ["d"] f14 d14
 X15:Fb K mg "first_turn" nA ["way","side"] f15 d15
 X16:Fb K mg "steps" nB ["d","way","side"] f16 d16
 X17:Fb K mg "piece_worth" nC ["piece"] f17 d17
 X18:Fb K mg "leaving_out" j' ["row","k"] f18 d18
 X19:Fb K mg "ways" ka ["d","k"] f19 d19
 X20:Fb K mg "manners" nD ["d","way","side","edge"] f20 d20
 X21:Fb K mg "cuttings" nE ["d","way"] f21 d21
 X22:Fb K mg "cut_worth" nF ["cutting"] f22 d22
 X23:Fb K mg "sides" nG ["piece"] f23 d23
 X24:Fb K mg "threads" nH ["cutting"] f24 d24
 X25:Fb K mg "corner_pieces" kc ["cutting"] f25 d25
 X26:Fb K mg "joined" nI ["cutting"] f26 d26
 X27:Fb K mg "cut_parts" nJ ["cutting"] f27 d27
 X28:Fb K mg "whole_by_ways" nL ["d","k"] f28 d28
 X29:Fb K mg "ends_at" nM ["d","drawing"] f29 d29
 X30:Fb K mg "sound" nN ["d","drawing"] f30 d30
 X31:Fb K mg "lost" nO ["lift"] f31 d31
 X32:Fb K mg "lifts_from" nP ["d","floor","weight","spare"] f32 d32
 X33:Fb K mg "leaving" nQ ["lifts","weight","spare"] f33 d33
 X34:Fb K mg "with_floor" i8 ["d","floor","drawing","spare"] f34 d34
 X35:Fb K mg "drawings" kf ["d","k"] f35 d35
 X36:Fb K mg "parts" kg ["d","drawing"] f36 d36
 X37:Fb K mg "worth" nR ["drawing"] f37 d37
 X38:Fb K mg "with_more" nS ["numbers","place","more"] f38 d38
 X39:Fb K mg "product_of" nT ["numbers"] f39 d39
 X40:Fb K mg "need_sound" nU ["d","drawing"] f40 d40
 X41:Fb K mg "end_marks" nV ["d","drawing"] f41 d41
 X42:Fb K mg "put_between" nW ["numbers","first","last","alike"] f42 d42
 X43:Fb K mg "how_many_orders" nX ["d","marks"] f43 d43
 X44:Fb K mg "how_many" nY ["d","drawing"] f44 d44
 X45:Fb K mg "whole_by_floors" i9 ["d","k"] f45 d45
 X46:Fb K mg "is_row" nZ ["thing"] f46 d46
 X47:Fb K mg "row_weight" ja ["row"] f47 d47
 X48:Fb K mg "need_rows" og ["d","held","free"] f48 d48
 X49:Fb K mg "filled_up" oh ["row","length"] f49 d49
 X50:Fb K mg "rows_within" km ["row"] f50 d50
 X51:Fb K mg "rows_beyond" oj ["row","weight","first"] f51 d51
 X52:Fb K mg "choices" om ["row","chosen"] f52 d52
 X53:Fb K mg "weights_gained" on ["row","fuller"] f53 d53
 X54:Fb K mg "with_one_held" oq ["d","k","held","free"] f54 d54
 X55:Fb K mg "with_one_degree_fewer" ot ["d","k","held","free"] f55 d55
 X56:Fb K mg "summands" ou ["asked"] f56 d56
 X57:Fb K mg "counted" ow ["asked","known"] f57 d57
 X58:Fb K mg "asked_of" ox ["d","k","held","free"] f58 d58
 X59:Fb K mg "by_ends" oy ["d","k","held","free"] f59 d59
 X60:Fb K mg "points_through" oz ["d","k"] f60 d60
 X61:Fb K mg "count_row" oA ["d","k"] f61 d61
 X62:Fb K mg "rows_up_to" oB ["d"] f62 d62
 X63:Fb K mg "by_degree" oC ["table","greatest"] f63 d63
 X64:Fb K mg "add_products" oD ["total","wholes","counts","sign"] f64 d64
 X65:Fb K mg "wholes_by_degree" oE ["counts"] f65 d65
 X66:Fb K mg "reckoned_whole" oF ["d","k"] f66 d66
 X67:Fb K mg "_law_cell_at" oH ["_law_script","_law_k"] f67 d67
 X68:Fb K mg "_law_great" oI ["_law_cell"] f68 d68
 X69:Fb K mg "_law_digit" oJ ["_law_rest","_law_m"] f69 d69
 X70:Fb K mg "law" oK ["_law_script"] f70 d70
 n_isinstance:mg "isinstance"=none
 n_int:mg "int"=none
 n_bool:mg "bool"=none
 n_range:mg "range"=none
 n_len:mg "len"=none
 n_abs:mg "abs"=none
 n_list:mg "list"=none
 n_sorted:mg "sorted"=none
 n_min:mg "min"=none
 n_max:mg "max"=none
 n_enumerate:mg "enumerate"=none
 n_sum:mg "sum"=none
 n_tuple:mg "tuple"=none
 n_set:mg "set"=none
 n_zip:mg "zip"=none
 n_dict:mg "dict"=none
 k_LEFT:Tok
 m_LEFT:mg "LEFT"=some (.int (1) k_LEFT)
 k_RIGHT:Tok
 m_RIGHT:mg "RIGHT"=some (.int (-1) k_RIGHT)
 a_NARROW:Addr
 m_NARROW:mg "NARROW"=some (.ref a_NARROW)
 D_NARROW:gM K a_NARROW [(1,6),(2,6),(3,6),(4,2)]=true
 a_WIDE:Addr
 m_WIDE:mg "WIDE"=some (.ref a_WIDE)
 D_WIDE:gM K a_WIDE [(1,6),(2,6),(3,6),(4,6),(5,3)]=true
 c_NoBound:Addr
 m_NoBound:mg "NoBound"=some (.ref c_NoBound)
 c_NoDrawing:Addr
 m_NoDrawing:mg "NoDrawing"=some (.ref c_NoDrawing)
 c_NoEnds:Addr
 m_NoEnds:mg "NoEnds"=some (.ref c_NoEnds)
 x_NoBound:W.excIn K c_NoBound bmV "ValueError.__new__"=true
 X_NoBound:XC K c_NoBound
 x_NoDrawing:W.excIn K c_NoDrawing bmV "ValueError.__new__"=true
 X_NoDrawing:XC K c_NoDrawing
 x_NoEnds:W.excIn K c_NoEnds bmV "ValueError.__new__"=true
 X_NoEnds:XC K c_NoEnds
theorem pcq {X:Cx}{k:Nat}{x:Str}{ps:Qt Str}{sp:Sp}{e:Qu}{es:Qt Qu}{t:TA}{p pos:Pos} (F:FnOk X.prog X.w X.K X.mg X.base CX0 k f fd ps sp) (hr:Room n X.A) (B:Fb X.K X.mg x st ps f fd) (ha:PA X (e::es) t) (hk:k<=n:=by decide) (hg:Gl X x:=by rfl) (NI:(x==("__debug__":Str))=false:=by decide) (he:starEach (e::es) X.env=(false,eval e X.env)::starEach es X.env:=by rfl) (MI:(backTo pos (starEach es X.env)).any (·.1)=false:=by rfl):PE X (.Call (.Name x p) (e::es) [] pos) (qP sp [] E0 t):=fu F (hr.mono hk) hg B.m B.F.kp B.B .nil fx ha NI he MI
theorem pSA {X:Cx}{x:Str}{e:Qu}{te:TE}{pos K9:Pos} (hN:X.N.Nodup) (he:PE X e te) (hi:X.N[i]? =some x:=by rfl) (hx:Loc X.env.scope x:=by first|exact Or.inl rfl|exact Or.inr rfl) (hs:swapsWith e (some (.Name x K9)) pos.line X.env=pure false:=by rfl) (hf:X.fn x=true\/X.env.scope.names.lookup x=some .local:=by first|exact .inl rfl|exact .inr rfl|assumption):PS X (.Assign [.Name x K9] e pos) (iF te (cq i)):=yk hN hi hx he hs hf
theorem pGA {X:Cx}{x:Str}{pos:Pos} (hN:X.N.Nodup) (hi:X.N[i]? =some x:=by rfl) (hx:Loc X.env.scope x:=by first|exact Or.inl rfl|exact Or.inr rfl) (hf:X.fn x=true\/X.env.scope.names.lookup x=some .local:=by first|exact .inl rfl|exact .inr rfl|assumption):PG X (.Name x pos) (cq i):=bK hN hi hx hf
def zB (h:Nat.ble n sizeLine=true):n<=sizeLine:=Nat.le_of_ble_eq_true h
theorem FbO {base:Qv}{x:Str}{N ps:Qt Str}{k:Nat}{sp:Sp} (B:Fb K mg x st ps f fd) (S:FnScope N ps (am st)) (MJ:∀(Lb:NR) (A:Qs) (outer:Qt Env) (s:Qn) (H:Hp) (vs:Qt V) (Q:VK) (E:XK),Room k (A.deeper (envOfC x (am st) s.heap.objs.size f Lb))->sp vs H Q E->∃t,PSs (fS CX0 P w K mg base N x (am st) f Lb A outer s H E).nox (dO st) t/\t {nx:=fun _ H'=>Q .non H',rt:=Q} (start N vs) H) (len:∀vs H Q E,sp vs H Q E->vs.length=ps.length:=by ac_rfl):FnOk P w K mg base CX0 (k+1) f fd ps sp:=B.F.ok S len MJ
abbrev OKQ {K:PySem.W.Frag}{mg:Str->Qw NR}{n:Str}{st:Qx}{ps:Qt Str}{f:Qo}{d:Qq} (_:Fb K mg n st ps f d) (P:Qp) (w:Qr) (base:Qv) (k:Nat) (sp:Sp):Prop:=FnOk P w K mg base CX0 k f d ps sp
theorem aH {α:Type}{f:α->D}{L:Qt α}(h:Iss H (L.map f) vs) (hi:vs[i]? =some v):∃x,L[i]? =some x/\Is H (f x) v:=by
 have⟨d,hd,h⟩:=h.of_get hi;rw[AC] at hd;obtain⟨x,hx,rfl⟩:=AR.mp hd;exact⟨x,hx,h⟩
abbrev Lf:=Int×Int×Int
variable {p:Lf}{ps:Qt Lf}
def di (e:Qt Int) (p:Lf):Qt Int:=(e.set (p.1-1).toNat (e.getD (p.1-1).toNat 0-p.2.2)).set (p.2.1-1).toNat ((e.set (p.1-1).toNat (e.getD (p.1-1).toNat 0-p.2.2)).getD (p.2.1-1).toNat 0+p.2.2)
def bC (n:Nat) (ps:Qt Lf):Qt Int:=ps.foldl di (List.replicate n 1)
def gf (ps:Qt Lf) (f:Int):Int:=((ps.filter fun p=>decide (p.2.1=f)).map (·.2.2)).sum
def gg (ps:Qt Lf) (f:Int):Int:=((ps.filter fun p=>decide (p.1=f)).map (·.2.2)).sum
def Okl (n:Nat) (p:Lf):Prop:=1<=p.1/\p.1<=n/\1<=p.2.1/\p.2.1<=n
theorem oM {l:Qt Int}{v:Int} (h:i<l.length):(l.set i v).getD j 0=if i=j then v else l.getD j 0:=by
 rw[List.getD,List.getElem?_set];by_cases e:i=j
 .subst e;rw[A7 rfl,A7 rfl,A7 h];rfl
 .rw [A5 e,A5 e];rfl
theorem GL {e:Qt Int}:(di e p).length=e.length:=by unfold di;rw[C1,C1]
theorem GM {e:Qt Int}(he:e.length=n) (hp:Okl n p) (i:Nat):(di e p).getD i 0=e.getD i 0+(if p.2.1=1+(i:Int) then p.2.2 else 0)-(if p.1=1+(i:Int) then p.2.2 else 0):=by
 obtain⟨h1,h2,h3,h4⟩:=hp;unfold di;have a1:(p.1-1).toNat<e.length:=by lia
 rw[oM (by rw[C1];lia),oM a1];by_cases c1:(p.2.1-1).toNat=i
 .have d1:p.2.1=1+(i:Int):=by lia
  rw[A7 c1,A7 d1,c1];by_cases c2:(p.1-1).toNat=i
  .have d2:p.1=1+(i:Int):=by lia
   rw[A7 c2,A7 d2,c2];lia
  .have d2:¬p.1=1+(i:Int):=by lia
   rw[A5 c2,A5 d2];lia
 .have d1:¬p.2.1=1+(i:Int):=by lia
  rw[A5 c1,A5 d1,oM a1];by_cases c2:(p.1-1).toNat=i
  .have d2:p.1=1+(i:Int):=by lia
   rw[A7 c2,A7 d2,c2];lia
  .have d2:¬p.1=1+(i:Int):=by lia
   rw[A5 c2,A5 d2];lia
theorem GN (p:Lf) (ps:Qt Lf) (f:Int):gf (p::ps) f=(if p.2.1=f then p.2.2 else 0)+gf ps f:=by
 unfold gf;rw[By];by_cases h:p.2.1=f<;>simp[h]
theorem GO (p:Lf) (ps:Qt Lf) (f:Int):gg (p::ps) f=(if p.1=f then p.2.2 else 0)+gg ps f:=by
 unfold gg;rw[By];by_cases h:p.1=f<;>simp[h]
theorem kw {n:Nat}:∀(ps:Qt Lf) (e:Qt Int),e.length=n->(∀p∈ps,Okl n p)->(ps.foldl di e).length=n/\∀i:Nat,(ps.foldl di e).getD i 0=e.getD i 0+gf ps (1+(i:Int))-gg ps (1+(i:Int))
 |[],e,he,_=>⟨he,fun i=>by simp[gf,gg]⟩
 |p::ps,e,he,h=>by
  rw[Cs];obtain⟨h1,h2⟩:=kw ps (di e p) (by rw[GL];exact he) fun q hq=>h q (by simp[hq]);refine⟨h1,fun i=> ?_⟩;rw[h2 i,GM he (h p (by simp)) i,GN,GO];lia
theorem kx (n:Nat) (ps:Qt Lf) (h:∀p∈ps,Okl n p):(bC n ps).length=n:=(kw ps _ (by simp) h).1
def GP (xs:Qt Int):Lf:=(xs.getD 0 0,xs.getD 1 0,xs.getD 2 0)
def bX (p:Lf):Qt Int:=[p.1,p.2.1,p.2.2]
def uE (p:Lf):GP (bX p)=p:=rfl
def gh (L:Nat->Int) (p:Int×Int):Nat->Int:=fun t=>if L t=L (p.2-1).toNat then L (p.1-1).toNat else L t
def hU (ps:Qt (Int×Int)):Nat->Int:=ps.foldl gh fun t=>1+(t:Int)
def Okp (d:Nat) (p:Int×Int):Prop:=1<=p.1/\p.1<=d/\1<=p.2/\p.2<=d
def oN (d:Nat) (L:Nat->Int):Qt Nat:=(List.range d).filter fun t=>decide (L t=1+(t:Int))
def kz (ps:Qt Lf):Qt (Int×Int):=ps.map fun p=>(p.1,p.2.1)
theorem GQ (h:∀p∈ps,Okl d p):∀p∈kz ps,Okp d p:=fun p hp=>by
 obtain⟨q,hq,rfl⟩:=Ak.mp hp;exact h q hq
theorem oO {ks:Qt Int}(h:i<ks.length):(ks.map V.int)[i]? =some (.int (ks.getD i 0)):=by rw[AC,A2 h];simp[List.getD,h]
theorem map_set {l:Qt Int}{i:Nat}{v:Int}:(l.set i v).map V.int=(l.map V.int).set i (.int v):=by rw[List.map_set]
def lf (p:Lf):D:=tI (bX p)
def lfs (ps:Qt Lf):D:= .l (ps.map lf)
def fE (h:Is H (lf p) v):∃a,v= .ref a/\H a=some (.tup [.int p.1, .int p.2.1, .int p.2.2]):=bO h
def jh (h:H a=some (.tup [.int p.1, .int p.2.1, .int p.2.2])):Is H (lf p) (.ref a):=eX (xs:=bX p) h
theorem uF (ps:Qt Lf):lfs ps= .l ((ps.map bX).map tI):=by unfold lfs;rw[BA];rfl
def av (H H':Hp):Prop:=∀a xs,H a=some (.tup xs)->H' a=some (.tup xs)
def av.of_same (s:ae H H'):av H H':=fun a xs e=>s _ _ e
def av.trans (s:av H H') (t:av H' H''):av H H'':=fun a xs e=>t _ _ (s _ _ e)
theorem av.upd {H:Hp}{b:Qo}{zs ys:Qt V} (hb:H b=some (.lst zs)):av H (L2.upd H b (.lst ys)):=fun a xs e=>by
 rw[ar (by rintro rfl;rw[hb] at e;cases e)];exact e
theorem kA {H H':Hp} (t:av H H'):∀{ps:Qt Lf}{vs:Qt V},Iss H (ps.map lf) vs->Iss H' (ps.map lf) vs
 |[],_,h=>by rw[bi h];exact ao
 |p::ps,_,h=>by
  obtain⟨u,us,rfl,h1,h2⟩:=aK h;obtain⟨a,rfl,ha⟩:=fE h1;exact ak (jh (t _ _ ha)) (kA t h2)
def bA (p q:Lf):Bool:=if p.1=q.1 then(if p.2.1=q.2.1 then decide (p.2.2<q.2.2) else decide (p.2.1<q.2.1)) else decide (p.1<q.1)
def hV:Qt Lf->Qt Lf->Bool
 |_,[]=>false
 |[],_::_=>true
 |x::xs,y::ys=>if x=y then hV xs ys else bA x y
theorem uG {q:Lf}{w:V} (h:Is H (lf p) v) (k:Is H (lf q) w):EqR K H 1 v w (decide (p=q)):=by
 have e:=h.eqr (K:=K) (n:=1) (by simp[lf,tI,bX,dep,cY]) (by simp[lf,tI,bX,Kin,cw]) k;have:eqD (lf p) (lf q)=decide (p=q):=by
  obtain⟨a,b,c⟩:=p;obtain⟨d,e,f⟩:=q;simp[lf,tI,bX,eqD,cX,Bool.and_assoc]
 rwa [this] at e
theorem GS {q:Lf}{w:V} (h:Is H (lf p) v) (k:Is H (lf q) w):LtR K H 1 v w (bA p q):=by
 obtain⟨a,rfl,ha⟩:=fE h;obtain⟨b,rfl,hb⟩:=fE k;have e:=LtR.tuples (K:=K) (H:=H) (d:=0) (a:=a) (b:=b) (fun j=>if j=0 then decide (p.1=q.1) else if j=1 then decide (p.2.1=q.2.1) else decide (p.2.2=q.2.2)) (fun j=>if j=0 then decide (p.1<q.1) else if j=1 then decide (p.2.1<q.2.1) else decide (p.2.2<q.2.2)) (SqT.of ha) (SqT.of hb) (fun j x y hx hy=> ?_) (fun j x y hx hy _=> ?_)
 .have e2:SeqAt.lex (fun j=>if j=0 then decide (p.1=q.1) else if j=1 then decide (p.2.1=q.2.1) else decide (p.2.2=q.2.2)) (fun j=>if j=0 then decide (p.1<q.1) else if j=1 then decide (p.2.1<q.2.1) else decide (p.2.2<q.2.2)) 3 3 3 0=bA p q:=by
   unfold bA;by_cases e0:p.1=q.1
   .by_cases e1:p.2.1=q.2.1
    .by_cases e2:p.2.2=q.2.2
     .simp [SeqAt.lex,e0,e1,e2]
     .simp [SeqAt.lex,e0,e1,e2]
    .simp [SeqAt.lex,e0,e1]
   .simp [SeqAt.lex,e0]
  exact e2▸e
 .match j,hx,hy with
  |0,hx,hy=>cases hx;cases hy;exact EqR.int 0 _ _
  |1,hx,hy=>cases hx;cases hy;exact EqR.int 0 _ _
  |2,hx,hy=>cases hx;cases hy;exact EqR.int 0 _ _
  |j+3,hx,_=>simp at hx
 .match j,hx,hy with
  |0,hx,hy=>cases hx;cases hy;exact LtR.int 0 _ _
  |1,hx,hy=>cases hx;cases hy;exact LtR.int 0 _ _
  |2,hx,hy=>cases hx;cases hy;exact LtR.int 0 _ _
  |j+3,hx,_=>simp at hx
theorem uH (p q:Qt Lf):∀(k i:Nat),min p.length q.length-i=k->i<=min p.length q.length->SeqAt.lex (fun j=>decide (p.getD j (0,0,0)=q.getD j (0,0,0))) (fun j=>bA (p.getD j (0,0,0)) (q.getD j (0,0,0))) p.length q.length k i=hV (p.drop i) (q.drop i)
 |0,i,hk,hi=>by
  rw[SeqAt.lex];rcases(by lia:q.length=i\/(p.length=i/\i<q.length)) with e|⟨e,e2⟩
  .rw [Bd (l:=q) (by lia)];have:¬p.length<q.length:=by lia
   cases p.drop i<;>simp[hV,this]
  .rw [Bd (l:=p) (by lia),Ai e2];have:p.length<q.length:=by lia
   simp[hV,this]
 |k+1,i,hk,hi=>by
  have h1:i<p.length:=by lia
  have h2:i<q.length:=by lia
  have g1:p.getD i (0,0,0)=p[i]:=by simp[List.getD,h1]
  have g2:q.getD i (0,0,0)=q[i]:=by simp[List.getD,h2]
  rw[SeqAt.lex,Ai h1,Ai h2,hV,g1,g2];by_cases e:p[i]=q[i]
  .rw [A7 (At e),A7 e];exact uH p q k (i+1) (by lia) (by lia)
  .rw [A5 (by simpa using e),A5 e]
theorem GU {p q:Qt Lf}(h:Iss H (p.map lf) vs) (k:Iss H (q.map lf) ws):
  (∀(j:Nat) x y,vs[j]? =some x->ws[j]? =some y->EqR K H 1 x y (decide (p.getD j (0,0,0)=q.getD j (0,0,0))))/\(∀(j:Nat) x y,vs[j]? =some x->ws[j]? =some y->decide (p.getD j (0,0,0)=q.getD j (0,0,0))=false->LtR K H 1 x y (bA (p.getD j (0,0,0)) (q.getD j (0,0,0)))):=by
 have go:∀(j:Nat) x y,vs[j]? =some x->ws[j]? =some y->Is H (lf (p.getD j (0,0,0))) x/\Is H (lf (q.getD j (0,0,0))) y:=fun j x y hx hy=>by
  obtain⟨d,hd,h1⟩:=h.of_get hx;obtain⟨e,he,h2⟩:=k.of_get hy;rw[AC] at hd he;obtain⟨d',LU,rfl⟩:=AR.mp hd;obtain⟨e',MW,rfl⟩:=AR.mp he;rw[List.getD,LU,List.getD,MW];exact⟨h1,h2⟩
 exact⟨fun j x y hx hy=>uG (go j x y hx hy).1 (go j x y hx hy).2,fun j x y hx hy _=>GS (go j x y hx hy).1 (go j x y hx hy).2⟩
theorem GV {p q:Qt Lf}{w:V} (h:Is H (lfs p) v) (k:Is H (lfs q) w):Ask K H v w (hV p q):=by
 obtain⟨a,vs,rfl,ha,h⟩:=az h;obtain⟨b,ws,rfl,hb,k⟩:=az k;obtain⟨e1,e2⟩:=GU (K:=K) h k;refine⟨a,b,vs,ws,1,_,_,rfl,rfl,SqL.of ha,SqL.of hb,by decide,e1,e2, ?_⟩;rw[h.length,k.length,A1,A1,uH p q _ 0 (Nat.sub_zero _) (AL _),C7,C7]
def nw (H0 H:Hp):Hp:=fun b=>match H0 b with|some (.lst _)=>none|_=>H b
theorem bu :ae (nw H0 H) H:=fun b o e=>by
 unfold nw at e;split at e
 .cases e
 .exact e
theorem e9 (s:ae H H'):ae (nw H0 H) (nw H0 H'):=fun b o e=>by
 unfold nw at e⊢;split at e
 .cases e
 .exact s _ _ e
theorem ia (s:ae H0 H1):ae (nw H1 H) (nw H0 H):=fun b o e=>by
 unfold nw at e⊢;split at e
 .cases e
 .rename_i h;split
  .rename_i xs h0;exact absurd (s _ _ h0) (h xs)
  .exact e
theorem ib {xs:Qt V} (s:ae H0 H1) (ha:H1 a=some (.lst xs)):ae (nw H1 H) (hid (nw H0 H) a):=fun b o e=>by
 have hb:b≠a:=by
  rintro rfl;unfold nw at e;rw[ha] at e;cases e
 rw[dC hb];exact ia s b o e
theorem bY (h:H0 a=none):nw H0 H a=H a:=by unfold nw;rw[h]
theorem kB {xs:Qt V} (s:ae H0 H) (h:H a=some (.tup xs)):nw H0 H a=some (.tup xs):=by
 unfold nw;split
 .rename_i ys e;rw[s _ _ e] at h;cases h
 .exact h
def GW (s:ae H0 H) (h:Iss H (ps.map lf) vs):Iss (nw H0 H) (ps.map lf) vs:=kA (fun a xs e=>kB s e) h
theorem uI (s:ae H0 H) (n:H0 a=none) (h:Is H (lfs ps) (.ref a)):Is (nw H0 H) (lfs ps) (.ref a):=by
 obtain⟨_,vs,e,ha,hi⟩:=az h;cases e;exact aB (by rw[bY n];exact ha) (GW s hi)
def Acc (H0 H:Hp) (a:Qo) (xs:Qt D):Prop:=∃vs,H a=some (.lst vs)/\Iss (hid (nw H0 H) a) xs vs
def Acc.start (h:H a=some (.lst [])):Acc H0 H a []:=⟨[],h,ao⟩
theorem Acc.mono {H0 H H':Hp}{a:Qo}{xs:Qt D} (s:ae H H') (g:Acc H0 H a xs):Acc H0 H' a xs:=let ⟨vs,e,h⟩:=g;⟨vs,s _ _ e,h.mono (cZ (e9 s))⟩
theorem uJ :hid (nw H0 (upd H a o)) a=hid (nw H0 H) a:=by
 funext b
 unfold hid;split
 .rfl
 .rename_i h;unfold nw;rw[ar h]
theorem Acc.add {xs:Qt D}{x:D}(s01:ae H0 H1) (Op:ae H1 H2) (ha:H1 a=some (.lst vs)) (h:Iss (hid (nw H0 H1) a) xs vs) (k:Is (nw H1 H2) x v):Acc H0 (upd H2 a (.lst (vs++[v]))) a (xs++[x]):=
 ⟨vs++[v],al,by rw[uJ];exact(h.mono (cZ (e9 Op))).append (ak (k.mono (ib s01 ha)) ao)⟩
theorem Acc.adds {xs ys:Qt D}{us:Qt V} (s01:ae H0 H1) (Op:ae H1 H2) (ha:H1 a=some (.lst vs)) (h:Iss (hid (nw H0 H1) a) xs vs) (k:Iss (nw H1 H2) ys us):Acc H0 (upd H2 a (.lst (vs++us))) a (xs++ys):=
 ⟨vs++us,al,by rw[uJ];exact(h.mono (cZ (e9 Op))).append (k.mono (ib s01 ha))⟩
theorem Acc.is {xs:Qt D} (n:H0 a=none) (g:Acc H0 H a xs):Is (nw H0 H) (.l xs) (.ref a):=let ⟨_,e,h⟩:=g;aB (by rw[bY n];exact e) (h.mono mj)
def ce (p:Lf):Int:=(p.2.1-p.1)*p.2.2-1
def eD (f j:Int) (n:Nat) (sp:Int):Qt Lf:=((List.range n).map fun w:Nat=>((f,j,1+(w:Int)):Lf)).filter fun p=>decide (ce p<=sp)
def dj (f:Int) (m n:Nat) (sp:Int):Qt Lf:=(List.range m).flatMap fun i:Nat=>eD f (f+1+(i:Int)) n sp
def cy:Nat->Qt Lf->Int->Int->Qt (Qt Lf)
 |0,_,_,_=>[[]]
 |n+1,ls,wt,sp=>[[]]++(List.range ls.length).flatMap fun i=>match ls[i]? with
  |none=>[]
  |some p=>if p.2.2<=wt/\ce p<=sp then(cy n (ls.drop i) (wt-p.2.2) (sp-ce p)).map (p:: ·) else []
def dk (n:Nat) (ls:Qt Lf) (wt sp:Int) (i:Nat):Qt (Qt Lf):=match ls[i]? with
  |none=>[]
  |some p=>if p.2.2<=wt/\ce p<=sp then(cy n (ls.drop i) (wt-p.2.2) (sp-ce p)).map (p:: ·) else []
def oP (n:Nat) (ls:Qt Lf) (wt sp:Int):cy (n+1) ls wt sp=[[]]++(List.range ls.length).flatMap (dk n ls wt sp):=rfl
def thF (d f:Nat) (ps:Qt Lf):Int:=(bC d ps).getD (f-1) 0
def fb (d f:Nat) (th sp:Int) (ls:Qt Lf):Int:=sp-(ls.map ce).sum-(th-(ls.map (·.2.2)).sum)*((d:Int)-(f:Int))
def gi (d f:Nat) (th sp:Int):Qt (Qt Lf):=cy 8 (dj f (d-f) th.toNat sp) th sp
def dQ (d f:Nat) (ps:Qt Lf) (sp:Int):Qt (Qt Lf×Int):=((gi d f (thF d f ps) sp).filter fun ls=>decide (0<=fb d f (thF d f ps) sp ls)).map fun ls=>(ps++ls,fb d f (thF d f ps) sp ls)
def bP (d:Nat) (k:Int):Nat->Qt (Qt Lf×Int)
 |0=>[([],k)]
 |f+1=>(bP d k f).flatMap fun x=>dQ d (f+1) x.1 x.2
def cO (d k:Nat):Qt (Qt Lf):=((bP d k d).filter fun x=>decide (x.2=0)).map (·.1)
def ji (d:Nat) (p:Lf):Bool:=decide (1<=p.1)&&decide (p.1<p.2.1)&&decide (p.2.1<=d)&&decide (1<=p.2.2)&&decide (p.2.2<=8)
def stB (d f:Nat) (x:Qt Lf×Int):Bool:=x.1.all (ji d)&&decide (x.1.length<=20)&&decide (0<=thF d (f+1) x.1)&&decide (thF d (f+1) x.1<8)&&decide (0<=x.2)&&decide (x.2<=6)&&decide ((gi d (f+1) (thF d (f+1) x.1) x.2).length<=200)
def okB (d k:Nat):Bool:=(List.range d).all (fun f=>(bP d k f).all (stB d f)&&decide ((bP d k (f+1)).length<=900))&&(bP d k d).all fun x=>decide (x.1.length<=20)
def Wide (d k:Nat):Prop:=1<=d/\((d<=4/\k<=6)\/(d=5/\k<=3))
theorem uK (f j:Int) (n:Nat) (sp:Int):eD f j (n+1) sp=eD f j n sp++(if ce (f,j,1+(n:Int))<=sp then [(f,j,1+(n:Int))] else []):=by
 unfold eD;rw[Ax,A6,Ba];by_cases h:ce (f,j,1+(n:Int))<=sp<;>simp[h]
theorem uL (f:Int) (m n:Nat) (sp:Int):dj f (m+1) n sp=dj f m n sp++eD f (f+1+(m:Int)) n sp:=by
 unfold dj;rw[Ax,Au];simp
theorem uM (f j:Int) (n:Nat) (sp:Int):(eD f j n sp).length<=n:=by
 unfold eD;exact B9 (Bl _ _) (by simp)
theorem oQ (f:Int) (n:Nat) (sp:Int):∀m,(dj f m n sp).length<=m*n
 |0=>by simp[dj]
 |m+1=>by
  rw[uL,AA,Ci];have:=oQ f n sp m;have:=uM f (f+1+(m:Int)) n sp;lia
theorem oR {f:Int}(h:p∈dj f m n sp):p.1=f/\f<p.2.1/\p.2.1<=f+m/\1<=p.2.2/\p.2.2<=n:=by
 unfold dj eD at h;simp only[B',Aa,Cr,Ak] at h;obtain⟨i,hi,⟨w,hw,rfl⟩,_⟩:=h;refine⟨rfl, ?_, ?_, ?_, ?_⟩
 .show f<f+1+(i:Int);lia
 .show f+1+(i:Int)<=f+m;lia
 .show 1<=1+(w:Int);lia
 .show 1+(w:Int)<=n;lia
theorem gj {α:Type} (g:Nat->Qt α) (i:Nat):(List.range (i+1)).flatMap g=(List.range i).flatMap g++g i:=by
 rw[Ax,Au];simp
theorem kC {α:Type} (g:Nat->Qt α):∀{m i:Nat},i<m->((List.range i).flatMap g).length+(g i).length<=((List.range m).flatMap g).length
 |0,i,h=>absurd h (by lia)
 |m+1,i,h=>by
  rw[gj,AA];by_cases e:i=m
  .rw [e];exact A' _
  .have:=kC g (m:=m) (i:=i) (by lia);lia
theorem GX {ls:Qt Lf}{wt:Int}{x:Qt Lf} (h:x∈cy (n+1) ls wt sp):x=[]\/∃(i:Nat) (p:Lf) (r:Qt Lf),ls[i]? =some p/\p.2.2<=wt/\ce p<=sp/\r∈cy n (ls.drop i) (wt-p.2.2) (sp-ce p)/\x=p::r:=by
 rw[oP] at h;rcases BM.mp h with h|h
 .exact .inl (Ab.mp h)
 .obtain⟨i,hi,h⟩:=B'.mp h;unfold dk at h;split at h
  .cases h
  .rename_i p hp;split at h
   .rename_i c;obtain⟨r,hr,rfl⟩:=Ak.mp h;exact .inr ⟨i,p,r,hp,c.1,c.2,hr,rfl⟩
   .cases h
theorem oS:∀{n:Nat}{ls:Qt Lf}{wt sp:Int}{x:Qt Lf},(∀p∈ls,1<=p.2.2)->0<=wt->x∈cy n ls wt sp->x.length<=n/\0<=(x.map (·.2.2)).sum/\(x.map (·.2.2)).sum<=wt/\∀p∈x,p∈ls
 |0,ls,wt,sp,x,_,h0,h=>by
  rw[cy] at h;rw[Ab.mp h];exact⟨by simp,by simp,by simpa using h0,fun p hp=>nomatch hp⟩
 |n+1,ls,wt,sp,x,hw,h0,h=>by
  rcases GX h with rfl|⟨i,p,r,hp,c1,c2,hr,rfl⟩
  .exact⟨by simp,by simp,by simpa using h0,fun p hp=>nomatch hp⟩
  .have pm:=AH hp;have p1:=hw p pm;obtain⟨a,b,c,d⟩:=oS (fun q hq=>hw q (DF hq)) (by lia) hr;refine⟨by rw[AT];lia, ?_, ?_,fun q hq=> ?_⟩
   .rw [AE,Aw];lia
   .rw [AE,Aw];lia
   .rcases AI.mp hq with rfl|hq
    .exact pm
    .exact DF (d q hq)
theorem oT :ji d p=true↔1<=p.1/\p.1<p.2.1/\p.2.1<=d/\1<=p.2.2/\p.2.2<=8:=by
 unfold ji;simp only[AN,Av];constructor
 .rintro⟨⟨⟨⟨a,b⟩,c⟩,d⟩,e⟩;exact⟨a,b,c,d,e⟩
 .rintro⟨a,b,c,d,e⟩;exact⟨⟨⟨⟨a,b⟩,c⟩,d⟩,e⟩
theorem GY {f:Nat}{x:Qt Lf×Int} (h:stB d f x=true):(∀p∈x.1,ji d p=true)/\x.1.length<=20/\0<=thF d (f+1) x.1/\thF d (f+1) x.1<8/\0<=x.2/\x.2<=6/\(gi d (f+1) (thF d (f+1) x.1) x.2).length<=200:=by
 unfold stB at h;simp only[AN,Av,AY] at h;obtain⟨⟨⟨⟨⟨⟨a,b⟩,c⟩,d⟩,e⟩,f⟩,g⟩:=h;exact⟨a,b,c,d,e,f,g⟩
theorem GZ {k:Nat} (h:okB d k=true):(∀f<d,(∀x∈bP d k f,stB d f x=true)/\(bP d k (f+1)).length<=900)/\∀x∈bP d k d,x.1.length<=20:=by
 unfold okB at h;simp only[AN,Av,AY,Aa] at h;exact h
theorem G0 (p q:Lf):ltI (bX p) (bX q)=bA p q:=by
 unfold bA ltI bX;simp only[dh,AT,CB];split
 .split
  .split
   .rename_i h;simp[h]
   .rfl
  .rfl
 .rfl
def Srt (ps:Qt Lf):Prop:=ps.Pairwise fun a b=>bA b a=false
structure Snd (d:Nat) (ps:Qt Lf):Prop where
 ok:∀p∈ps,1<=p.1/\p.1<p.2.1/\p.2.1<=d/\1<=p.2.2
 nn:∀i:Nat,i<d->0<=1+gf ps (1+(i:Int))-gg ps (1+(i:Int))
 so:Srt ps
def eF (ps:Qt Lf) (i:Nat):Int:=1+gf ps (1+(i:Int))-gg ps (1+(i:Int))
theorem G1 (h:∀p∈ps,Okl d p) (hi:i<d):(bC d ps).getD i 0=eF ps i:=by
 have:=(kw ps (List.replicate d 1) (by simp) h).2 i;unfold bC;rw[this];unfold eF;have:(List.replicate d (1:Int)).getD i 0=1:=by simp[List.getD,hi]
 rw[this]
def gR (d:Nat) (ps:Qt Lf):Prop:=(∀p∈ps,1<=p.1/\p.1<p.2.1/\p.2.1<=d/\1<=p.2.2)/\∀i:Nat,i<d->0<=eF ps i
theorem gR.okl (h:gR d ps):∀p∈ps,Okl d p:=fun p hp=>by
 obtain⟨a,b,c,_⟩:=h.1 p hp;exact⟨a,by lia,by lia,c⟩
def fF (x:Lf):Qt Lf->Qt Lf
 |[]=>[x]
 |y::ys=>if bA x y then x::y::ys else if x=y then y::ys else y::fF x ys
def dm (xs:Qt Lf):Qt Lf:=xs.foldr fF []
def fG (d:Nat) (es:Qt Int) (i:Nat):Qt Lf:=List.replicate (es.getD i 0).toNat (1+(i:Int),(d:Int)+1,1)
def fc (d:Nat) (es:Qt Int):Qt Lf:=(List.range d).flatMap (fG d es)
theorem oU {q:Lf}:bA p q=true↔p.1<q.1\/(p.1=q.1/\(p.2.1<q.2.1\/(p.2.1=q.2.1/\p.2.2<q.2.2))):=by
 unfold bA;by_cases e0:p.1=q.1
 .by_cases e1:p.2.1=q.2.1
  .simp [e0,e1]
  .simp [e0,e1]
 .simp [e0]
theorem kD :¬bA p p=true:=by rw[oU];lia
theorem uN {q r:Lf} (h:bA p q=true) (k:bA q r=true):bA p r=true:=by rw[oU] at*;lia
theorem uO {q:Lf} (h:¬bA p q=true) (k:p≠q):bA q p=true:=by
 rw[oU] at*
 obtain⟨a,b,c⟩:=p;obtain⟨d,e,f⟩:=q;simp only[ne_eq,DD,not_and] at*
 lia
theorem oV {x z:Lf}:∀{ys:Qt Lf},z∈fF x ys↔z=x\/z∈ys
 |[]=>by simp[fF]
 |y::ys=>by
  unfold fF;split
  .simp
  .split
   .rename_i e;subst e;simp
   .simp [oV (ys:=ys)];constructor
    .rintro(h|h|h)
     .exact .inr (.inl h)
     .exact .inl h
     .exact .inr (.inr h)
    .rintro(h|h|h)
     .exact .inr (.inl h)
     .exact .inl h
     .exact .inr (.inr h)
theorem uP {x:Lf}:∀{ys:Qt Lf},(ys.Pairwise fun a b=>bA a b=true)->(fF x ys).Pairwise fun a b=>bA a b=true
 |[],_=>by simp[fF]
 |y::ys,h=>by
  unfold fF;split
  .rename_i e;refine List.Pairwise.cons (fun z hz=> ?_) h;rcases AI.mp hz with rfl|hz
   .exact e
   .exact uN e ((CQ.mp h).1 z hz)
  .split
   .exact h
   .rename_i e1 e2;refine List.Pairwise.cons (fun z hz=> ?_) (uP (CQ.mp h).2);rcases oV.mp hz with rfl|hz
    .exact uO e1 e2
    .exact(CQ.mp h).1 z hz
theorem oW {z:Lf}:∀{xs:Qt Lf},z∈dm xs↔z∈xs
 |[]=>by simp[dm]
 |x::xs=>by
  have:=oW (z:=z) (xs:=xs);unfold dm at this⊢;rw[List.foldr_cons,oV,this,AI]
theorem oX:∀(xs:Qt Lf),(dm xs).Pairwise fun a b=>bA a b=true
 |[]=>by simp[dm]
 |x::xs=>by
  have:=oX xs;unfold dm at this⊢;rw[List.foldr_cons];exact uP this
theorem uQ:∀{xs ys:Qt Lf},(xs.Pairwise fun a b=>bA a b=true)->(ys.Pairwise fun a b=>bA a b=true)->(∀z,z∈xs↔z∈ys)->xs=ys
 |[],[],_,_,_=>rfl
 |[],y::ys,_,_,h=>absurd ((h y).mpr (by simp)) (by simp)
 |x::xs,[],_,_,h=>absurd ((h x).mp (by simp)) (by simp)
 |x::xs,y::ys,h1,h2,h=>by
  have a1:=CQ.mp h1;have a2:=CQ.mp h2;have e:x=y:=by
   refine Classical.byContradiction fun ne=> ?_;have m1:x∈ys:=by rcases AI.mp ((h x).mp (by simp)) with e|e;exact absurd e ne;exact e
   have m2:y∈xs:=by rcases AI.mp ((h y).mpr (by simp)) with e|e;exact absurd e.symm ne;exact e
   exact kD (uN (a1.1 y m2) (a2.1 x m1))
  subst e;have:xs=ys:=uQ a1.2 a2.2 fun z=>by
   have hz:=h z;rw[AI,AI] at hz;constructor
   .intro m;rcases hz.mp (.inr m) with e|e
    .subst e;exact absurd (a1.1 z m) kD
    .exact e
   .intro m;rcases hz.mpr (.inr m) with e|e
    .subst e;exact absurd (a2.1 z m) kD
    .exact e
  rw[this]
theorem G2 {q:Lf} (h:bX p=bX q):p=q:=by rw[<-uE p,<-uE q,h]
theorem G3 {L9:Qt (Qt Int)} (nd:L9.Nodup) (mem:∀z,z∈L9↔z∈ps.map bX) (so:∀i j,i<j->j<L9.length->ltI (L9.getD j []) (L9.getD i [])=false):L9=(dm ps).map bX:=by
 obtain⟨qs,e,hq⟩:=mJ (f:=bX) (P:=fun p=>p∈ps) L9 fun v hv=>by
  obtain⟨p,hp,rfl⟩:=Ak.mp ((mem v).mp hv);exact⟨p,hp,rfl⟩
 subst e;have:qs=dm ps:=by
  refine uQ ?_ (oX ps) fun z=> ?_
  .rw [List.pairwise_iff_getElem];intro i j hi hj ML;have h1:=so i j ML (by rw[A1];exact hj);rw[A9,A9,AC,AC,A2 hi,A2 hj] at h1;simp only[Option.map_some,Option.getD_some] at h1;rw[G0] at h1;refine uO (by rw[h1];simp) fun e=> ?_;unfold List.Nodup at nd;rw[List.pairwise_map,List.pairwise_iff_getElem] at nd;exact nd i j hi hj ML (by rw[e])
  .rw [oW];constructor
   .exact hq z
   .intro hz;obtain⟨q,hq',e⟩:=Ak.mp ((mem (bX z)).mpr (List.mem_map_of_mem hz));rw[<-G2 e];exact hq'
 rw[this]
def chF (n:Int):Nat->Int
 |0=>1
 |k+1=>chF n k*(n-(k:Int))/((k:Int)+1)
def chB:Bool:=(List.range 16).all fun n=>(List.range (n+1)).all fun k=>decide (0<=chF (n:Int) k)&&decide (chF (n:Int) k<=6435)
theorem G4:chB=true:=by ac_nf
theorem uR {n:Int}{k:Nat} (h1:(k:Int)<=n) (h2:n<=15):0<=chF n k/\chF n k<=6435:=by
 obtain⟨m,rfl⟩:=CO (show 0<=n by lia);have h:=G4;unfold chB at h;rw[AY] at h;have h:=h m (Aa.mpr (by lia));rw[AY] at h;have h:=h k (Aa.mpr (by lia));simpa using h
def wmF (t:Qt Int) (p:Nat) (m:Int):Qt Int:=t.set p (t.getD p 0+m)
theorem eE (t:Qt Int) (p:Nat) (m:Int):(wmF t p m).length=t.length:=by unfold wmF;rw[C1]
theorem kE {t:Qt Int}{p:Nat}{m:Int} (h:p<t.length):(wmF t p m).getD i 0=t.getD i 0+if p=i then m else 0:=by
 unfold wmF;rw[A9,List.getElem?_set];by_cases e:p=i
 .subst e;simp[h]
 .simp [e]
theorem G5 {t:Qt Int}{p:Nat}{x:Int} (h:p<t.length):t.take p++[x]++t.drop (p+1)=t.set p x:=by
 rw[List.set_eq_take_append_cons_drop,A7 h];simp
def spR:Nat->Nat->Qt (Qt Nat)
 |0,a=>[[a]]
 |g+1,a=>(List.range (a+1)).flatMap fun h=>(spR g (a-h)).map (h:: ·)
def cf (t:Qt Int):Nat->Qt Nat->Int
 |_,[]=>1
 |p,s::r=>chF (t.getD p 0+(s:Int)) s*cf t (p+1) r
def cn (t:Qt Int):Nat->Qt Nat->Qt Int
 |_,[]=>t
 |p,s::r=>cn (wmF t p (s:Int)) (p+1) r
theorem uS {t:Qt Int}{m:Int}{q:Nat} (hq:q<t.length):∀{r:Qt Nat}{p:Nat},q<p->cf (wmF t q m) p r=cf t p r
 |[],p,_=>rfl
 |s::r,p,h=>by
  unfold cf;rw[kE hq,A5 (by lia),uS hq (r:=r) (by lia)];simp
def pbF:Nat->Qt Int->Nat->Nat->Qt (Qt Int×Int)
 |0,t,p,a=>[(wmF t p (a:Int),chF (t.getD p 0+(a:Int)) a)]
 |g+1,t,p,a=>(List.range (a+1)).flatMap fun h:Nat=>(pbF g (wmF t p (h:Int)) (p+1) (a-h)).map fun x=>(x.1,chF (t.getD p 0+(h:Int)) h*x.2)
theorem uT {α β:Type}{f g:α->Qt β}:∀{xs:Qt α},(∀x∈xs,f x=g x)->xs.flatMap f=xs.flatMap g
 |[],_=>rfl
 |x::xs,h=>by rw[BV,BV,h x (by simp),uT fun y hy=>h y (by simp[hy])]
theorem uU:∀{g:Nat}{t:Qt Int}{p a:Nat},p+g<t.length->pbF g t p a=(spR g a).map fun r=>(cn t p r,cf t p r)
 |0,t,p,a,_=>by simp[pbF,spR,cn,cf]
 |g+1,t,p,a,h=>by
  unfold pbF spR;rw[List.map_flatMap];refine uT fun x _=> ?_;rw[uU (by rw[eE];lia),BA,BA];refine Aq fun r _=> ?_;simp only[Function.comp,cn,cf];rw[uS (by lia) (BN p)]
theorem oY:∀{g a:Nat}{r:Qt Nat},r∈spR g a->r.length=g+1/\r.sum=a
 |0,a,r,h=>by simp[spR] at h;subst h;simp
 |g+1,a,r,h=>by
  unfold spR at h;obtain⟨x,hx,h⟩:=B'.mp h;obtain⟨r',h',rfl⟩:=Ak.mp h;have hx:=Aa.mp hx;obtain⟨e1,e2⟩:=oY h';simp[e1,e2];lia
theorem kF:∀{t:Qt Int}{p:Nat}{m:Int},p<t.length->(wmF t p m).sum=t.sum+m
 |[],p,m,h=>absurd h (by simp)
 |x::t,0,m,_=>by simp[wmF];lia
 |x::t,p+1,m,h=>by
  have:=kF (t:=t) (p:=p) (m:=m) (by simpa using h);unfold wmF at this⊢;simp only[List.set_cons_succ,Aw,List.getD_cons_succ] at this⊢;lia
theorem uV:∀{r:Qt Nat}{t:Qt Int}{p:Nat},p+r.length<=t.length->(∀i:Nat,0<=t.getD i 0)->(cn t p r).length=t.length/\(cn t p r).sum=t.sum+(r.sum:Nat)/\∀i:Nat,0<=(cn t p r).getD i 0
 |[],t,p,_,h=>by simpa[cn] using h
 |s::r,t,p,hl,h=>by
  have hp:p<t.length:=by simp at hl;lia
  obtain⟨e1,e2,e3⟩:=uV (r:=r) (t:=wmF t p (s:Int)) (p:=p+1) (by rw[eE];simp at hl;lia) (fun i=>by rw[kE hp];have:=h i;split<;>lia)
  unfold cn;refine⟨by rw[e1,eE], ?_,e3⟩;rw[e2,kF hp,Aw];lia
theorem ic:∀{t:Qt Int},(∀i:Nat,0<=t.getD i 0)->0<=t.sum/\∀i:Nat,t.getD i 0<=t.sum
 |[],_=>by simp
 |x::t,h=>by
  have hx:=h 0;obtain⟨e1,e2⟩:=ic (t:=t) fun i=>by have:=h (i+1);simpa using this
  simp only[List.getD_cons_zero] at hx;rw[Aw];refine⟨by lia,fun i=> ?_⟩;cases i with
  |zero=>simp;lia
  |succ i=>have:=e2 i;rw[List.getD_cons_succ];lia
theorem uW:∀{r:Qt Nat}{t:Qt Int}{p:Nat},(∀i:Nat,0<=t.getD i 0)->t.sum+(r.sum:Nat)<=15->0<=cf t p r/\cf t p r<=6435^r.length
 |[],t,p,_,_=>by simp[cf]
 |s::r,t,p,h,hs=>by
  rw[Aw] at hs;obtain⟨e1,e2⟩:=ic h;have a1:=e2 p;have a2:=h p;obtain⟨c1,c2⟩:=uR (n:=t.getD p 0+(s:Int)) (k:=s) (by lia) (by lia);obtain⟨q1,q2⟩:=uW (r:=r) (t:=t) (p:=p+1) h (by lia);unfold cf;refine⟨CN c1 q1, ?_⟩;rw[AT,Int.pow_succ,Int.mul_comm];exact D8 q2 c2 c1 (Int.pow_nonneg (by decide))
abbrev Tab:=Qt (Qt Int×Int)
def bB (D:Tab) (g:Qt Int->Int):Int:=(D.map fun x=>x.2*g x.1).sum
def cP (D:Tab) (k:Qt Int):Int:=((D.find? fun x=>decide (x.1=k)).map (·.2)).getD 0
def eI (D:Tab) (k:Qt Int) (v:Int):Tab:=if(D.any fun x=>decide (x.1=k))=true then D.map (fun x=>if x.1=k then(x.1,v) else x) else D++[(k,v)]
def ie (D:Tab) (k:Qt Int) (v:Int):Tab:=eI D k (cP D k+v)
theorem uX (D:Tab) (k:Qt Int) (v:Int):(eI D k v).map (·.1)=if k∈D.map (·.1) then D.map (·.1) else D.map (·.1)++[k]:=by
 unfold eI;have:(D.any fun x=>decide (x.1=k))=true↔k∈D.map (·.1):=by
  rw[List.any_eq_true,Ak];simp
 by_cases h:k∈D.map (·.1)
 .rw [A7 h,A7 (this.mpr h),BA];refine Aq fun x _=> ?_;simp only[Function.comp];split<;>rfl
 .rw [A5 h,A5 (fun z=>h (this.mp z)),A6];rfl
theorem G6 {D:Tab}{k:Qt Int}{v:Int}{g:Qt Int->Int} (h:k∉D.map (·.1)):bB (eI D k v) g=bB D g+v*g k/\cP D k=0:=by
 have hn:∀x∈D,x.1≠k:=fun x hx e=>h (Ak.mpr ⟨x,hx,e⟩);have e1:(D.any fun x=>decide (x.1=k))=false:=by
  rw[List.any_eq_false];intro x hx;simpa using hn x hx
 have e2:D.find? (fun x=>decide (x.1=k))=none:=by
  rw[List.find?_eq_none];intro x hx;simpa using hn x hx
 unfold eI cP bB;rw[e1,e2];simp
theorem uY:∀{D:Tab}{k:Qt Int}{v:Int}{g:Qt Int->Int},(D.map (·.1)).Nodup->k∈D.map (·.1)->bB (D.map fun x=>if x.1=k then(x.1,v) else x) g=bB D g+(v-cP D k)*g k
 |[],_,_,_,_,h=>by simp at h
 |x::D,k,v,g,nd,h=>by
  rw[AE,BI] at nd;by_cases e:x.1=k
  .subst e;have hn:∀y∈D,y.1≠x.1:=fun y hy e=>nd.1 (Ak.mpr ⟨y,hy,e⟩);have e1:(D.map fun y=>if y.1=x.1 then(y.1,v) else y)=D:=by
    conv=>rhs;rw[<-List.map_id D]
    refine Aq fun y hy=> ?_;rw[A5 (hn y hy)];rfl
   have e2:cP (x::D) x.1=x.2:=by simp[cP]
   rw[AE,e1,e2];simp only[bB,C0,AE,Aw];rw[Int.sub_mul];lia
  .have hk:k∈D.map (·.1):=by
    rw[AE,AI] at h;rcases h with h|h
    .exact absurd h.symm e
    .exact h
   have ih:=uY (g:=g) (v:=v) nd.2 hk;have e2:cP (x::D) k=cP D k:=by simp[cP,Bc,e]
   rw[e2,AE];simp only[bB,AE,Aw,A5 e] at ih⊢;lia
theorem G7 {D:Tab} (nd:(D.map (·.1)).Nodup) (k:Qt Int) (v:Int) (g:Qt Int->Int):bB (ie D k v) g=bB D g+v*g k:=by
 unfold ie;by_cases h:k∈D.map (·.1)
 .have e:(D.any fun x=>decide (x.1=k))=true:=by
   rw[List.any_eq_true];obtain⟨x,hx,e⟩:=Ak.mp h;exact⟨x,hx,At e⟩
  unfold eI;rw[A7 e,uY nd h];rw[show cP D k+v-cP D k=v by lia]
 .obtain⟨e1,e2⟩:=G6 (v:=cP D k+v) (g:=g) h;rw[e1,e2];simp
theorem G8 {D:Tab} (nd:(D.map (·.1)).Nodup) (k:Qt Int) (v:Int):((eI D k v).map (·.1)).Nodup:=by
 rw[uX];split
 .exact nd
 .rename_i h;rw[D5];exact⟨nd,by simp,fun a ha b hb=>by simp at hb;subst hb;exact fun e=>h (e▸ha)⟩
structure TabOk (d n:Nat) (D:Tab):Prop where
 nd:(D.map (·.1)).Nodup
 key:∀x∈D,x.1.length=d/\x.1.sum=(n:Int)/\∀i:Nat,0<=x.1.getD i 0
theorem TabOk.add {D:Tab} (h:TabOk d n D) {k:Qt Int}{v:Int} (hk:k.length=d/\k.sum=(n:Int)/\∀i:Nat,0<=k.getD i 0):TabOk d n (ie D k v):=by
 refine⟨G8 h.nd _ _,fun x hx=> ?_⟩;have:x.1∈(eI D k (cP D k+v)).map (·.1):=List.mem_map_of_mem hx;rw[uX] at this;have:x.1∈D.map (·.1)\/x.1=k:=by
  split at this
  .exact .inl this
  .rcases BM.mp this with h|h
   .exact .inl h
   .exact .inr (by simpa using h)
 rcases this with h'|h'
 .obtain⟨y,hy,e⟩:=Ak.mp h';rw[<-e];exact h.key y hy
 .rw [h'];exact hk
def inP (t:Qt Int) (v:Int) (p:Nat) (rs:Qt (Qt Nat)) (acc:Tab):Tab:=rs.foldl (fun acc r=>ie acc (cn t p r) (v*cf t p r)) acc
def stP (p:Nat) (rs:Qt (Qt Nat)) (xs acc:Tab):Tab:=xs.foldl (fun acc x=>inP x.1 x.2 p rs acc) acc
def ig (g:Qt Int->Int) (p:Nat) (rs:Qt (Qt Nat)) (t:Qt Int):Int:=(rs.map fun r=>cf t p r*g (cn t p r)).sum
def oZ (p d n n':Nat) (rs:Qt (Qt Nat)):Prop:=∀r∈rs,p+r.length<=d/\n+r.sum=n'
theorem G9 {n' p:Nat}{r:Qt Nat}{t:Qt Int} (h:t.length=d/\t.sum=(n:Int)/\∀i:Nat,0<=t.getD i 0) (hr:p+r.length<=d/\n+r.sum=n'):(cn t p r).length=d/\(cn t p r).sum=(n':Int)/\∀i:Nat,0<=(cn t p r).getD i 0:=by
 obtain⟨e1,e2,e3⟩:=uV (r:=r) (t:=t) (p:=p) (by rw[h.1];exact hr.1) h.2.2;exact⟨by rw[e1,h.1],by rw[e2,h.2.1,<-hr.2];lia,e3⟩
theorem o0 {d n n' p:Nat}{t:Qt Int}{v:Int} (h:t.length=d/\t.sum=(n:Int)/\∀i:Nat,0<=t.getD i 0) (g:Qt Int->Int):∀{rs:Qt (Qt Nat)}{acc:Tab},oZ p d n n' rs->TabOk d n' acc->TabOk d n' (inP t v p rs acc)/\bB (inP t v p rs acc) g=bB acc g+v*ig g p rs t
 |[],acc,_,ha=>by simp[inP,ig,ha]
 |r::rs,acc,hr,ha=>by
  have a1:=ha.add (v:=v*cf t p r) (G9 h (hr r (by simp)));obtain⟨b1,b2⟩:=o0 (v:=v) h g (rs:=rs) (fun r' h'=>hr r' (by simp[h'])) a1;refine⟨b1, ?_⟩;show bB (inP t v p rs (ie acc (cn t p r) (v*cf t p r))) g=_;rw[b2,G7 ha.nd];simp only[ig,AE,Aw];rw[Int.mul_add,Int.mul_assoc];lia
theorem o6 {d n n' p:Nat}{rs:Qt (Qt Nat)} (hr:oZ p d n n' rs) (g:Qt Int->Int):∀{xs acc:Tab},(∀x∈xs,x.1.length=d/\x.1.sum=(n:Int)/\∀i:Nat,0<=x.1.getD i 0)->TabOk d n' acc->TabOk d n' (stP p rs xs acc)/\bB (stP p rs xs acc) g=bB acc g+bB xs (ig g p rs)
 |[],acc,_,ha=>by simp[stP,bB,ha]
 |x::xs,acc,hx,ha=>by
  obtain⟨a1,a2⟩:=o0 (v:=x.2) (hx x (by simp)) g hr ha;obtain⟨b1,b2⟩:=o6 hr g (xs:=xs) (fun y hy=>hx y (by simp[hy])) a1;refine⟨b1, ?_⟩;show bB (stP p rs xs (inP x.1 x.2 p rs acc)) g=_;rw[b2,a2];simp only[bB,AE,Aw];lia
def TF (cnt:Lf->Nat):Qt Lf->Qt Int->Int
 |[],_=>1
 |m::ms,t=>ig (TF cnt ms) (m.1-1).toNat (spR (m.2.1-m.1-1).toNat (cnt m)) t
def hmF (d:Nat) (mk:Qt Lf):Int:=TF (fun m=>mk.count m) (dm mk) (List.replicate d 0)
theorem G' (D:Tab):bB D (fun _=>1)=(D.map (·.2)).sum:=by
 unfold bB;congr 1
 refine Aq fun x _=> ?_;show x.2*1=x.2;lia
def enc:Qt Int->Nat
 |[]=>0
 |x::t=>x.toNat+16*enc t
theorem uZ:∀{t:Qt Int},(∀i:Nat,0<=t.getD i 0/\t.getD i 0<=15)->enc t<16^t.length
 |[],_=>by simp[enc]
 |x::t,h=>by
  have h0:=h 0;have ih:=uZ (t:=t) fun i=>by have:=h (i+1);simpa using this
  simp only[List.getD_cons_zero] at h0;unfold enc;rw[AT,Nat.pow_succ];lia
theorem u7:∀{t u:Qt Int},t.length=u.length->(∀i:Nat,0<=t.getD i 0/\t.getD i 0<=15)->(∀i:Nat,0<=u.getD i 0/\u.getD i 0<=15)->enc t=enc u->t=u
 |[],[],_,_,_,_=>rfl
 |[],_::_,h,_,_,_=>absurd h (by simp)
 |_::_,[],h,_,_,_=>absurd h (by simp)
 |x::t,y::u,hl,ht,hu,e=>by
  have h0:=ht 0;have h1:=hu 0;simp only[List.getD_cons_zero] at h0 h1;unfold enc at e;have ih:=u7 (t:=t) (u:=u) (by simpa using hl) (fun i=>by have:=ht (i+1);simpa using this) (fun i=>by have:=hu (i+1);simpa using this) (by lia);rw[ih,show x=y by lia]
theorem u8:∀(N:Nat) (xs:Qt Nat),xs.Nodup->(∀x∈xs,x<N)->xs.length<=N
 |0,[],_,_=>A' _
 |0,x::xs,_,h=>absurd (h x (by simp)) (by lia)
 |N+1,xs,nd,h=>by
  have h1:=u8 N (xs.filter fun x=>decide (x≠N)) (nd.filter _) fun x hx=>by
   obtain⟨a,b⟩:=Cr.mp hx;have:=h x a;have:x≠N:=by simpa using b
   lia
  have h2:xs.length<=(xs.filter fun x=>decide (x≠N)).length+1:=by
   clear h1 h;induction xs with
   |nil=>simp
   |cons y ys ih=>
    rw[BI] at nd;by_cases e:y=N
    .subst e;have:(ys.filter fun x=>decide (x≠y))=ys:=by
      rw[List.filter_eq_self];intro z hz;simp;rintro rfl;exact nd.1 hz
     rw[By,A5 (by simp),this,AT];exact A' _
    .have:=ih nd.2;rw[By,A7 (by simpa using e),AT,AT];lia
  lia
theorem TabOk.size {D:Tab} (h:TabOk d n D) (hd:d<=5) (hn:n<=15):D.length<=1048576:=by
 have hb:∀x∈D,∀i:Nat,0<=x.1.getD i 0/\x.1.getD i 0<=15:=fun x hx i=>by
  obtain⟨_,e2,e3⟩:=h.key x hx;have:=(ic e3).2 i;exact⟨e3 i,by lia⟩
 have:=u8 (16^d) (D.map fun x=>enc x.1) ?_ ?_
 .rw [A1] at this;have:16^d<=16^5:=CG (by decide) hd;lia
 .have nd:=h.nd;unfold List.Nodup at nd⊢;rw[List.pairwise_map] at nd⊢;refine List.Pairwise.imp_of_mem (fun{a b} ha MV LD e=>LD ?_) nd;exact u7 (by rw[(h.key a ha).1,(h.key b MV).1]) (hb a ha) (hb b MV) e
 .intro x hx;obtain⟨y,hy,rfl⟩:=Ak.mp hx;have:=uZ (hb y hy);rw[(h.key y hy).1] at this;exact this
def bD (t:Qt Int):Qt Key:=t.map Sum.inl
theorem kG (t:Qt Int):(bD t).map kV=t.map V.int:=by unfold bD;rw[BA];rfl
theorem u9:∀{t u:Qt Int},bD t=bD u->t=u
 |[],[],_=>rfl
 |[],_::_,h=>by simp[bD] at h
 |_::_,[],h=>by simp[bD] at h
 |x::t,y::u,h=>by
  simp only[bD,AE,CC,Sum.inl.injEq] at h;rw[h.1,u9 (t:=t) (u:=u) h.2]
theorem o7 {t u:Qt Int}:bD t=bD u↔t=u:=⟨u9,fun e=>by rw[e]⟩
def bj (D:Tab):Qt (Qt Key×V):=D.map fun x=>(bD x.1,V.int x.2)
theorem va (D:Tab):(bj D).length=D.length:=by unfold bj;rw[A1]
theorem vb (D:Tab) (k:Qt Int) (v:Int):aR (bj D) (bD k) (.int v)=bj (eI D k v):=by
 have e:((bj D).any fun kv=>decide (kv.1=bD k))=(D.any fun x=>decide (x.1=k)):=by
  unfold bj;rw[List.any_map];congr 1
  funext x
  simp only[Function.comp,o7]
 unfold aR eI;rw[e];split
 .unfold bj;rw[BA,BA];refine Aq fun x _=> ?_;simp only[Function.comp,o7];split<;>rfl
 .unfold bj;rw[A6];rfl
theorem vc (D:Tab) (k:Qt Int):aJ (bj D) (bD k)=(D.find? fun x=>decide (x.1=k)).map fun x=>V.int x.2:=by
 unfold aJ bj;rw[List.find?_map,Option.map_map];have:((fun kv:Qt Key×V=>decide (kv.1=bD k))∘fun x:Qt Int×Int=>(bD x.1,V.int x.2))=fun x=>decide (x.1=k):=by
  funext x
  simp only[Function.comp,o7]
 rw[this];rfl
theorem Hg (D:Tab) (k:Qt Int):(aJ (bj D) (bD k)).getD (.int 0)= .int (cP D k):=by
 rw[vc];unfold cP;cases D.find? fun x=>decide (x.1=k)<;>rfl
theorem Hh {D:Tab} (nd:(D.map (·.1)).Nodup) (h:x∈D):aJ (bj D) (bD x.1)=some (.int x.2):=by
 rw[vc];have:D.find? (fun y=>decide (y.1=x.1))=some x:=by
  induction D with
  |nil=>simp at h
  |cons y D ih=>
   rw[AE,BI] at nd;rcases AI.mp h with rfl|h
   .simp
   .have:y.1≠x.1:=fun e=>nd.1 (Ak.mpr ⟨x,h,e.symm⟩);rw[Bc,Ae this];exact ih nd.2 h
 rw[this];rfl
theorem Hi (D:Tab):(bj D).map (·.2)=(D.map (·.2)).map V.int:=by unfold bj;rw[BA,BA];rfl
def prD (x:Qt Int×Int):D:= .t [tI x.1, .i x.2]
theorem Hj (l:Qt Lf) (x:Lf):(List.range l.length).countP (fun j=>decide (l.getD j (0,0,0)=x))=l.count x:=by
 have e:(List.range l.length).map (fun j=>l.getD j (0,0,0))=l:=by
  apply List.ext_getElem?;intro i;rw[AC];rcases Bo i l.length with c|c
  .rw [List.getElem?_range c];simp[List.getD,c]
  .rw [C' (by simpa using c),C' c];rfl
 conv=>rhs;rw[<-e]
 rw[List.count,List.countP_map];congr 1
 funext j
 simp only[Function.comp];exact(Bool.beq_eq_decide_eq _ _).symm
theorem vd:∀(l S:Qt Lf),S.Nodup->(S.map fun m=>l.count m).sum<=l.length
 |[],S,_=>by
  have:(S.map fun m=>List.count m ([]:Qt Lf))=S.map fun _=>0:=by simp
  rw[this];induction S with
  |nil=>simp
  |cons a S ih=>rename_i nd;simpa using ih (BI.mp nd).2
 |x::l,S,nd=>by
  have ih:=vd l S nd;have:(S.map fun m=>(x::l).count m).sum<=(S.map fun m=>l.count m).sum+1/\(x∉S->(S.map fun m=>(x::l).count m).sum=(S.map fun m=>l.count m).sum):=by
   clear ih;induction S with
   |nil=>simp
   |cons a S ih=>
    obtain⟨n1,n2⟩:=BI.mp nd;obtain⟨i1,i2⟩:=ih n2;simp only[AE,Aw];by_cases e:x=a
    .subst e;have:=i2 n1;rw[List.count_cons_self];exact⟨by lia,fun h=>absurd (by simp) h⟩
    .have e':List.count a (x::l)=List.count a l:=List.count_cons_of_ne e;rw[e'];exact⟨by lia,fun h=>by rw[i2 (fun z=>h (by simp[z]))]⟩
  rw[AT];lia
def fH (ps:Qt Lf):Int:=ps.foldl (fun a p=>a*p.2.2^2) 1
def Okw (d:Nat) (p:Lf):Prop:=Okl d p/\1<=p.2.2/\p.2.2<=2^20
def kH:Qt Lf->Bool
 |[]=>true
 |x::r=>r.all (fun y=> !(bA y x))&&kH r
theorem ve:∀{ps:Qt Lf},kH ps=true->Srt ps
 |[],_=>List.Pairwise.nil
 |x::r,h=>by
  unfold kH at h;rw[AN,AY] at h;exact CQ.mpr ⟨fun y hy=>by simpa using h.1 y hy,ve h.2⟩
def kI (d:Nat) (ps:Qt Lf):Bool:=ps.all (ji d)&&(List.range d).all (fun i=>decide (0<=eF ps i))&&kH ps
theorem Hk (h:kI d ps=true):Snd d ps:=by
 unfold kI at h;simp only[AN,AY,Aa,Av] at h;exact⟨fun p hp=>by have:=oT.mp (h.1.1 p hp);lia,fun i hi=>h.1.2 i hi,ve h.2⟩
def hmD (d:Nat) (x:Qt Lf):Int:=hmF d (x++fc d (bC d x))
def o8 (d:Nat) (x:Qt Lf):Nat:=(oN d (hU (kz x))).length
def jk (d:Nat) (x:Qt Lf):Bool:=kI d x&&decide (x.length<=20)&&decide (0<=fH x)&&decide (fH x<2^40)
theorem vf {x:Qt Lf} (h:jk d x=true):Snd d x/\(∀p∈x,Okw d p)/\x.length<=20/\0<=fH x/\fH x<2^40:=by
 unfold jk at h;simp only[AN,Av] at h;obtain⟨⟨⟨h1,h2⟩,h3⟩,h4⟩:=h;refine⟨Hk h1,fun p hp=> ?_,h2,h3,h4⟩;unfold kI at h1;simp only[AN,AY] at h1;have:=oT.mp (h1.1.1 p hp);exact⟨⟨by lia,by lia,by lia,by lia⟩,by lia,by lia⟩
def kJ (d:Nat) (x:Qt Lf):Int:=fH x*hmD d x
def isW (d:Nat) (x:Qt Lf):Bool:=decide (o8 d x=1)
def wtG:Int->Qt Int->Int
 |_,[]=>0
 |i,x::r=>i*x+wtG (i+1) r
def wtF (r:Qt Int):Int:=wtG 1 r
def rwS (found:Qt (Qt Int)) (n:Int):Qt (Qt Int):=found.flatMap fun b=>(List.range (n+1).toNat).map fun h:Nat=>b++[(h:Int)]
def rwF (row:Qt Int):Qt (Qt Int):=row.foldl rwS [[]]
def rbF:Nat->Qt Int->Int->Nat->Qt (Qt Int)
 |0,_,_,_=>[]
 |n+1,row,wt,first=>if wt-wtF row=0 then [row] else(List.range (min row.length (wt-wtF row).toNat-first)).flatMap fun j=>rbF n (wmF row (first+j) 1) wt (first+j)
def cz:Qt Int->Qt Int->Int
 |x::a,y::b=>chF x y.toNat*cz a b
 |_,_=>1
def wgG:Int->Qt Int->Qt Int->Qt Int
 |i,x::a,y::b=>List.replicate (y-x).toNat i++wgG (i+1) a b
 |_,_,_=>[]
def wgF (r f:Qt Int):Qt Int:=wgG 1 r f
structure Ask4 where
 d:Int
 k:Int
 h:List Int
 f:List Int
variable {q:Ask4}
abbrev Sm4:=Int×Qt Int×Ask4
def dR (q:Ask4) (p:Nat):Qt Sm4:=if q.f.getD p 0>0 then [(1,[(p:Int)+1],⟨q.d,q.k,wmF q.h p 1,wmF q.f p (-1)⟩)] else []
def ii (q:Ask4):Qt Sm4:=(List.range q.f.length).flatMap (dR q)
def ij (q:Ask4) (kp fr:Qt Int):Sm4:=(cz q.h kp*cz fr q.f,wgF q.f fr,⟨q.d-1,q.k+fr.sum-q.f.sum-q.d+1,kp,fr⟩)
def dS (q:Ask4) (kp:Qt Int):Qt Sm4:=(rbF 8 q.f (q.d-1-wtF kp) 0).map (ij q kp)
def ik (q:Ask4):Qt Sm4:=(rwF q.h).flatMap (dS q)
def eJ (q:Ask4):Qt Sm4:=ii q++ik q
def cA (ws:Qt Int):Int:=ws.foldl (· * ·) 1
def fI:Nat->Ask4->Int
 |0,_=>0
 |n+1,q=>if q.k<0 then 0 else if q.d=1 then(if q.k=0 then 1 else 0) else((eJ q).map fun x=>x.1*cA x.2.1*fI n x.2.2).sum
def Nn (t:Qt Int):Prop:=∀i:Nat,0<=t.getD i 0
theorem Nn.cons {x:Int}{t:Qt Int}:Nn (x::t)↔0<=x/\Nn t:=by
 constructor
 .intro h;exact⟨h 0,fun i=>h (i+1)⟩
 .rintro⟨a,b⟩ i;cases i with
  |zero=>exact a
  |succ i=>exact b i
theorem dU:∀{t:Qt Int}{i:Int},0<=i->Nn t->0<=wtG i t
 |[],_,_,_=>DH 0
 |x::t,i,hi,h=>by
  obtain⟨a,b⟩:=Nn.cons.mp h;have:=dU (i:=i+1) (by lia) b;have:=CN hi a;unfold wtG;lia
theorem dF:∀{t:Qt Int}{i:Int},1<=i->Nn t->0<=t.sum/\t.sum<=wtG i t
 |[],_,_,_=>⟨DH 0,DH 0⟩
 |x::t,i,hi,h=>by
  obtain⟨a,b⟩:=Nn.cons.mp h;obtain⟨s1,s2⟩:=dF (i:=i+1) (by lia) b;have:1*x<=i*x:=Int.mul_le_mul_of_nonneg_right hi a;rw[Aw];unfold wtG;lia
theorem kK {m:Int}:∀{t:Qt Int}{p:Nat}{i:Int},p<t.length->wtG i (wmF t p m)=wtG i t+(i+p)*m
 |[],p,_,h=>absurd h (by simp)
 |x::t,0,i,_=>by
  show wtG i ((x+m)::t)=wtG i (x::t)+_;unfold wtG;rw[Int.mul_add];simp;lia
 |x::t,p+1,i,h=>by
  have ih:=kK (m:=m) (t:=t) (p:=p) (i:=i+1) (by simpa using h);show wtG i (x::wmF t p m)=wtG i (x::t)+_;unfold wtG;rw[ih,show i+1+(p:Int)=i+((p+1:Nat):Int) by lia];lia
theorem kL {t:Qt Int}{p:Nat}{m:Int} (hp:p<t.length) (h:Nn t) (hm:0<=t.getD p 0+m):Nn (wmF t p m):=fun i=>by
 rw[kE hp];split
 .next e=>rw[<-e];exact hm
 .have:=h i;lia
theorem Hl {t:Qt Int}{x:Int} (h:Nn t) (hx:0<=x):Nn (t++[x]):=by
 induction t with
 |nil=>exact Nn.cons.mpr ⟨hx,fun i=>by simp⟩
 |cons y t ih=>
  obtain⟨a,b⟩:=Nn.cons.mp h;exact Nn.cons.mpr ⟨a,ih b⟩
def Le:Qt Int->Qt Int->Prop
 |x::a,y::b=>0<=x/\x<=y/\Le a b
 |[],[]=>True
 |_,_=>False
theorem Le.len:∀{a b:Qt Int},Le a b->a.length=b.length
 |[],[],_=>rfl
 |x::a,y::b,h=>BU (· +1) (Le.len h.2.2)
theorem Le.nn:∀{a b:Qt Int},Le a b->Nn a/\Nn b
 |[],[],_=>⟨fun i=>by simp,fun i=>by simp⟩
 |x::a,y::b,h=>by
  obtain⟨p,q⟩:=Le.nn h.2.2;exact⟨Nn.cons.mpr ⟨h.1,p⟩,Nn.cons.mpr ⟨by have:=h.1;have:=h.2.1;lia,q⟩⟩
theorem Le.snoc:∀{a b:Qt Int}{x y:Int},Le a b->0<=x->x<=y->Le (a++[x]) (b++[y])
 |[],[],_,_,_,h1,h2=>⟨h1,h2,trivial⟩
 |_::a,_::b,_,_,h,h1,h2=>⟨h.1,h.2.1,Le.snoc h.2.2 h1 h2⟩
theorem Le.self:∀{a:Qt Int},Nn a->Le a a
 |[],_=>trivial
 |x::a,h=>by
  obtain⟨p,q⟩:=Nn.cons.mp h;exact⟨p,DH x,Le.self q⟩
theorem Le.wt:∀{a b:Qt Int}{i:Int},0<=i->Le a b->wtG i a<=wtG i b
 |[],[],_,_,_=>DH 0
 |x::a,y::b,i,hi,h=>by
  have:=Le.wt (i:=i+1) (by lia) h.2.2;have:=Int.mul_le_mul_of_nonneg_left h.2.1 hi;unfold wtG;lia
theorem Le.gain:∀{a b:Qt Int}{i:Int},1<=i->Le a b->a.sum<=b.sum/\b.sum-a.sum<=wtG i b-wtG i a
 |[],[],_,_,_=>by simp[wtG]
 |x::a,y::b,i,hi,h=>by
  obtain⟨g1,g2⟩:=Le.gain (i:=i+1) (by lia) h.2.2;have h1:=h.2.1;have:1*(y-x)<=i*(y-x):=Int.mul_le_mul_of_nonneg_right hi (by lia);have e:i*(y-x)=i*y-i*x:=Int.mul_sub i y x;rw[Aw,Aw];unfold wtG;lia
theorem Le.wm {a b:Qt Int}{p:Nat} (h:Le a b) (hp:p<b.length):Le a (wmF b p 1):=by
 induction a generalizing b p with
 |nil=>
  cases b with
  |nil=>exact trivial
  |cons y b=>exact h.elim
 |cons x a ih=>
  cases b with
  |nil=>exact h.elim
  |cons y b=>
   cases p with
   |zero=>exact⟨h.1,by show x<=y+1;have:=h.2.1;lia,h.2.2⟩
   |succ p=>exact⟨h.1,h.2.1,ih h.2.2 (by simpa using hp)⟩
theorem o9 {t:Qt Int} (hn:Nn row) (h:t∈rwF row):Le t row:=by
 have go:∀(r2 r1:Qt Int) (F:Qt (Qt Int)),(∀t∈F,Le t r1)->Nn r2->∀t∈r2.foldl rwS F,Le t (r1++r2):=by
  intro r2;induction r2 with
  |nil=>intro r1 F hF _ t ht;rw[B5];exact hF t ht
  |cons n r2 ih=>
   intro r1 F hF hn t ht;obtain⟨n0,n2⟩:=Nn.cons.mp hn;rw[show r1++n::r2=(r1++[n])++r2 by simp];refine ih (r1++[n]) (rwS F n) (fun u hu=> ?_) n2 t ht;obtain⟨b,hb,hu⟩:=B'.mp hu;obtain⟨k,hk,rfl⟩:=Ak.mp hu;have hk:=Aa.mp hk;exact(hF b hb).snoc (by lia) (by lia)
 exact go row [] [[]] (fun t ht=>by rw[Ab.mp ht];exact trivial) hn t h
theorem vg {F:Qt (Qt Int)}{n:Int}:(rwS F n).length=F.length*(n+1).toNat:=by
 unfold rwS;induction F with
 |nil=>simp
 |cons b F ih=>
  rw[BV,AA,ih,A1,BJ,AT,Ci,Nat.add_comm]
theorem Hm (n:Nat):n+1<=2^n:=by
 induction n with
 |zero=>decide
 |succ n ih=>rw[Nat.pow_succ];lia
theorem vh:∀(row:Qt Int) (F:Qt (Qt Int)),Nn row->(row.foldl rwS F).length<=F.length*2^row.sum.toNat
 |[],F,_=>by simp
 |n::row,F,h=>by
  obtain⟨a,b⟩:=Nn.cons.mp h;have ih:=vh row (rwS F n) b;rw[vg] at ih;have s0:=(dF (i:=1) (by decide) b).1;rw[Aw,show(n+row.sum).toNat=n.toNat+row.sum.toNat by lia,Nat.pow_add,<-Nat.mul_assoc];refine B9 ih (Nat.mul_le_mul_right _ (Nat.mul_le_mul_left _ ?_));rw[show(n+1).toNat=n.toNat+1 by lia];exact Hm _
theorem Hn {t:Qt Int} (h:Nn t) (i:Nat):Nn (t.take i):=fun j=>by
 rw[A9,List.getElem?_take];split
 .have:=h j;rwa [A9] at this
 .simp
theorem pd (hn:Nn row) (hs:row.sum<=5) (i:Nat):(rwF (row.take i)).length<=32:=by
 have nt:Nn (row.take i):=fun j=>by
  rw[A9,List.getElem?_take];split
  .have:=hn j;rwa [A9] at this
  .simp
 have st:(row.take i).sum<=5:=by
  have e:(row.take i).sum+(row.drop i).sum=row.sum:=by rw[<-CA,Bw]
  have nd:Nn (row.drop i):=fun j=>by
   rw[A9,List.getElem?_drop];have:=hn (i+j);rwa [A9] at this
  have:=(dF (i:=1) (by decide) nd).1;lia
 have h:=vh (row.take i) [[]] nt;have s0:=(dF (i:=1) (by decide) nt).1;have:2^(row.take i).sum.toNat<=2^5:=CG (by decide) (by lia);unfold rwF;simp only[AT,CB] at h;lia
theorem vi {wt:Int}:∀{n:Nat}{row t:Qt Int}{first:Nat},t∈rbF n row wt first->Nn row->∀{a:Qt Int},Le a row->Le a t/\wtF t=wt
 |0,_,_,_,h,_,_,_=>nomatch h
 |n+1,row,t,first,h,hn,a,ha=>by
  unfold rbF at h;split at h
  .next e=>rw[Ab.mp h];exact⟨ha,by lia⟩
  .obtain⟨j,hj,h⟩:=B'.mp h;have hj:=Aa.mp hj;have hp:first+j<row.length:=by lia
   exact vi h (kL hp hn (by have:=hn (first+j);lia)) (ha.wm hp)
theorem pe {wt:Int}:∀{n:Nat}{row:Qt Int}{first:Nat},row.length<=5->(rbF n row wt first).length<=5^n
 |0,_,_,_=>AL _
 |n+1,row,first,h=>by
  unfold rbF;split
  .exact Nat.one_le_pow _ _ (by decide)
  .have go:∀m,m<=5->((List.range m).flatMap fun j=>rbF n (wmF row (first+j) 1) wt (first+j)).length<=m*5^n:=by
    intro m;induction m with
    |zero=>intro _;exact AL _
    |succ m ih=>
     intro hm;rw[Ax,Au,AA,Ci,BV,List.flatMap_nil,B5];have:=ih (by lia);have:=pe (n:=n) (wt:=wt) (row:=wmF row (first+m) 1) (first:=first+m) (by rw[eE];exact h);lia
   have:=go (min row.length (wt-wtF row).toNat-first) (by lia);have h5:(min row.length (wt-wtF row).toNat-first)*5^n<=5*5^n:=Nat.mul_le_mul_right _ (by lia);rw[Nat.pow_succ,Nat.mul_comm];lia
def ch2:Bool:=(List.range 16).all fun n=>(List.range (n+1)).all fun k=>decide (0<=chF (n:Int) k)&&decide (chF (n:Int) k<=2^n)
theorem Ho:ch2=true:=by ac_nf
theorem vj {n k:Int} (h0:0<=k) (h1:k<=n) (h2:n<=15):0<=chF n k.toNat/\chF n k.toNat<=2^n.toNat:=by
 obtain⟨m,rfl⟩:=CO (show 0<=n by lia);have h:=Ho;unfold ch2 at h;rw[AY] at h;have h:=h m (Aa.mpr (by lia));rw[AY] at h;have h:=h k.toNat (Aa.mpr (by lia));simpa using h
theorem vk:∀{a b:Qt Int},Le a b->b.sum<=15->0<=cz b a/\cz b a<=2^b.sum.toNat
 |[],[],_,_=>by simp[cz]
 |x::a,y::b,h,hs=>by
  obtain⟨h1,h2,h3⟩:=h;have s0:=(dF (i:=1) (by decide) (Le.nn h3).2).1;rw[Aw] at hs;obtain⟨c1,c2⟩:=vk h3 (by lia);obtain⟨d1,d2⟩:=vj h1 h2 (by lia);rw[Aw,show(y+b.sum).toNat=y.toNat+b.sum.toNat by lia,Int.pow_add];unfold cz;exact⟨CN d1 c1,D8 d2 c2 c1 (Int.pow_nonneg (by decide))⟩
theorem kM {a b:Qt Int} (h:Le a b) (hs:b.sum<=5):0<=cz b a/\cz b a<=32:=by
 obtain⟨c1,c2⟩:=vk h (by lia);have s0:=(dF (i:=1) (by decide) (Le.nn h).2).1;have:(2:Int)^b.sum.toNat<=2^5:=by
  have:b.sum.toNat=0\/b.sum.toNat=1\/b.sum.toNat=2\/b.sum.toNat=3\/b.sum.toNat=4\/b.sum.toNat=5:=by lia
  rcases this with e|e|e|e|e|e<;>rw[e]<;>decide
 exact⟨c1,by lia⟩
structure AskOk (L:Nat) (q:Ask4):Prop where
 hl:q.h.length=L
 fl:q.f.length=L
 hn:Nn q.h
 fn:Nn q.f
 wt:wtF q.h+wtF q.f=q.d
 d1:1<=q.d
 dL:q.d<=L
 L5:L<=5
 k6:q.k<=6
def muF (q:Ask4):Int:=6*q.d+q.f.sum
section
variable {L:Nat}{q:Ask4}
theorem AskOk.sums (a:AskOk L q):0<=q.h.sum/\q.h.sum<=5/\0<=q.f.sum/\q.f.sum<=5:=by
 obtain⟨h1,h2⟩:=dF (i:=1) (by decide) a.hn;obtain⟨f1,f2⟩:=dF (i:=1) (by decide) a.fn;have w1:=dU (i:=1) (by decide) a.hn;have w2:=dU (i:=1) (by decide) a.fn;have:=a.wt;have:=a.dL;have:=a.L5;unfold wtF at*
 lia
theorem AskOk.held (a:AskOk L q) {x:Sm4} (hx:x∈ii q):AskOk L x.2.2/\muF x.2.2+1<=muF q/\x.1=1/\∃w:Int,x.2.1=[w]/\1<=w/\w<=5:=by
 unfold ii at hx;obtain⟨p,hp,hx⟩:=B'.mp hx;have hp:=Aa.mp hp;unfold dR at hx;split at hx
 .next hf=>
  rw[Ab.mp hx];have Lp:p<q.h.length:=by rw[a.hl,<-a.fl];exact hp
  have h5:=a.L5;have fl:=a.fl;refine⟨⟨by rw[eE];exact a.hl,by rw[eE];exact fl,kL Lp a.hn (by have:=a.hn p;lia),kL hp a.fn (by lia), ?_,a.d1,a.dL,h5,a.k6⟩, ?_,rfl,_,rfl,by lia,by lia⟩
  .have:=a.wt;show wtF (wmF q.h p 1)+wtF (wmF q.f p (-1))=q.d;unfold wtF at*
   rw[kK Lp,kK hp];lia
  .show 6*q.d+(wmF q.f p (-1)).sum+1<=6*q.d+q.f.sum;rw[kF hp];lia
 .cases hx
theorem AskOk.few (a:AskOk L q) (d2:2<=q.d) {kp fr:Qt Int} (hk:kp∈rwF q.h) (hf:fr∈rbF 8 q.f (q.d-1-wtF kp) 0):AskOk L ⟨q.d-1,q.k+fr.sum-q.f.sum-q.d+1,kp,fr⟩/\6*(q.d-1)+fr.sum+1<=muF q/\Le kp q.h/\Le q.f fr/\fr.sum<=5:=by
 have l1:=o9 a.hn hk;obtain⟨l2,e⟩:=vi hf a.fn (Le.self a.fn);have n1:=(Le.nn l1).1;have n2:=(Le.nn l2).2;have w1:=dU (i:=1) (by decide) n1;have w2:=dU (i:=1) (by decide) a.fn;obtain⟨g1,g2⟩:=l2.gain (i:=1) (by decide);obtain⟨s1,s2⟩:=dF (i:=1) (by decide) n2;have h5:=a.L5;have dL:=a.dL;have k6:=a.k6;have sf:=a.sums;unfold wtF at e w1 w2;refine⟨⟨l1.len.trans a.hl,l2.len.symm.trans a.fl,n1,n2, ?_, ?_, ?_,h5, ?_⟩, ?_,l1,l2, ?_⟩
 .show wtF kp+wtF fr=q.d-1;unfold wtF;lia
 .show 1<=q.d-1;lia
 .show q.d-1<=L;lia
 .show q.k+fr.sum-q.f.sum-q.d+1<=6;lia
 .unfold muF;lia
 .lia
theorem vm {x:Sm4} (hx:x∈ik q):∃kp∈rwF q.h,∃fr∈rbF 8 q.f (q.d-1-wtF kp) 0,x=ij q kp fr:=by
 unfold ik at hx;obtain⟨kp,hk,hx⟩:=B'.mp hx;unfold dS at hx;obtain⟨fr,hf,rfl⟩:=Ak.mp hx;exact⟨kp,hk,fr,hf,rfl⟩
theorem AskOk.less (a:AskOk L q) (d2:2<=q.d) {x:Sm4} (hx:x∈eJ q):AskOk L x.2.2/\muF x.2.2+1<=muF q:=by
 unfold eJ at hx;rcases BM.mp hx with hx|hx
 .exact⟨(a.held hx).1,(a.held hx).2.1⟩
 .obtain⟨kp,hk,fr,hf,rfl⟩:=vm hx;obtain⟨h1,h2,_⟩:=a.few d2 hk hf;exact⟨h1,h2⟩
end
theorem AskOk.mu {L:Nat}(a:AskOk L q):6<=muF q/\muF q<=35:=by
 have:=a.sums;have:=a.d1;have:=a.dL;have:=a.L5;unfold muF;lia
theorem vn {L:Nat}:∀{n m:Nat}{q:Ask4},AskOk L q->muF q<=n->muF q<=m->fI n q=fI m q
 |0,_,q,a,h,_=>by have:=a.mu;lia
 |_+1,0,q,a,_,h=>by have:=a.mu;lia
 |n+1,m+1,q,a,h1,h2=>by
  unfold fI;split
  .rfl
  .split
   .rfl
   .next hd=>
    refine BU List.sum (Aq fun x hx=> ?_);obtain⟨b,c⟩:=a.less (by have:=a.d1;lia) hx;rw[vn b (n:=n) (m:=m) (by lia) (by lia)]
def cF (q:Ask4):Int:=fI 36 q
def Hq (h:q.k<0):cF q=0:=A7 h
theorem Hr (h:¬q.k<0) (hd:q.d=1):cF q=if q.k=0 then 1 else 0:=by
 unfold cF fI;rw[A5 h,A7 hd]
theorem Hs {L:Nat}(a:AskOk L q) (h:¬q.k<0) (hd:¬q.d=1):cF q=((eJ q).map fun x=>x.1*cA x.2.1*cF x.2.2).sum:=by
 have e:cF q=fI 37 q:=vn a (by have:=a.mu;lia) (by have:=a.mu;lia);rw[e];unfold fI;rw[A5 h,A5 hd];rfl
theorem vo:∀{t:Qt Int}{i:Int},wtG i (t++[0])=wtG i t
 |[],i=>by simp[wtG]
 |x::t,i=>by
  show i*x+wtG (i+1) (t++[0])=i*x+wtG (i+1) t;rw[vo]
def bZ (n:Nat) (t:Qt Int):Qt Int:=t++List.replicate (n-t.length) 0
theorem Ht :∀{t:Qt Int}{i:Int},wtG i (t++List.replicate n 0)=wtG i t:=by
 induction n with
 |zero=>intro t i;simp
 |succ n ih=>
  intro t i;rw[List.replicate_succ',<-BP,vo,ih]
def dG:Nat->Nat->Nat->Qt (Qt Int)
 |_,0,_=>[[]]
 |i,n+1,b=>(List.range (b/i+1)).flatMap fun x=>(dG (i+1) n (b-i*x)).map ((x:Int):: ·)
theorem ph:∀{n i b:Nat}{t:Qt Int},1<=i->t.length=n->Nn t->wtG (i:Int) t<=b->t∈dG i n b
 |0,i,b,t,_,hl,_,_=>by rw[Br.mp hl];exact AW
 |n+1,i,b,[],_,hl,_,_=>nomatch hl
 |n+1,i,b,x::t,hi,hl,hn,hw=>by
  obtain⟨x0,tn⟩:=Nn.cons.mp hn;obtain⟨m,rfl⟩:=CO x0;have w:=dU (i:=(i:Int)+1) (by lia) tn;unfold wtG at hw;have hm:i*m<=b:=by
   have:((i*m:Nat):Int)=(i:Int)*(m:Int):=Int.natCast_mul i m;lia
  unfold dG;refine B'.mpr ⟨m,Aa.mpr (Nat.lt_succ_of_le ((Nat.le_div_iff_mul_le (by lia)).mpr (by rw[Nat.mul_comm];exact hm))),Ak.mpr ⟨t,ph (by lia) (by simpa using hl) tn ?_,rfl⟩⟩;have:((i*m:Nat):Int)=(i:Int)*(m:Int):=Int.natCast_mul i m;show wtG ((i:Int)+1) t<=_;lia
def vp:Bool:=(List.range 6).all fun L=>decide ((dG 1 L 5).length<=19)
theorem Hu:vp=true:=by ac_nf
theorem Hv (a b:Qt Int):cA (a++b)=cA a*cA b:=by
 have go:∀(b:Qt Int) (x:Int),b.foldl (· * ·) x=x*b.foldl (· * ·) 1:=fun b=>by
  induction b with
  |nil=>intro x;simp
  |cons y b ih=>
   intro x;rw[Cs,Cs,ih,ih (1*y),Int.one_mul,Int.mul_assoc]
 unfold cA;rw[Bi,go]
def chG (n:Int):Nat->Int
 |0=>1
 |i+1=>chG n i*(n-(0+(i:Int)))/((0+(i:Int))+1)
def cho (n k:Int):Int:=if k<0\/k>n then 0 else chG n k.toNat
def bQ (f:Nat->Int):Nat->Int
 |0=>0
 |n+1=>bQ f n+f n
theorem jm {f g:Nat->Int}:∀{n:Nat},(∀i,i<n->f i=g i)->bQ f n=bQ g n
 |0,_=>rfl
 |n+1,h=>by
  unfold bQ;rw[jm fun i hi=>h i (by lia),h n (by lia)]
theorem pi {f:Nat->Int}(h:∀i,i<n->f i=0):bQ f n=0:=by
 rw[jm (g:=fun _=>0) h];clear h;induction n with
 |zero=>rfl
 |succ n ih=>unfold bQ;rw[ih];rfl
theorem vq (f g:Nat->Int):∀n:Nat,bQ (fun i=>f i+g i) n=bQ f n+bQ g n
 |0=>rfl
 |n+1=>by
  unfold bQ;rw[vq f g n];lia
theorem vt {k:Nat}{a:Int}:∀{n:Nat},k<n->bQ (fun i=>if i=k then a else 0) n=a
 |0,h=>absurd h (Nat.not_lt_zero _)
 |n+1,h=>by
  unfold bQ;by_cases e:n=k
  .subst e;rw[A7 rfl,pi fun i hi=>A5 (by lia)];lia
  .rw [A5 e,vt (by lia)];lia
def vF:Qt (Nat×Int)->Nat->Int
 |[],_=>0
 |(k,a)::r,i=>if i=k then a else vF r i
theorem kN:∀{kvs:Qt (Nat×Int)}{i:Nat},i∉kvs.map (·.1)->vF kvs i=0
 |[],_,_=>rfl
 |(k,a)::r,i,h=>by
  rw[AE,AI,not_or] at h;unfold vF;rw[A5 h.1,kN h.2]
theorem pq (G:Nat->Int->Int) (hG:∀i,G i 0=0) {n:Nat}:∀{kvs:Qt (Nat×Int)},(kvs.map (·.1)).Nodup->(∀x∈kvs,x.1<n)->(kvs.map fun x=>G x.1 x.2).sum=bQ (fun i=>G i (vF kvs i)) n
 |[],_,_=>(pi (f:=fun i=>G i (vF [] i)) fun i _=>hG i).symm
 |(k,a)::r,nd,h=>by
  rw[AE,BI] at nd;rw[AE,Aw,pq G hG nd.2 fun x hx=>h x (AQ _ hx)];have hk:k<n:=h (k,a) AW;have e:(fun i=>G i (vF ((k,a)::r) i))=fun i=>(if i=k then G k a else 0)+G i (vF r i):=by
   funext i
   show G i (if i=k then a else vF r i)=_;by_cases hi:i=k
   .subst hi;rw[A7 rfl,A7 rfl,kN nd.1,hG];lia
   .rw [A5 hi,A5 hi];lia
  rw[e,vq,vt hk]
def cvn (ch:Nat->Nat->Int) (n:Nat) (f g:Nat->Int) (s:Nat):Int:=bQ (fun r=>bQ (fun t=>if r+t=s then f r*g t*ch s r else 0) n) n
theorem vw {ch:Nat->Nat->Int}{f f' g g':Nat->Int} (hf:∀i,i<n->f i=f' i) (hg:∀i,i<n->g i=g' i) (s:Nat):cvn ch n f g s=cvn ch n f' g' s:=by
 unfold cvn;refine jm fun r hr=>jm fun t ht=> ?_;rw[hf r hr,hg t ht]
def below (F:Nat->Int) (d:Nat):Int:=bQ (fun e=>F (e+1)) (d-1)
theorem kO {F G:Nat->Int}(h:∀e,1<=e->e<d->F e=G e):below F d=below G d:=jm fun e he=>h (e+1) (by lia) (by lia)
def dI (xs:Qt (Nat×Int)):Qt (Key×V):=xs.map fun x=>(.inl (x.1:Int), .int x.2)
def eK (xs:Qt (Nat×Int)) (k:Nat) (v:Int):Qt (Nat×Int):=if(xs.any fun x=>decide (x.1=k))=true then xs.map (fun x=>if x.1=k then(x.1,v) else x) else xs++[(k,v)]
theorem jn {a b:Nat}:(Sum.inl (a:Int):Key)=Sum.inl (b:Int)↔a=b:=⟨fun h=>by have:=Sum.inl.inj h;lia,fun h=>by rw[h]⟩
theorem Hw (xs:Qt (Nat×Int)) (k:Nat):((dI xs).any fun kv=>decide (kv.1=(Sum.inl (k:Int):Key)))=xs.any fun x=>decide (x.1=k):=by
 unfold dI;rw[List.any_map];congr 1
 funext x
 exact decide_eq_decide.mpr jn
theorem vz (xs:Qt (Nat×Int)) (k:Nat) (v:Int):aR (dI xs) (.inl (k:Int)) (.int v)=dI (eK xs k v):=by
 unfold aR eK;rw[Hw];by_cases h:(xs.any fun x=>decide (x.1=k))=true
 .rw [A7 h,A7 h];unfold dI;rw[BA,BA];refine Aq fun x _=> ?_;show(if(Sum.inl (x.1:Int):Key)= .inl (k:Int) then _ else _)=_;by_cases e:x.1=k
  .rw [A7 (jn.mpr e)];simp only[Function.comp,A7 e]
  .rw [A5 fun z=>e (jn.mp z)];simp only[Function.comp,A5 e]
 .rw [A5 h,A5 h];unfold dI;rw[A6];rfl
theorem vA (xs:Qt (Nat×Int)) (k:Nat):aJ (dI xs) (.inl (k:Int))=if k∈xs.map (·.1) then some (.int (vF xs k)) else none:=by
 induction xs with
 |nil=>rfl
 |cons x r ih=>
  obtain⟨j,a⟩:=x;unfold aJ dI at ih⊢;rw[AE,Bc,AE];by_cases e:j=k
  .subst e;simp[vF]
  .have e':¬((Sum.inl (j:Int):Key)= .inl (k:Int)):=fun z=>e (jn.mp z);rw[Ae e'];have e2:¬k=j:=fun z=>e z.symm;simp only[AI,e2,false_or];rw[show vF ((j,a)::r) k=vF r k from A5 e2];exact ih
theorem vB (xs:Qt (Nat×Int)) (k:Nat) (v:Int):(eK xs k v).map (·.1)=if k∈xs.map (·.1) then xs.map (·.1) else xs.map (·.1)++[k]:=by
 unfold eK;have:(xs.any fun x=>decide (x.1=k))=true↔k∈xs.map (·.1):=by
  rw[List.any_eq_true,Ak];simp
 by_cases h:k∈xs.map (·.1)
 .rw [A7 h,A7 (this.mpr h),BA];refine Aq fun x _=> ?_;simp only[Function.comp];split<;>rfl
 .rw [A5 h,A5 (fun z=>h (this.mp z)),A6];rfl
theorem Hx (h:(xs.map (·.1)).Nodup) (k:Nat) (v:Int):((eK xs k v).map (·.1)).Nodup:=by
 rw[vB];by_cases e:k∈xs.map (·.1)
 .rw [A7 e];exact h
 .rw [A5 e];refine D5.mpr ⟨h,by simp,fun a ha b hb z=> ?_⟩;rw[Ab.mp hb] at z;exact e (z▸ha)
theorem vC {k:Nat}{v:Int}{i:Nat}:∀{xs:Qt (Nat×Int)},vF (xs++[(k,v)]) i=if i∈xs.map (·.1) then vF xs i else if i=k then v else 0
 |[]=>by simp[vF]
 |(j,a)::r=>by
  rw[DC,AE];unfold vF;by_cases e:i=j
  .simp [e]
  .rw [A5 e,A5 e,vC];by_cases hi:i∈r.map (·.1)
   .rw [A7 hi,A7 (AQ _ hi)]
   .rw [A5 hi,A5 fun z=>(AI.mp z).elim e hi]
theorem pz {k:Nat}{v:Int}{i:Nat}:∀{xs:Qt (Nat×Int)},k∈xs.map (·.1)->vF (xs.map fun x=>if x.1=k then(x.1,v) else x) i=if i=k then v else vF xs i
 |[],h=>by simp at h
 |(j,a)::r,h=>by
  rw[AE];by_cases ej:j=k
  .subst ej;rw[A7 rfl];unfold vF;by_cases e:i=j
   .rw [A7 e,A7 e]
   .rw [A5 e,A5 e,A5 e];by_cases hr:j∈r.map (·.1)
    .rw [pz hr,A5 e]
    .rw [show(r.map fun x=>if x.1=j then(x.1,v) else x)=r by
      conv=>rhs;rw[<-List.map_id r]
      refine Aq fun x hx=> ?_;rw[A5 fun z=>hr (Ak.mpr ⟨x,hx,z⟩)];rfl]
  .have hr:k∈r.map (·.1):=by
    rw[AE,AI] at h;exact h.resolve_left fun z=>ej z.symm
   rw[A5 ej];unfold vF;by_cases e:i=j
   .rw [A7 e,A7 e,A5 (by lia)]
   .rw [A5 e,A5 e,pz hr]
theorem vD (xs:Qt (Nat×Int)) (k:Nat) (v:Int) (i:Nat):vF (eK xs k v) i=if i=k then v else vF xs i:=by
 unfold eK;have:(xs.any fun x=>decide (x.1=k))=true↔k∈xs.map (·.1):=by
  rw[List.any_eq_true,Ak];simp
 by_cases h:k∈xs.map (·.1)
 .rw [A7 (this.mpr h),pz h]
 .rw [A5 (fun z=>h (this.mp z)),vC];by_cases e:i=k
  .subst e;rw[A5 h,A7 rfl,A7 rfl]
  .rw [A5 e,A5 e];by_cases hi:i∈xs.map (·.1)
   .rw [A7 hi]
   .rw [A5 hi,kN hi]
def chS (s r:Nat):Int:=cho ((s:Int)-1) ((r:Int)-1)
def chQ:Bool:=(List.range 20).all fun n=>(List.range 20).all fun k=>decide (0<=cho (n:Int) (k:Int))&&decide (cho (n:Int) (k:Int)<1000000)
theorem Hy:chQ=true:=by ac_nf
theorem Hz {r:Nat} (h1:1<=s) (h2:s<=20) (h3:1<=r) (h4:r<=20):0<=chS s r/\chS s r<1000000:=by
 have h:=Hy;unfold chQ at h;rw[AY] at h;have h:=h (s-1) (Aa.mpr (by lia));rw[AY] at h;have h:=h (r-1) (Aa.mpr (by lia));have e1:((s-1:Nat):Int)=(s:Int)-1:=by lia
 have e2:((r-1:Nat):Int)=(r:Int)-1:=by lia
 rw[e1,e2] at h;unfold chS;simpa using h
def Sz (q n:Nat):Prop:=q*n<=20/\1<=n/\n<=5
def Sz.le {q:Nat} (h:Sz q n) (hd:d<=n):q*d<=20:=B9 (Nat.mul_le_mul_left q hd) h.1
def cv (f g:Nat->Int) (s:Nat):Int:=cvn chS 21 f g s
def Wh (g:Nat) (N Wq:Nat->Nat->Int):Prop:=∀d s,Wq d s=if 1<=d/\d<=g then N d s-below (fun e=>cv (Wq e) (N (d-e)) s) d else 0
def bE (d s:Nat) (v:Int):Qt Int:=[(d:Int),(s:Int),v]
theorem pA {d' s':Nat}{v v':Int} (h:bE d s v=bE d' s' v'):d=d'/\s=s'/\v=v':=by
 unfold bE at h;simp only[CC,and_true] at h;exact⟨by lia,by lia,h.2.2⟩
theorem pB:∀{n:Nat}{l:Qt Nat},l.Nodup->(∀x∈l,x<n)->l.length<=n
 |0,l,_,h=>by
  cases l with
  |nil=>simp
  |cons a r=>exact absurd (h a AW) (by lia)
 |n+1,l,nd,h=>by
  by_cases hn:n∈l
  .have:=pB (n:=n) (nd.erase n) fun x hx=>by
    have h1:=(nd.mem_erase_iff).mp hx;have:=h x h1.2;have:=h1.1;lia
   rw[List.length_erase_of_mem hn] at this;lia
  .have:=pB (n:=n) nd fun x hx=>by
    have:=h x hx;have:x≠n:=fun e=>hn (e▸hx);lia
   lia
def bI (m:Nat) (xs:Qt (Nat×Int)):Prop:=(xs.map (·.1)).Nodup/\∀x∈xs,1<=x.1/\x.1<=m
def bI.nil (m:Nat):bI m []:=⟨DQ,fun _ h=>nomatch h⟩
theorem bI.keys (h:bI m xs):∀k∈xs.map (·.1),1<=k/\k<=m:=fun k hk=>by
 obtain⟨x,hx,rfl⟩:=Ak.mp hk;exact h.2 x hx
theorem bI.put {k:Nat}{v:Int}(h:bI m xs) (h1:1<=k) (h2:k<=m):bI m (eK xs k v):=by
 refine⟨Hx h.1 k v,fun x hx=> ?_⟩;have hk:x.1∈(eK xs k v).map (·.1):=Ak.mpr ⟨x,hx,rfl⟩;rw[vB] at hk;by_cases e:k∈xs.map (·.1)
 .rw [A7 e] at hk;exact h.keys _ hk
 .rw [A5 e] at hk;rcases BM.mp hk with hk|hk
  .exact h.keys _ hk
  .rw [Ab.mp hk];exact⟨h1,h2⟩
theorem bI.len (h:bI m xs):xs.length<=m+1:=by
 have:=pB h.1 (n:=m+1) fun k hk=>by have:=h.keys k hk;lia
 rwa [A1] at this
theorem pC {k:Nat}{v:Int}:∀{xs:Qt (Nat×Int)},(xs.map (·.1)).Nodup->(k,v)∈xs->vF xs k=v
 |[],_,h=>nomatch h
 |(j,a)::r,nd,h=>by
  rw[AE,BI] at nd;unfold vF;rcases AI.mp h with e|h
  .cases e;rw[A7 rfl]
  .have:k∈r.map (·.1):=Ak.mpr ⟨_,h,rfl⟩;rw[A5 fun e:k=j=>nd.1 (e▸this),pC nd.2 h]
def prd (x:Nat×Int) (ys:Qt (Nat×Int)) (s:Nat):Int:=(ys.map fun y=>if x.1+y.1=s then x.2*y.2*chS s x.1 else 0).sum
def gk (xs ys:Qt (Nat×Int)) (s:Nat):Int:=(xs.map fun x=>prd x ys s).sum
theorem HA {k:Nat}(hx:bI m xs) (hy:bI k ys) (hm:m<=20) (hk:k<=20) (s:Nat):gk xs ys s=cv (vF xs) (vF ys) s:=by
 unfold gk;have e1:∀x:Nat×Int,prd x ys s=bQ (fun t=>if x.1+t=s then x.2*vF ys t*chS s x.1 else 0) 21:=fun x=>by
  unfold prd;exact pq (fun t v=>if x.1+t=s then x.2*v*chS s x.1 else 0) (fun t=>by split<;>simp) hy.1 fun y h=>by have:=(hy.2 y h).2;lia
 rw[Aq fun x _=>e1 x];exact pq (fun r v=>bQ (fun t=>if r+t=s then v*vF ys t*chS s r else 0) 21) (fun r=>pi fun t _=>by split<;>simp) hx.1 fun x h=>by have:=(hx.2 x h).2;lia
theorem HB {x:Nat×Int}{y:Nat×Int} (h:ys[j]? =some y) (s:Nat):prd x (ys.take (j+1)) s=prd x (ys.take j) s+if x.1+y.1=s then x.2*y.2*chS s x.1 else 0:=by
 unfold prd;rw[AK,h,A6,CA];simp
theorem HC {x:Nat×Int} (h:xs[j]? =some x) (s:Nat):gk (xs.take (j+1)) ys s=gk (xs.take j) ys s+prd x ys s:=by
 unfold gk;rw[AK,h,A6,CA];simp
def cg (g:Nat) (X:Nat->Qt (Nat×Int)) (d s:Nat):Int:=if 1<=d/\d<=g then vF (X d) s else 0
def aS (b:Nat->Qo) (g:Nat):Qt (Key×V):=(List.range g).map fun i=>(.inl ((i+1:Nat):Int), .ref (b (i+1)))
theorem kP (b:Nat->Qo) (g:Nat):(aS b g).length=g:=by unfold aS;rw[A1,BJ]
theorem vE (h:i<g):(aS b g)[i]? =some (.inl ((i+1:Nat):Int), .ref (b (i+1))):=by
 unfold aS;rw[AC,List.getElem?_range h];rfl
theorem kQ {b:Nat->Qo}{d:Nat}:∀{g:Nat},aJ (aS b g) (.inl (d:Int))=if 1<=d/\d<=g then some (.ref (b d)) else none
 |0=>by rw[A5 (by lia)];rfl
 |g+1=>by
  have e:aS b (g+1)=aS b g++[(.inl ((g+1:Nat):Int), .ref (b (g+1)))]:=by unfold aS;rw[Ax,A6];rfl
  rw[e,rm _ _ _ _ (by rw[kQ,A5 (by lia)]),kQ];by_cases h:d=g+1
  .subst h;rw[A7 rfl,A7 (by lia)]
  .rw [A5 fun z=>h (jn.mp z)];by_cases h2:1<=d/\d<=g
   .rw [A7 h2,A7 (by lia)]
   .rw [A5 h2,A5 (by lia)]
theorem HD (h1:1<=d) (h2:d<=g):aJ (aS b g) (.inl (d:Int))=some (.ref (b d)):=by rw[kQ,A7 ⟨h1,h2⟩]
theorem HE {b':Nat->Qo}(h:∀d,1<=d->d<=g->b d=b' d):aS b g=aS b' g:=by
 unfold aS;refine Aq fun i hi=> ?_;have:=Aa.mp hi;rw[h (i+1) (by lia) (by lia)]
theorem vG (b:Nat->Qo) (g:Nat) (p:Qo):aR (aS b g) (.inl ((g+1:Nat):Int)) (.ref p)=aS (fun d=>if d=g+1 then p else b d) (g+1):=by
 unfold aR;rw[A5 (by rw[fy,kQ,A5 (by lia)];simp)];have e:aS (fun d=>if d=g+1 then p else b d) (g+1)=aS (fun d=>if d=g+1 then p else b d) g++[(.inl ((g+1:Nat):Int), .ref p)]:=by
  unfold aS;rw[Ax,A6];simp
 rw[e,HE (b:=b) (b':=fun d=>if d=g+1 then p else b d) fun d h1 h2=>(A5 (by lia)).symm]
def Fz (H H':Hp):Prop:=∀a u,H a=some u->H' a=some u\/∃kvs o,(u= .dK kvs\/∃o',u= .frz o' (.dK kvs))/\H' a=some (.frz o (.dK kvs))
def Pz (x y:Qw HO):Prop:=∀u,x=some u->y=some u\/∃kvs o,(u= .dK kvs\/∃o',u= .frz o' (.dK kvs))/\y=some (.frz o (.dK kvs))
def Pz.of_eq {x y:Qw HO} (h:y=x):Pz x y:=fun u e=> .inl (h.trans e)
theorem Pz.frz {H H':Hp}{c:Qo}{o:Obj}{kvs:Qt (Key×V)} (h:Rd H c (.dK kvs)) (e:H' c=some (.frz o (.dK kvs))):Pz (H c) (H' c):=by
 intro u hu;rcases h with h|⟨o',h⟩
 .rw [h] at hu;cases hu;exact .inr ⟨kvs,o, .inl rfl,e⟩
 .rw [h] at hu;cases hu;exact .inr ⟨kvs,o, .inr ⟨_,rfl⟩,e⟩
theorem Pz.trans {x y z:Qw HO} (a:Pz x y) (b:Pz y z):Pz x z:=by
 intro u e;rcases a u e with e1|⟨kvs,o,e1,e2⟩
 .exact b u e1
 .rcases b _ e2 with e3|⟨k2,o2,e3|⟨o3,e3⟩,e4⟩
  .exact .inr ⟨kvs,o,e1,e3⟩
  .cases e3
  .cases e3;exact .inr ⟨kvs,o2,e1,e4⟩
theorem Pz.rd (z:Pz (H a) (H' a)) {kvs:Qt (Key×V)} (h:Rd H a (.dK kvs)):Rd H' a (.dK kvs):=by
 rcases h with h|⟨o,h⟩
 .rcases z _ h with e|⟨k2,o2,e1|⟨o3,e1⟩,e2⟩
  .exact .inl e
  .cases e1;exact .inr ⟨_,e2⟩
  .cases e1
 .rcases z _ h with e|⟨k2,o2,e1|⟨o3,e1⟩,e2⟩
  .exact .inr ⟨_,e⟩
  .cases e1
  .cases e1;exact .inr ⟨_,e2⟩
def Fz.refl (H:Hp):Fz H H:=fun _ _ e=> .inl e
theorem Fz.rd {H H':Hp} (z:Fz H H') {a:Qo}{kvs:Qt (Key×V)} (h:Rd H a (.dK kvs)):Rd H' a (.dK kvs):=Pz.rd (z a) h
theorem Fz.trans {H H1 H2:Hp} (a:Fz H H1) (b:Fz H1 H2):Fz H H2:=fun x=>Pz.trans (a x) (b x)
def Fz.of_same (s:ae H H'):Fz H H':=fun _ _ e=> .inl (s _ _ e)
theorem Fz.free (z:Fz H H') (h:H' a=none):H a=none:=by
 cases e:H a with
 |none=>rfl
 |some u=>rcases z _ _ e with h2|⟨_,_,_,h2⟩<;>rw[h] at h2<;>cases h2
theorem Fz.walk {d:Qo}{o:Obj}{kvs:Qt (Key×V)} (h:Rd H d (.dK kvs)) (e:H' d=some (.frz o (.dK kvs))) (k:∀b,b≠d->H' b=H b):Fz H H':=by
 intro a;by_cases hd:a=d
 .subst hd;exact Pz.frz h e
 .exact Pz.of_eq (k a hd)
theorem Fz.put (z:Fz H H1) {p:Qo} (n:H p=none) :Fz H (upd H1 p o):=fun a u e=>by
 have:a≠p:=by rintro rfl;rw[n] at e;cases e
 rw[ar this];exact z a u e
def Tb (q g:Nat) (H:Hp) (a:Qo) (b:Nat->Qo) (X:Nat->Qt (Nat×Int)):Prop:=Rd H a (.dK (aS b g))/\∀d,1<=d->d<=g->Rd H (b d) (.dK (dI (X d)))/\bI (q*d) (X d)
def Tb.fz {q:Nat}(t:Tb q g H a b X) (z:Fz H H'):Tb q g H' a b X:=⟨z.rd t.1,fun d h1 h2=>⟨z.rd (t.2 d h1 h2).1,(t.2 d h1 h2).2⟩⟩
theorem vH (h:Rd H a (.dK (dI xs))) {k:Nat} (hk:k∈xs.map (·.1)):cJ H a (.int (k:Int)) (some (.int (vF xs k))):= .inl ⟨dI xs, .inl (k:Int),h,rfl,by rw[vA,A7 hk]⟩
theorem im (h:Rd H a (.dK (aS b g))) (h1:1<=d) (h2:d<=g):cJ H a (.int (d:Int)) (some (.ref (b d))):= .inl ⟨aS b g, .inl (d:Int),h,rfl,by rw[HD h1 h2]⟩
theorem vI {k:Key}(h:(dI xs)[i]? =some (k,v)):∃x,xs[i]? =some x/\k= .inl (x.1:Int):=by
 unfold dI at h;rw[AC] at h;obtain⟨x,hx,e⟩:=AR.mp h;cases e;exact⟨x,hx,rfl⟩
theorem kR (xs:Qt (Nat×Int)):(dI xs).length=xs.length:=by unfold dI;rw[A1]
def cL:Qt (Qt Int):=[[],[1],[1,3],[1,12,21,15],[1,27,225,675,666,378,105],[1,48,882,7915]]
def cT (d k:Nat):Int:=(cL.getD d []).getD k 0
def ptF (d:Nat):Nat:=d*(d+3)/2
def c8 (g:Nat):Qt (Qt Int):=(List.range g).flatMap fun i=>(List.range ((i+1)*i/2+1)).map fun k=>bE (i+1) (ptF (i+1)-k) (cT (i+1) k)
def Ft (g d s:Nat):Int:=if 1<=d/\d<=g/\s<=ptF d then cT d (ptF d-s) else 0
theorem HF:((List.range 5).all fun g=>(List.range 5).all fun d=>(List.range 20).all fun s=>decide (Ft g d s=0)||(decide (1<=d)&&decide (d<=g)&&decide (1<=s)&&decide (s<=4*d)&&decide (bE d s (Ft g d s)∈c8 g)))=true:=by ac_nf
theorem pD (hg:g<5) (h:Ft g d s≠0):1<=d/\d<=g/\1<=s/\s<=4*d/\bE d s (Ft g d s)∈c8 g:=by
 have hd:1<=d/\d<=g/\s<=ptF d:=Classical.byContradiction fun c=>h (A5 c);have:∀d,d<5->ptF d<20:=by decide
 have:=this d (by lia);have:=AY.mp (AY.mp (AY.mp HF g (Aa.mpr hg)) d (Aa.mpr (by lia))) s (Aa.mpr (by lia));simp only[C2,AN,Av] at this;obtain⟨⟨⟨⟨a,b⟩,c⟩,e⟩,f⟩:=this.resolve_left h;exact⟨a,b,c,e,f⟩
theorem vJ:∀g,g<5->∀r∈c8 g,Ft g (r.getD 0 0).toNat (r.getD 1 0).toNat≠0/\r=bE (r.getD 0 0).toNat (r.getD 1 0).toNat (Ft g (r.getD 0 0).toNat (r.getD 1 0).toNat):=by ac_nf
theorem HG (hg:g<5) :r∈c8 g↔∃d s,Ft g d s≠0/\r=bE d s (Ft g d s):=by
 constructor
 .intro h;exact⟨_,_,(vJ g hg r h).1,(vJ g hg r h).2⟩
 .rintro⟨d,s,h,rfl⟩;exact(pD hg h).2.2.2.2
theorem HH:∀e:Nat,e<4->∀k:Nat,k<7->cF ⟨((e+1:Nat):Int),(k:Int),bZ (e+1) [],bZ (e+1) [((e+1:Nat):Int)]⟩=cT (e+1) k:=by ac_nf
theorem HI:∀k:Nat,k<4->cF ⟨((5:Nat):Int),(k:Int),bZ 5 [],bZ 5 [((5:Nat):Int)]⟩=cT 5 k:=by ac_nf
theorem HJ {k:Nat} (h:Wide d k):cF ⟨(d:Int),(k:Int),bZ d [],bZ d [(d:Int)]⟩=cT d k:=by
 obtain⟨d1,h⟩:=h;rcases h with⟨d4,k6⟩|⟨rfl,k3⟩
 .obtain⟨e,rfl⟩:∃e,d=e+1:=⟨d-1,by lia⟩;exact HH e (by lia) k (by lia)
 .exact HI k (by lia)
def Nf (d k e s:Nat):Int:=if e<d then Ft (d-1) e s else if e=d/\s+k=ptF d then cT d k else 0
def jo (d k:Nat):Qt (Qt Int):=c8 (d-1)++[bE d (ptF d-k) (cT d k)]
theorem pF:∀d:Nat,d<6->ptF d<=4*d:=by decide
theorem vK {k:Nat} (hd:1<=d/\d<6) (hk:k+1<=ptF d) (h:Nf d k e s≠0):1<=e/\e<=d/\1<=s/\s<=4*e/\bE e s (Nf d k e s)∈jo d k:=by
 unfold Nf at h⊢;split at h
 .next c=>
  rw[A7 c];obtain⟨a,b,c',e',f⟩:=pD (g:=d-1) (by lia) h;exact⟨a,by lia,c',e',List.mem_append_left _ f⟩
 .next c=>
  rw[A5 c];split at h
  .next c2=>
   rw[A7 c2];obtain⟨rfl,c2⟩:=c2;have:=pF e (by lia);refine⟨by lia,by lia,by lia,by lia,B0 _ (Ab.mpr ?_)⟩;rw[show ptF e-k=s by lia]
  .exact absurd rfl h
theorem HK {k:Nat} (hd:1<=d/\d<6) (hk:k+1<=ptF d) (h:r∈jo d k):∃e s,r=bE e s (Nf d k e s)/\1<=e/\e<=d/\1<=s/\s<=4*e:=by
 rcases BM.mp h with h|h
 .obtain⟨e,s,hs,rfl⟩:=(HG (g:=d-1) (by lia)).mp h;obtain⟨a,b,c,f,_⟩:=pD (g:=d-1) (by lia) hs;refine⟨e,s, ?_,a,by lia,c,f⟩;unfold Nf;rw[A7 (by lia)]
 .rw [Ab.mp h];have:=pF d hd.2;refine⟨d,ptF d-k, ?_,hd.1,A' _,by lia,by lia⟩;unfold Nf;rw[A5 (by lia),A7 ⟨rfl,by lia⟩]
theorem HL:∀g,g<6->∀d,d<6->∀s,s<21->-(2^64)<Ft g d s/\Ft g d s<2^64:=by ac_nf
theorem HM:∀d,d<6->∀k,k<21->-(2^64)<cT d k/\cT d k<2^64:=by ac_nf
theorem HN {k:Nat} (hd:1<=d/\d<6) (hk:k+1<=ptF d): -(2^64)<Nf d k e s/\Nf d k e s<2^64:=by
 by_cases h:Nf d k e s=0
 .rw [h];decide
 .obtain⟨a,b,c,f,_⟩:=vK hd hk h;have p:=pF d hd.2;unfold Nf;split
  .exact HL _ (by lia) _ (by lia) _ (by lia)
  .split
   .exact HM _ (by lia) _ (by lia)
   .decide
def VL:Qt (Qt Int):=[[],[1],[1],[1,12],[1,27,225,620]]
def Vt (e s:Nat):Int:=if 1<=e/\s<=ptF e then(VL.getD e []).getD (ptF e-s) 0 else 0
theorem HP:∀e,e<5->1<=e->∀s,s<21->Vt e s=Ft 4 e s-below (fun e'=>cv (Vt e') (Ft 4 (e-e')) s) e:=by ac_nf
theorem HQ (h:e<=g) (g4:g<=4):Ft g e s=Ft 4 e s:=by
 unfold Ft;by_cases c:1<=e/\s<=ptF e
 .rw [A7 ⟨c.1,h,c.2⟩,A7 ⟨c.1,by lia,c.2⟩]
 .rw [A5 (fun z=>c ⟨z.1,z.2.2⟩),A5 (fun z=>c ⟨z.1,z.2.2⟩)]
theorem pG {k:Nat} (hd:d<6) (h:e<d):Nf d k e s=Ft 4 e s:=by
 unfold Nf;rw[A7 h,HQ (by lia) (by lia)]
theorem vL {d k:Nat}{Wq:Nat->Nat->Int} (hd:d<6) (h:Wh d (Nf d k) Wq):∀n e,e<n->1<=e->e<d->∀s,s<21->Wq e s=Vt e s
 |0,e,hn,_,_,_,_=>absurd hn (Nat.not_lt_zero _)
 |n+1,e,hn,e1,ed,s,hs=>by
  rw[h e s,A7 ⟨e1,by lia⟩,HP e (by lia) e1 s hs,pG hd ed];congr 1
  refine kO fun e' h1 h2=>vw (fun i hi=>vL hd h n e' (by lia) h1 (by lia) i hi) (fun i _=>pG hd (by lia)) s
def kS (d k:Nat):Int:=cT d k-below (fun e=>cv (Vt e) (Ft 4 (d-e)) (ptF d-k)) d
theorem HR {k:Nat}(hd:1<=d/\d<6) (hk:k+1<=ptF d) (h:Wh d (Nf d k) Wq):Wq d (ptF d-k)=kS d k:=by
 rw[h d,A7 ⟨hd.1,A' _⟩];unfold kS;congr 1
 .unfold Nf;rw[A5 (by lia),A7 ⟨rfl,by lia⟩]
 .exact kO fun e h1 h2=>vw (fun i hi=>vL hd.2 h (e+1) e (by lia) h1 h2 i hi) (fun i _=>pG hd.2 (by lia)) _
def fJ (d k:Nat):Int:=if ptF d<k+1 then 0 else kS d k
def whT:Qt Int:=[0,1,1,12,620,87304,26312976,14616808192,13525751027392]
def wh (z:Int):Int:=whT.getD z.toNat 0
def io (d e:Int):Int:=(d-e)*cho (3*d-4) (3*e-2)-e*cho (3*d-4) (3*e-1)
def kT (d:Int):Nat->Int
 |0=>0
 |m+1=>kT d m+wh (1+(m:Int))*wh (d-(1+(m:Int)))*(1+(m:Int))*(1+(m:Int))*(d-(1+(m:Int)))*io d (1+(m:Int))
theorem HS:∀n:Fin 9,n.val<2\/kT (n.val:Int) (n.val-1)=wh n.val:=by ac_nf
theorem HU (h2:2<=n) (h8:n<=8):kT n (n-1)=wh n:=by
 rcases HS ⟨n,by lia⟩ with h|h
 .exact absurd h (by show¬n<2;lia)
 .exact h
theorem HV:∀n:Fin 9,∀m:Fin 9,-(2^64)<io (n.val:Int) (1+(m.val:Int))/\io (n.val:Int) (1+(m.val:Int))<2^64:=by ac_nf
theorem HW (hn:n<=8) (hm:m<=8): -(2^64)<io n (1+(m:Int))/\io n (1+(m:Int))<2^64:=HV ⟨n,by lia⟩ ⟨m,by lia⟩
theorem HX (z:Int): -(2^64)<wh z/\wh z<2^64:=by
 unfold wh;generalize z.toNat=n;by_cases h:n<9
 .have:∀n:Fin 9,-(2^64)<whT.getD n.val 0/\whT.getD n.val 0<2^64:=by ac_nf
  exact this ⟨n,h⟩
 .rw [A9,C' (by show 9<=n;lia)];decide
def fe (d x n:Nat):Qt Pt:=(List.range n).map fun j:Nat=>((x:Int),(d:Int)-(x:Int)-(j:Int))
def ff (d n:Nat):Qt Pt:=(List.range n).flatMap fun x=>fe d x (d+1-x)
def ci (d:Nat):Qt Pt:=ff d (d+1)
theorem vM (d n:Nat):ff d (n+1)=ff d n++fe d n (d+1-n):=by unfold ff;rw[Ax,Au,List.flatMap_singleton]
theorem HY (d x n:Nat):fe d x (n+1)=fe d x n++[((x:Int),(d:Int)-(x:Int)-(n:Int))]:=by unfold fe;rw[Ax,A6];rfl
theorem vN (d x n:Nat):(fe d x n).length=n:=by simp[fe]
theorem HZ (d n:Nat) (hn:n<=d+1) (hd:d<=5):(ff d n).length<=36:=by
 have:∀m,m<=6->(ff d m).length<=6*m:=fun m hm=>by
  induction m with
  |zero=>simp[ff]
  |succ m ih=>
   have:=ih (by lia);rw[vM,AA,vN];lia
 have:=this n (by lia);lia
def lvA {α:Type}:Qt α->Nat->Qt (Qt α)
 |row,0=>[row]
 |[],_+1=>[]
 |x::row,k+1=>(lvA row (k+1)).map (x:: ·)++lvA row k
theorem pH {α:Type}:∀(row:Qt α) (k:Nat),row.length<k->lvA row k=[]
 |_,0,h=>by lia
 |[],_+1,_=>rfl
 |x::row,k+1,h=>by
  simp only[AT] at h;rw[lvA,pH row (k+1) (by lia),pH row k (by lia)];rfl
theorem jp {α:Type}:∀(row:Qt α) (k:Nat),(lvA row k).length<=2^row.length
 |[],0=>by simp[lvA]
 |[],_+1=>by simp[lvA]
 |x::row,0=>by
  rw[lvA];exact Nat.one_le_two_pow
 |x::row,k+1=>by
  rw[lvA,AA,A1,AT,Nat.pow_succ];have h1:=jp row (k+1);have h2:=jp row k;lia
theorem kU {α:Type}:∀(row:Qt α) (k:Nat) (ws:Qt α),ws∈lvA row k->ws.length<=row.length
 |row,0,ws,h=>by
  have:ws=row:=by cases row<;>simpa[lvA] using h
  rw[this];exact A' _
 |[],_+1,ws,h=>by simp[lvA] at h
 |x::row,k+1,ws,h=>by
  rw[lvA] at h;rcases BM.mp h with q|q
  .obtain⟨us,hu,rfl⟩:=Ak.mp q;have:=kU row (k+1) us hu;simp;lia
  .have:=kU row k ws q;simp;lia
def dq (d:Nat):Qt Pt:=((ci d).drop 1).dropLast
def p0 (d:Nat):Pt:=(0,(d:Int))
def pl (d:Nat):Pt:=((d:Int),0)
def bv (d k:Nat):Qt (Qt Pt):=(lvA (dq d) k).map fun w=>[p0 d]++w++[pl d]
def gp (d k:Nat):Prop:=1<=d/\((d<=3/\k<=6)\/(d=4/\k<=2))
def b8 (H0 H:Hp) (Wq:Qt (Qt V)) (vs:Qt V):Prop:=vs.length=Wq.length/\∀(i:Nat) ws,Wq[i]? =some ws->∃a,vs[i]? =some (.ref a)/\H0 a=none/\H a=some (.lst ws)
theorem b8.nil :b8 H0 H [] []:=⟨rfl,fun i ws h=>by simp at h⟩
theorem b8.mono {H0':Hp}{Wq:Qt (Qt V)}(h:b8 H0 H Wq vs) (s0:ae H0' H0) (s:ae H H'):b8 H0' H' Wq vs:=⟨h.1,fun i ws e=>by
 obtain⟨a,e1,e2,e3⟩:=h.2 i ws e;exact⟨a,e1,s0.free e2,s _ _ e3⟩⟩
theorem b8.append {Wq W':Qt (Qt V)}{vs':Qt V} (h:b8 H0 H Wq vs) (h':b8 H0 H W' vs'):b8 H0 H (Wq++W') (vs++vs'):=by
 refine⟨by rw[AA,AA,h.1,h'.1],fun i ws e=> ?_⟩;rcases Bo i Wq.length with q|q
 .rw [Bf q] at e;rw[Bf (by rw[h.1];exact q)];exact h.2 i ws e
 .rw [BO q] at e;rw[BO (by rw[h.1];exact q),h.1];exact h'.2 _ ws e
theorem b8.one (h0:H0 a=none) (h:H a=some (.lst ws)):b8 H0 H [ws] [.ref a]:=⟨rfl,fun i us e=>by
 match i,e with
 |0,e=>cases e;exact⟨a,rfl,h0,h⟩
 |i+1,e=>simp at e⟩
def upE (d:Nat):Qt Pt:=(List.range (d+1)).map fun i:Nat=>((i:Int),(d:Int)-(i:Int))
def loE (d:Nat):Qt Pt:=((List.range (d+1)).map fun i:Nat=>((0:Int),(d:Int)-(i:Int)))++(List.range d).map fun i:Nat=>((1:Int)+(i:Int),(0:Int))
abbrev Pc:=Qt Pt
variable {S:Qt (Pc×Pc)}{c:Pc}{cs:Qt Pc}{y:Pc×Pc}
def zP:Pt:=(0,0)
def crn (a b c:Pt):Int:=(b.1-a.1)*(c.2-b.2)-(b.2-a.2)*(c.1-b.1)
def fg (ps:Qt Pt) (P3:Int):Qw Nat:=((List.range (ps.length-2)).find? fun i=>decide (crn (ps.getD i zP) (ps.getD (i+1) zP) (ps.getD (i+2) zP)*P3>0)).map (· +1)
def dW (a b c:Pt):Pt:=(a.1+c.1-b.1,a.2+c.2-b.2)
def jq (d:Nat) (p:Pt):Bool:=decide (p.1>=0)&&(decide (p.2>=0)&&decide (p.1+p.2<=(d:Int)))
def ip (d:Nat) (ps:Qt Pt) (P3:Int):Qt (Pc×Qt Pt):=match fg ps P3 with
 |none=>[]
 |some p=>[([ps.getD (p-1) zP,ps.getD p zP,ps.getD (p+1) zP],ps.take p++ps.drop (p+1))]++
  if jq d (dW (ps.getD (p-1) zP) (ps.getD p zP) (ps.getD (p+1) zP))=true then [([ps.getD (p-1) zP,ps.getD p zP,ps.getD (p+1) zP,dW (ps.getD (p-1) zP) (ps.getD p zP) (ps.getD (p+1) zP)],ps.take p++[dW (ps.getD (p-1) zP) (ps.getD p zP) (ps.getD (p+1) zP)]++ps.drop (p+1))] else []
def bh:Nat->Nat->Qt Pt->Int->Qt Pt->Qt (Qt Pc)
 |0,_,_,_,_=>[]
 |n+1,d,ps,s,e=>if ps=e then [[]] else(ip d ps s).flatMap fun x=>(bh n d x.2 s e).map (x.1:: ·)
def inB (p:Pt):Bool:=decide (-20<=p.1)&&decide (p.1<=20)&&decide (-20<=p.2)&&decide (p.2<=20)
def psB (ps:Qt Pt):Bool:=ps.all inB&&decide (ps.length<=30)
def okM:Nat->Nat->Qt Pt->Int->Qt Pt->Bool
 |0,_,_,_,_=>false
 |n+1,d,ps,s,e=>psB ps&&(decide (ps=e)||(ip d ps s).all fun x=>okM n d x.2 s e)&&decide ((bh (n+1) d ps s e).length<=100)&&(bh (n+1) d ps s e).all fun x=>decide (x.length<=100)
def ovF (d:Nat) (ps:Qt Pt):Qt (Qt Pc):=if bh 30 d ps (-1) (loE d)=[] then [] else bh 30 d ps 1 (upE d)
def b9 (d:Nat) (ps:Qt Pt):Qt (Qt Pc):=(ovF d ps).flatMap fun x=>(bh 30 d ps (-1) (loE d)).map fun y=>x++y
def iq:Qt Pc->Qt Pc->Bool
 |_,[]=>false
 |[],_::_=>true
 |x::xs,y::ys=>if x=y then iq xs ys else et x y
def pcD (c:Pc):D:= .t (c.map pt)
def bR (cs:Qt Pc):D:= .l (cs.map pcD)
theorem Ia {a b:Pc} (h:pcD a=pcD b):a=b:=by
 unfold pcD at h;exact mf (D.t.inj h)
theorem pI {a b:Pc}{w:V} (h:Is H (pcD a) v) (k:Is H (pcD b) w):EqR K H 2 v w (decide (a=b)):=by
 have e:=h.eqr (K:=K) (n:=2) (by have:=mi (ps:=a);unfold pcD dep;lia) (by unfold pcD Kin;exact mh) k;have:eqD (pcD a) (pcD b)=decide (a=b):=by
  by_cases c:a=b
  .rw [c,zU];simp
  .rw [zV fun z=>c (Ia z)];simp[c]
 rwa [this] at e
theorem Ib {a b:Pc}{w:V} (h:Is H (pcD a) v) (k:Is H (pcD b) w):LtR K H 2 v w (et a b):=by
 obtain⟨x,vs,rfl,ha,h⟩:=bn h;obtain⟨y,ws,rfl,hb,k⟩:=bn k;obtain⟨e1,e2⟩:=sG (K:=K) h k;have e:=LtR.tuples (K:=K) (H:=H) (d:=1) (a:=x) (b:=y) _ _ (SqT.of ha) (SqT.of hb) e1 e2;rw[h.length,k.length,A1,A1,my a b _ 0 (Nat.sub_zero _) (AL _),C7,C7] at e;exact e
theorem vO (p q:Qt Pc):∀(k i:Nat),min p.length q.length-i=k->i<=min p.length q.length->SeqAt.lex (fun j=>decide (p.getD j []=q.getD j [])) (fun j=>et (p.getD j []) (q.getD j [])) p.length q.length k i=iq (p.drop i) (q.drop i)
 |0,i,hk,hi=>by
  rw[SeqAt.lex];rcases(by lia:q.length=i\/(p.length=i/\i<q.length)) with e|⟨e,e2⟩
  .rw [Bd (l:=q) (by lia)];have:¬p.length<q.length:=by lia
   cases p.drop i<;>simp[iq,this]
  .rw [Bd (l:=p) (by lia),Ai e2];have:p.length<q.length:=by lia
   simp[iq,this]
 |k+1,i,hk,hi=>by
  have h1:i<p.length:=by lia
  have h2:i<q.length:=by lia
  have g1:p.getD i []=p[i]:=by simp[List.getD,h1]
  have g2:q.getD i []=q[i]:=by simp[List.getD,h2]
  rw[SeqAt.lex,Ai h1,Ai h2,iq,g1,g2];by_cases e:p[i]=q[i]
  .rw [A7 (At e),A7 e];exact vO p q k (i+1) (by lia) (by lia)
  .rw [A5 (by simpa using e),A5 e]
theorem Ic {p q:Qt Pc}(h:Iss H (p.map pcD) vs) (k:Iss H (q.map pcD) ws):
  (∀(j:Nat) x y,vs[j]? =some x->ws[j]? =some y->EqR K H 2 x y (decide (p.getD j []=q.getD j [])))/\(∀(j:Nat) x y,vs[j]? =some x->ws[j]? =some y->decide (p.getD j []=q.getD j [])=false->LtR K H 2 x y (et (p.getD j []) (q.getD j []))):=by
 have go:∀(j:Nat) x y,vs[j]? =some x->ws[j]? =some y->Is H (pcD (p.getD j [])) x/\Is H (pcD (q.getD j [])) y:=fun j x y hx hy=>by
  obtain⟨d,hd,h1⟩:=h.of_get hx;obtain⟨e,he,h2⟩:=k.of_get hy;rw[AC] at hd he;obtain⟨d',LU,rfl⟩:=AR.mp hd;obtain⟨e',MW,rfl⟩:=AR.mp he;rw[List.getD,LU,List.getD,MW];exact⟨h1,h2⟩
 exact⟨fun j x y hx hy=>pI (go j x y hx hy).1 (go j x y hx hy).2,fun j x y hx hy _=>Ib (go j x y hx hy).1 (go j x y hx hy).2⟩
theorem Ie {p q:Qt Pc}{w:V} (h:Is H (bR p) v) (k:Is H (bR q) w):Ask K H v w (iq p q):=by
 obtain⟨a,vs,rfl,ha,h⟩:=az h;obtain⟨b,ws,rfl,hb,k⟩:=az k;obtain⟨e1,e2⟩:=Ic (K:=K) h k;refine⟨a,b,vs,ws,2,_,_,rfl,rfl,SqL.of ha,SqL.of hb,by decide,e1,e2, ?_⟩;rw[h.length,k.length,A1,A1,vO p q _ 0 (Nat.sub_zero _) (AL _),C7,C7]
theorem pJ {α:Type}{f:α->D} (z:α) {H:Hp}{Wq:Qt α}{vs:Qt V} (h:Iss H (Wq.map f) vs):∀(l:Qt Nat),(∀i∈l,i<Wq.length)->Iss H ((l.map fun i=>Wq.getD i z).map f) (l.map fun i=>vs.getD i .non)
 |[],_=>ao
 |i::l,hl=>by
  have hi:i<Wq.length:=hl i (by simp);have hr:i<vs.length:=by rw[h.length,A1];exact hi
  refine ak ?_ (pJ z h l fun j hj=>hl j (by simp[hj]));obtain⟨d,hd,h1⟩:=h.of_get (A2 hr);rw[AC,A2 hi] at hd;cases hd;show Is H (f (Wq.getD i z)) (vs.getD i .non);rw[A9,A9,A2 hi,A2 hr];exact h1
theorem vP (t:av H H') {p:Pt}(h:Is H (pt p) v):Is H' (pt p) v:=by
 obtain⟨a,rfl,ha⟩:=fA h;exact eW (t _ _ ha)
theorem pK {H H':Hp} (t:av H H'):∀{ps:Qt Pt}{vs:Qt V},Iss H (ps.map pt) vs->Iss H' (ps.map pt) vs
 |[],_,h=>by rw[bi h];exact ao
 |p::ps,_,h=>by
  obtain⟨u,us,rfl,h1,h2⟩:=aK h;exact ak (vP t h1) (pK t h2)
theorem cp (t:av H H') (h:Is H (pcD c) v):Is H' (pcD c) v:=by
 obtain⟨a,vs,rfl,ha,hi⟩:=bn h;exact bd (t _ _ ha) (pK t hi)
theorem dX {H H':Hp} (t:av H H'):∀{cs:Qt Pc}{vs:Qt V},Iss H (cs.map pcD) vs->Iss H' (cs.map pcD) vs
 |[],_,h=>by rw[bi h];exact ao
 |p::ps,_,h=>by
  obtain⟨u,us,rfl,h1,h2⟩:=aK h;exact ak (cp t h1) (dX t h2)
def ir (s:ae H0 H):av H (nw H0 H):=fun a xs e=>kB s e
theorem vQ {ps:Qt Pt}(s:ae H0 H) (n:H0 a=none) (h:Is H (pts ps) (.ref a)):Is (nw H0 H) (pts ps) (.ref a):=by
 obtain⟨_,vs,e,ha,hi⟩:=az h;cases e;exact aB (by rw[bY n];exact ha) (pK (ir s) hi)
theorem vR (s:ae H0 H) (n:H0 a=none) (h:Is H (bR cs) (.ref a)):Is (nw H0 H) (bR cs) (.ref a):=by
 obtain⟨_,vs,e,ha,hi⟩:=az h;cases e;exact aB (by rw[bY n];exact ha) (dX (ir s) hi)
theorem Ig (n:H1 a=none) (s:ae H1 H2):ae (nw H0 H1) (hid (nw H0 H2) a):=fun b o e=>by
 have hb:b≠a:=by rintro rfl;rw[bu _ _ e] at n;cases n
 rw[dC hb];exact e9 s b o e
theorem vS {ps es:Qt Pt}{s:Int} (h:okM n d ps s es=true):(bh n d ps s es).length<=100/\∀x∈bh n d ps s es,x.length<=100:=by
 cases n with
 |zero=>cases h
 |succ n=>
  unfold okM at h;simp only[AN,Av,AY] at h;exact⟨h.1.2,h.2⟩
theorem fh {ps:Qt Pt}(h:j<ps.length):atI (ps.map pt) (j:Int)=some (pt (ps.getD j zP)):=by
 refine fY (j:=j) rfl ?_;rw[AC,A2 h,A9,A2 h];rfl
theorem jr {ps:Qt Pt}(h:j<ps.length):ps.getD j zP∈ps:=by
 rw[A9,A2 h];exact Cj h
theorem vT {ps:Qt Pt} (h:psB ps=true):(∀p∈ps,-20<=p.1/\p.1<=20/\-20<=p.2/\p.2<=20)/\ps.length<=30:=by
 unfold psB inB at h;simp only[AN,Av,AY] at h;exact⟨fun p hp=>by have:=h.1 p hp;lia,h.2⟩
theorem vU {p:Nat->Bool}:∀{n i:Nat},i<n->(∀j<i,p j=false)->p i=true->(List.range n).find? p=some i
 |0,i,h,_,_=>absurd h (by lia)
 |n+1,i,h,hb,hp=>by
  rw[Ax,List.find?_append];by_cases e:i=n
  .subst e;have:(List.range i).find? p=none:=by
    rw[List.find?_eq_none];intro j hj;rw[hb j (Aa.mp hj)];decide
   rw[this];simp[hp]
  .rw [vU (n:=n) (by lia) hb hp];rfl
theorem Ih {p:Nat->Bool}(h:∀j<n,p j=false):(List.range n).find? p=none:=by
 rw[List.find?_eq_none];intro j hj;rw[h j (Aa.mp hj)];decide
theorem Ii {ps:Qt Pt}{s:Int}{p:Nat} (h:fg ps s=some p):1<=p/\p+1<ps.length:=by
 unfold fg at h;obtain⟨i,hi,rfl⟩:=AR.mp h;have:=Aa.mp (List.mem_of_find?_eq_some hi);lia
def wkP (p:Pt):Qt Int:=[p.1,p.2]
def wk (ps:Qt Pt):Qt (Qt Int):=ps.map wkP
theorem kW {a b:Qt Pt} (h:wk a=wk b):a=b:=by
 induction a generalizing b with
 |nil=>cases b with
  |nil=>rfl
  |cons=>cases h
 |cons p a ih=>cases b with
  |nil=>cases h
  |cons q b=>
   unfold wk at h;rw[AE,AE] at h;injection h with h1 h2;unfold wkP at h1;simp only[CC,and_true] at h1;rw[ih h2,Prod.ext h1.1 h1.2]
def abI (i:Int):Int:=if i<0 then -i else i
def pwF (c:Pc):Int:=if c.length=3 then abI (crn (c.getD 0 zP) (c.getD 1 zP) (c.getD 2 zP)) else 1
def cB:Qt Pc->Int
 |[]=>1
 |c::cs=>pwF c*cB cs
theorem vV:∀(a b:Qt Pc),cB (a++b)=cB a*cB b
 |[],b=>by simp[cB]
 |c::a,b=>by
  rw[DC,cB,cB,vV a b,Int.mul_assoc]
theorem Ij (c:Pc):cB [c]=pwF c:=by simp[cB]
theorem Ik (h:cs[i]? =some c):cB (cs.take (i+1))=cB (cs.take i)*pwF c:=by
 rw[AK,h,vV];show _*cB [c]=_;rw[Ij]
def pcB (c:Pc):Bool:=c.all inB&&(decide (c.length=3)||decide (c.length=4))
def jt (c:Pc):Prop:=(∀p∈c,inB p=true)/\(c.length=3\/c.length=4)
theorem Il (h:pcB c=true):jt c:=by
 unfold pcB at h;simp only[AN,C2,Av,AY] at h;exact h
def okP (d:Nat) (ps:Qt Pt):Bool:=okM 30 d ps (-1) (loE d)&&okM 30 d ps 1 (upE d)&&decide ((b9 d ps).length<64)
def iE:Int->Int->Bool
 | .ofNat m, .ofNat n=>Nat.beq m n
 | .negSucc m, .negSucc n=>Nat.beq m n
 |_,_=>false
theorem kX {a b:Int}:iE a b=true↔a=b:=by
 cases a<;>cases b<;>simp[iE]<;>lia
def pE (p q:Pt):Bool:=match iE p.1 q.1 with
 |true=>iE p.2 q.2
 |false=>false
theorem vW {p q:Pt}:pE p q=true↔p=q:=by
 unfold pE;constructor
 .intro h;split at h
  .next e=>exact Prod.ext (kX.mp e) (kX.mp h)
  .cases h
 .rintro rfl;rw[kX.mpr rfl];exact kX.mpr rfl
def cE:Pc->Pc->Bool
 |[],[]=>true
 |p::a,q::b=>match pE p q with
  |true=>cE a b
  |false=>false
 |_,_=>false
theorem fj:∀{a b:Pc},cE a b=true↔a=b
 |[],[]=>by simp[cE]
 |[],q::b=>by simp[cE]
 |p::a,[]=>by simp[cE]
 |p::a,q::b=>by
  unfold cE;constructor
  .intro h;split at h
   .next e=>rw[vW.mp e,fj.mp h]
   .cases h
  .intro h;injection h with h1 h2;rw[vW.mpr h1];exact fj.mpr h2
theorem pM (a b:Pc):cE a b=decide (a=b):=by
 by_cases h:a=b
 .rw [fj.mpr h];simp[h]
 .have:cE a b≠true:=fun z=>h (fj.mp z);simp[h,this]
def kY (p q:Pt):Pt:=if eZ q p=true then q else p
def kZ (p q:Pt):Pt:=if gtI q p=true then q else p
def eN:Pt->Qt Pt->Qt Pc
 |_,[]=>[]
 |a,p::ps=>[kY a p,kZ a p]::eN p ps
def aL (c:Pc):Qt Pc:=eN (c.getLastD zP) c
def bp:Qt (Pc×Pc)->Pc->Pc
 |[],_=>[]
 |x::R,k=>match cE x.1 k with
  |true=>x.2
  |false=>bp R k
def dr:Qt (Pc×Pc)->Pc->Bool
 |[],_=>false
 |x::R,k=>match cE x.1 k with
  |true=>true
  |false=>dr R k
def isS:Qt Pc->Pc->Bool
 |[],_=>false
 |x::R,k=>match cE x k with
  |true=>true
  |false=>isS R k
def bF:Qt Pc->Qt Pc->Qt Pc
 |D,[]=>D
 |D,x::xs=>bF (match isS D x with|true=>D|false=>D++[x]) xs
def cC (c:Pc):Qt (Pc×Pc):=if c.length=4 then [((aL c).getD 0 [],(aL c).getD 2 []),((aL c).getD 1 [],(aL c).getD 3 [])] else []
def du (S:Qt (Pc×Pc)) (kept left:Pc):Qt (Pc×Pc):=S.map fun y=>(y.1,match cE y.2 left with|true=>kept|false=>y.2)
def cb (S:Qt (Pc×Pc)) (ps:Qt (Pc×Pc)):Qt (Pc×Pc):=ps.foldl (fun S x=>du S (bp S x.1) (bp S x.2)) S
def bJ (xs:Qt Pc):Qt (Pc×Pc):=xs.map fun x=>(x,x)
def gq (cs:Qt Pc):Qt (Pc×Pc):=cb (bJ (bF [] (cs.flatMap aL))) (cs.flatMap cC)
def bo (cs:Qt Pc):Qt Pc:=cs.filter fun c=>decide (c.length=3)
def jo1 (T:Qt (Pc×Pc)) (c:Pc) (FJ:Qt (Pc×Pc)×Qt (Pc×Pc)) (s:Pc):Qt (Pc×Pc)×Qt (Pc×Pc):=
 match dr FJ.1 (bp T s) with
 |true=>(FJ.1,FJ.2++[(bp FJ.1 (bp T s),c)])
 |false=>(FJ.1++[(bp T s,c)],FJ.2)
def jo2 (T:Qt (Pc×Pc)) (FJ:Qt (Pc×Pc)×Qt (Pc×Pc)) (c:Pc):Qt (Pc×Pc)×Qt (Pc×Pc):=(aL c).foldl (jo1 T c) FJ
def joG (T:Qt (Pc×Pc)) (cs:Qt Pc):Qt (Pc×Pc)×Qt (Pc×Pc):=cs.foldl (jo2 T) ([],[])
def ju (cs:Qt Pc):Qt (Pc×Pc):=(joG (gq cs) (bo cs)).2
def pN (xs:Qt Pc) (ps:Qt (Pc×Pc)):Nat:=((cb (bJ xs) ps).filter fun y=>cE y.2 y.1).length
def k7 (cs:Qt Pc):Nat:=pN (bo cs) (ju cs)
def ndB:Qt Pc->Bool
 |[]=>true
 |x::xs=>match isS xs x with
  |true=>false
  |false=>ndB xs
def pO (cs:Qt Pc):Bool:=ndB (bo cs)&&decide (cs.length<=100)&&cs.all pcB
theorem jv {a b:Pc} (h:a≠b):cE a b=false:=by rw[pM];simp[h]
theorem pP {x:Pc×Pc}{R:Qt (Pc×Pc)}{k:Pc} (e:x.1=k):bp (x::R) k=x.2:=by
 show(match cE x.1 k with|true=>x.2|false=>bp R k)=_;rw[fj.mpr e]
theorem pQ {x:Pc×Pc}{R:Qt (Pc×Pc)}{k:Pc} (e:x.1≠k):bp (x::R) k=bp R k:=by
 show(match cE x.1 k with|true=>x.2|false=>bp R k)=_;rw[jv e]
theorem jw {k:Pc}:∀{S:Qt (Pc×Pc)},dr S k=true↔k∈S.map (·.1)
 |[]=>by simp[dr]
 |x::S=>by
  have ih:=jw (k:=k) (S:=S);show(match cE x.1 k with|true=>true|false=>dr S k)=true↔_;by_cases e:x.1=k
  .rw [fj.mpr e];simp[e]
  .rw [jv e,AE,AI];exact⟨fun h=> .inr (ih.mp h),fun h=>h.elim (fun z=>absurd z.symm e) ih.mpr⟩
theorem k9 {k:Pc}:∀{S:Qt Pc},isS S k=true↔k∈S
 |[]=>by simp[isS]
 |x::S=>by
  have ih:=k9 (k:=k) (S:=S);show(match cE x k with|true=>true|false=>isS S k)=true↔_;by_cases e:x=k
  .rw [fj.mpr e];simp[e]
  .rw [jv e,AI];exact⟨fun h=> .inr (ih.mp h),fun h=>h.elim (fun z=>absurd z.symm e) ih.mpr⟩
theorem vX:∀{xs:Qt Pc},ndB xs=true->xs.Nodup
 |[],_=>DQ
 |x::xs,h=>by
  have h:(match isS xs x with|true=>false|false=>ndB xs)=true:=h;cases e:isS xs x with
  |true=>rw[e] at h;cases h
  |false=>
   rw[e] at h;exact BI.mpr ⟨fun z=>(by rw[k9.mpr z] at e;cases e),vX h⟩
theorem pR {k p:Pc}{B:Qt (Pc×Pc)}:∀{A:Qt (Pc×Pc)},k∉A.map (·.1)->bp (A++(k,p)::B) k=p
 |[],_=>pP rfl
 |x::A,h=>by
  rw[DC,pQ (fun z=>h (by simp[z]))];exact pR fun z=>h (AQ _ z)
theorem vY (S:Qt (Pc×Pc)) (a b:Pc):(du S a b).map (·.1)=S.map (·.1):=by
 unfold du;rw[BA];rfl
theorem lg:∀(ps S:Qt (Pc×Pc)),(cb S ps).map (·.1)=S.map (·.1)
 |[],_=>rfl
 |x::ps,S=>by
  show(cb (du S _ _) ps).map (·.1)=_;rw[lg ps,vY]
theorem lh (xs:Qt Pc):(bJ xs).map (·.1)=xs:=by
 unfold bJ;rw[BA];exact List.map_id xs
theorem Im {ps:Qt (Pc×Pc)}{x:Pc×Pc}:cb S (ps++[x])=du (cb S ps) (bp (cb S ps) x.1) (bp (cb S ps) x.2):=by
 unfold cb;rw[Bi];rfl
theorem Io {a b:Pc} (h:S[j]? =some y):du (S.take (j+1)) a b++S.drop (j+1)=du (S.take j) a b++(y.1,match cE y.2 b with|true=>a|false=>y.2)::S.drop (j+1):=by
 rw[AK,h];unfold du;rw[A6,BP];rfl
theorem pT {α:Type}{S:Qt α}{y:α}(h:S[j]? =some y):S.drop j=y::S.drop (j+1):=by
 obtain⟨hj,e⟩:=A8.mp h;rw[Ai hj,e]
def dH (D:Qt Pc) (x:Pc):Qt Pc:=match isS D x with|true=>D|false=>D++[x]
theorem pU:∀(a b D:Qt Pc),bF D (a++b)=bF (bF D a) b
 |[],_,_=>rfl
 |x::a,b,D=>pU a b _
def Ip (D xs:Qt Pc) (x:Pc):bF D (xs++[x])=dH (bF D xs) x:=pU xs [x] D
theorem Iq {D:Qt Pc}{x y:Pc}:y∈dH D x↔y∈D\/y=x:=by
 unfold dH;cases e:isS D x with
 |true=>exact⟨.inl,fun h=>h.elim id fun z=>(by rw[z];exact k9.mp e)⟩
 |false=>simp
theorem Ir {D:Qt Pc}{x:Pc} (h:D.Nodup):(dH D x).Nodup:=by
 unfold dH;cases e:isS D x with
 |true=>exact h
 |false=>
  refine D5.mpr ⟨h,by simp,fun a ha b hb z=> ?_⟩;rw[Ab.mp hb] at z;rw[z] at ha;rw[k9.mpr ha] at e;cases e
theorem lm {y:Pc}:∀{xs D:Qt Pc},y∈bF D xs↔y∈D\/y∈xs
 |[],D=>by simp[bF]
 |x::xs,D=>by
  show y∈bF (dH D x) xs↔_;rw[lm,Iq,AI,or_assoc]
theorem vZ:∀{xs D:Qt Pc},D.Nodup->(bF D xs).Nodup
 |[],D,h=>h
 |x::xs,D,h=>vZ (xs:=xs) (D:=dH D x) (Ir h)
theorem Iu (D:Qt Pc) (x:Pc):(dH D x).length<=D.length+1:=by
 unfold dH;cases isS D x<;>simp
theorem lp:∀(xs D:Qt Pc),(bF D xs).length<=D.length+xs.length
 |[],D=>A' _
 |x::xs,D=>by
  have h1:(bF D (x::xs)).length<=_:=lp xs (dH D x);have h2:=Iu D x;simp only[AT];lia
theorem pV:∀(c:Qt Pt) (a:Pt),(eN a c).length=c.length
 |[],_=>rfl
 |p::c,a=>by
  show(eN p c).length+1=c.length+1;rw[pV c p]
def jx (c:Pc):(aL c).length=c.length:=pV c _
theorem v0 (h:∀c∈cs,jt c):(cs.flatMap aL).length<=4*cs.length:=by
 induction cs with
 |nil=>exact A' _
 |cons c cs ih=>
  have:=ih fun c hc=>h c (AQ _ hc);have h2:=(h c AW).2;rw[BV,AA,jx,AT];lia
theorem Iv :(cs.flatMap cC).length<=2*cs.length:=by
 induction cs with
 |nil=>exact A' _
 |cons c cs ih=>
  rw[BV,AA,AT];have:(cC c).length<=2:=by unfold cC;split<;>simp
  lia
theorem Iw {x:Pc×Pc} (h:x∈cC c):x.1∈aL c/\x.2∈aL c:=by
 unfold cC at h;split at h
 .next e=>
  have l:=jx c;have gm:∀i,i<4->(aL c).getD i []∈aL c:=fun i hi=>by
   rw[A9,A2 (by lia)];exact Cj _
  simp only[AI,As,Bu] at h;rcases h with rfl|rfl
  .exact⟨gm 0 (by lia),gm 2 (by lia)⟩
  .exact⟨gm 1 (by lia),gm 3 (by lia)⟩
 .cases h
theorem Ix (cs:Qt Pc):(gq cs).map (·.1)=bF [] (cs.flatMap aL):=by
 unfold gq;rw[lg,lh]
theorem Iy {s:Pc} (hc:c∈cs) (hs:s∈aL c):s∈(gq cs).map (·.1):=by
 rw[Ix];exact lm.mpr (.inr (B'.mpr ⟨c,hc,hs⟩))
theorem Iz (T:Qt (Pc×Pc)) (c:Pc) (FJ:Qt (Pc×Pc)×Qt (Pc×Pc)) (s:Pc):(jo1 T c FJ s).1.length+(jo1 T c FJ s).2.length=FJ.1.length+FJ.2.length+1:=by
 unfold jo1;cases dr FJ.1 (bp T s)<;>simp<;>lia
def iu (C:Qt Pc) (FJ:Qt (Pc×Pc)×Qt (Pc×Pc)):Prop:=(∀x∈FJ.1,x.2∈C)/\∀x∈FJ.2,x.1∈C/\x.2∈C
theorem IA {k:Pc} (h:k∈S.map (·.1)):(k,bp S k)∈S:=by
 induction S with
 |nil=>cases h
 |cons x S ih=>
  by_cases e:x.1=k
  .rw [pP e,<-e];exact AW
  .rw [pQ e];refine AQ _ (ih ?_);rw[AE] at h;exact(AI.mp h).elim (fun z=>absurd z.symm e) id
theorem IB {C:Qt Pc}{T:Qt (Pc×Pc)}{FJ:Qt (Pc×Pc)×Qt (Pc×Pc)} (s:Pc) (hc:c∈C) (h:iu C FJ):iu C (jo1 T c FJ s):=by
 unfold jo1;cases e:dr FJ.1 (bp T s) with
 |true=>
  refine⟨h.1,fun x hx=> ?_⟩;rcases BM.mp hx with hx|hx
  .exact h.2 x hx
  .rw [Ab.mp hx];exact⟨h.1 _ (IA (jw.mp e)),hc⟩
 |false=>
  refine⟨fun x hx=> ?_,h.2⟩;rcases BM.mp hx with hx|hx
  .exact h.1 x hx
  .rw [Ab.mp hx];exact hc
theorem v9 {C:Qt Pc}{T:Qt (Pc×Pc)}{c:Pc} (hc:c∈C):∀(ss:Qt Pc) (FJ:Qt (Pc×Pc)×Qt (Pc×Pc)),iu C FJ->iu C (ss.foldl (jo1 T c) FJ)
 |[],_,h=>h
 |s::ss,FJ,h=>v9 hc ss _ (IB s hc h)
theorem wb {C:Qt Pc}{T:Qt (Pc×Pc)}:∀(cs:Qt Pc) (FJ:Qt (Pc×Pc)×Qt (Pc×Pc)),(∀c∈cs,c∈C)->iu C FJ->iu C (cs.foldl (jo2 T) FJ)
 |[],_,_,h=>h
 |c::cs,FJ,hc,h=>wb cs _ (fun x hx=>hc x (AQ _ hx)) (v9 (hc c AW) _ _ h)
def IC (cs:Qt Pc):∀x∈ju cs,x.1∈bo cs/\x.2∈bo cs:=
 (wb (C:=bo cs) (T:=gq cs) (bo cs) ([],[]) (fun _ h=>h) ⟨fun _ h=>(nomatch h),fun _ h=>(nomatch h)⟩).2
theorem pW (T:Qt (Pc×Pc)) (c:Pc):∀(ss:Qt Pc) (FJ:Qt (Pc×Pc)×Qt (Pc×Pc)),(ss.foldl (jo1 T c) FJ).1.length+(ss.foldl (jo1 T c) FJ).2.length=FJ.1.length+FJ.2.length+ss.length
 |[],_=>rfl
 |s::ss,FJ=>by
  rw[Cs,pW T c ss,Iz,AT];lia
theorem wd (T:Qt (Pc×Pc)):∀(cs:Qt Pc) (FJ:Qt (Pc×Pc)×Qt (Pc×Pc)),(∀c∈cs,c.length<=4)->(cs.foldl (jo2 T) FJ).1.length+(cs.foldl (jo2 T) FJ).2.length<=FJ.1.length+FJ.2.length+4*cs.length
 |[],_,_=>A' _
 |c::cs,FJ,h=>by
  have h1:=wd T cs (jo2 T FJ c) fun x hx=>h x (AQ _ hx);have h2:(jo2 T FJ c).1.length+(jo2 T FJ c).2.length=_:=pW T c (aL c) FJ;have h3:=h c AW;rw[jx] at h2;rw[Cs,AT];lia
theorem we (h:c∈bo cs):c∈cs/\c.length=3:=by
 unfold bo at h;have:=Cr.mp h;exact⟨this.1,by simpa using this.2⟩
def pX (cs:Qt Pc):(bo cs).length<=cs.length:=Bl _ _
theorem wg (h:cs[i]? =some c):bo (cs.take (i+1))=bo (cs.take i)++if c.length=3 then [c] else []:=by
 unfold bo;rw[AK,h,Ba];simp[By]
def Cut (cs:Qt Pc):Prop:=(∀c∈cs,jt c)/\cs.length<=100/\(bo cs).Nodup
theorem wj {α:Type} [DecidableEq α]:∀{l L:Qt α},l.Nodup->(∀x∈l,x∈L)->l.length<=L.length
 |[],L,_,_=>AL _
 |x::r,L,nd,h=>by
  rw[BI] at nd;have hx:x∈L:=h x AW;have:=wj (L:=L.erase x) nd.2 fun y hy=>(List.mem_erase_of_ne fun e:y=x=>nd.1 (e▸hy)).mpr (h y (AQ _ hy));rw[List.length_erase_of_mem hx] at this;have:=List.length_pos_of_mem hx;rw[AT];lia
def gr (cs:Qt Pc):Int:=if k7 cs=1 then cB cs else 0
def lq (d:Nat) (w:Qt Pt):Int:=((b9 d w).map gr).sum
def dw (d:Nat) (L:Qt (Qt Pt)):Int:=(L.map (lq d)).sum
theorem pY {α:Type} (f:α->Int) {L M:Qt α} (h:L.Perm M):(L.map f).sum=(M.map f).sum:=by
 induction h with
 |nil=>rfl
 |cons x _ ih=>rw[AE,AE,Aw,Aw,ih]
 |swap x y l=>simp only[AE,Aw];lia
 |trans _ _ i1 i2=>rw[i1,i2]
theorem wn {α:Type} (f:α->Int) {L:Qt α}{c:α}(h:L[i]? =some c):((L.take (i+1)).map f).sum=((L.take i).map f).sum+f c:=by
 rw[AK,h,A6,CA];simp
def NoH (d k:Nat):Prop:=(d=1/\k=0)\/(d=2/\k=0)\/(d=3/\k=1)\/(d=4/\k=3)
def mkD (d:Nat) (x:Qt Lf):Qt (Qt Int):=(x++fc d (bC d x)).map bX
def mkB (d:Nat) (x:Qt Lf):Bool:=((x++fc d (bC d x)).all fun m=>decide (1<=m.1)&&decide (m.1<m.2.1)&&decide (m.2.1<=(d:Int)+1))&&decide ((x++fc d (bC d x)).length<=15)&&ssB (mkD d x)
def f56 (d k:Nat):Bool:=okB d k&&(cO d k).all (fun x=>jk d x&&mkB d x)&&decide ((cO d k).length<64)
theorem ID:f56 1 0=true:=by ac_nf
theorem IE:f56 2 0=true:=by ac_nf
theorem IF:f56 3 1=true:=by ac_nf
theorem IG:f56 4 3=true:=by ac_nf
theorem IH {k:Nat} (h:NoH d k):okB d k=true/\(∀x∈cO d k,jk d x=true/\mkB d x=true)/\(cO d k).length<64:=by
 have a:f56 d k=true:=by
  rcases h with⟨rfl,rfl⟩|⟨rfl,rfl⟩|⟨rfl,rfl⟩|⟨rfl,rfl⟩
  .exact ID
  .exact IE
  .exact IF
  .exact IG
 unfold f56 at a;simp only[AN,Av,AY] at a;exact⟨a.1.1,a.1.2,a.2⟩
def gs (d k:Nat):Int:=(((cO d k).filter (isW d)).map (kJ d)).sum
def g56 (d k:Nat):Bool:=decide ((bv d k).length<64)&&(bv d k).all fun w=>okP d w&&(b9 d w).all pO
theorem II:g56 1 0=true:=by ac_nf
theorem IJ:g56 2 0=true:=by ac_nf
theorem IL:g56 3 1=true:=by ac_nf
theorem IM (h:pO cs=true):Cut cs:=by
 unfold pO at h;simp only[AN,Av,AY] at h;obtain⟨⟨a1,a2⟩,a3⟩:=h;exact⟨fun c hc=>Il (a3 c hc),a2,vX a1⟩
theorem IN {k:Nat} (h:NoH d k) (h3:d≠4):(bv d k).length<64/\∀w∈bv d k,okP d w=true/\∀cs∈b9 d w,Cut cs:=by
 have a:g56 d k=true:=by
  rcases h with⟨rfl,rfl⟩|⟨rfl,rfl⟩|⟨rfl,rfl⟩|⟨rfl,rfl⟩
  .exact II
  .exact IJ
  .exact IL
  .exact absurd rfl h3
 unfold g56 at a;simp only[AN,Av,AY] at a;exact⟨a.1,fun w hw=>⟨(a.2 w hw).1,fun cs hc=>IM ((a.2 w hw).2 cs hc)⟩⟩
theorem pZ:gs 1 0=wh 1/\fJ 1 0=wh 1/\dw 1 (bv 1 0)=wh 1:=by ac_nf
theorem p6:gs 2 0=wh 2/\fJ 2 0=wh 2/\dw 2 (bv 2 0)=wh 2:=by ac_nf
theorem p7:gs 3 1=wh 3/\fJ 3 1=wh 3/\dw 3 (bv 3 1)=wh 3:=by ac_nf
theorem wo:gs 4 3=wh 4/\fJ 4 3=wh 4:=by ac_nf
theorem v56 {k:Nat} (h:NoH d k):gs d k=wh d/\fJ d k=wh d/\(d≠4->dw d (bv d k)=wh d):=by
 rcases h with⟨rfl,rfl⟩|⟨rfl,rfl⟩|⟨rfl,rfl⟩|⟨rfl,rfl⟩
 .exact⟨pZ.1,pZ.2.1,fun _=>pZ.2.2⟩
 .exact⟨p6.1,p6.2.1,fun _=>p6.2.2⟩
 .exact⟨p7.1,p7.2.1,fun _=>p7.2.2⟩
 .exact⟨wo.1,wo.2,fun h=>absurd rfl h⟩
section
variable {κ:Type} [DecidableEq κ]
def tK (R:Qt (κ×Int)):Qt (κ×V):=R.map fun x=>(x.1,V.int x.2)
def eO:Qt (κ×Int)->κ->Int
 |[],_=>0
 |(a,b)::r,k=>if a=k then b else eO r k
def cD:Qt (κ×Int)->κ->Int->Qt (κ×Int)
 |[],k,v=>[(k,v)]
 |(a,b)::r,k,v=>if a=k then(a,v)::r else(a,b)::cD r k v
theorem IP (R:Qt (κ×Int)):(tK R).length=R.length:=by unfold tK;rw[A1]
theorem lr (k:κ):∀R:Qt (κ×Int),aJ (tK R) k=if k∈R.map (·.1) then some (.int (eO R k)) else none
 |[]=>rfl
 |(a,b)::r=>by
  have ih:=lr k r;show aJ ((a,V.int b)::tK r) k=_;by_cases e:a=k
  .subst e;rw[c9 rfl];simp[eO]
  .rw [cR e,ih];have:¬k=a:=fun z=>e z.symm;show _=if k∈a::r.map (·.1) then some (V.int (if a=k then b else eO r k)) else none
   rw[A5 e];by_cases h:k∈r.map (·.1)
   .rw [A7 h,A7 (AQ _ h)]
   .rw [A5 h,A5 fun z=>(AI.mp z).elim this h]
theorem wu (k:κ) (v:Int):∀R:Qt (κ×Int),(cD R k v).map (·.1)=if k∈R.map (·.1) then R.map (·.1) else R.map (·.1)++[k]
 |[]=>by simp[cD]
 |(a,b)::r=>by
  have ih:=wu k v r;unfold cD;by_cases e:a=k
  .subst e;simp
  .rw [A5 e,AE,ih];have:¬k=a:=fun z=>e z.symm;show _=if k∈a::r.map (·.1) then a::r.map (·.1) else a::r.map (·.1)++[k]
   by_cases h:k∈r.map (·.1)
   .rw [A7 h,A7 (AQ _ h)]
   .rw [A5 h,A5 fun z=>(AI.mp z).elim this h];rfl
theorem IQ {k:κ}{v:Int}{R:Qt (κ×Int)} (h:(R.map (·.1)).Nodup):((cD R k v).map (·.1)).Nodup:=by
 rw[wu];by_cases e:k∈R.map (·.1)
 .rw [A7 e];exact h
 .rw [A5 e];refine D5.mpr ⟨h,by simp,fun a ha b hb z=> ?_⟩;rw[Ab.mp hb] at z;exact e (z▸ha)
theorem ww {k:κ}{v:Int}:∀{R:Qt (κ×Int)}{x:κ×Int},x∈cD R k v->x∈R\/x=(k,v)
 |[],x,h=> .inr (Ab.mp h)
 |(a,b)::r,x,h=>by
  unfold cD at h;by_cases e:a=k
  .rw [A7 e] at h;rcases AI.mp h with h|h
   .exact .inr (by rw[h,e])
   .exact .inl (AQ _ h)
  .rw [A5 e] at h;rcases AI.mp h with h|h
   .exact .inl (by rw[h];exact AW)
   .exact(ww h).imp (AQ _) id
theorem wx {k:κ}{v:Int}:∀{R:Qt (κ×Int)},(R.map (·.1)).Nodup->aR (tK R) k (.int v)=tK (cD R k v)
 |[],_=>rfl
 |(a,b)::r,nd=>by
  rw[AE,BI] at nd;have ih:=wx (k:=k) (v:=v) nd.2;unfold aR at ih⊢;show(if(((a,V.int b)::tK r).any fun kv=>decide (kv.1=k))=true then _ else _)=_;rw[List.any_cons];by_cases e:a=k
  .subst e;rw[At rfl,Bool.true_or,A7 rfl];unfold cD;rw[A7 rfl];show((a,V.int b)::tK r).map _=(a,V.int v)::tK r;rw[AE,A7 rfl];congr 1
   conv=>rhs;rw[<-List.map_id (tK r)]
   refine Aq fun x hx=> ?_;obtain⟨y,hy,rfl⟩:=Ak.mp hx;rw[A5 fun z=>nd.1 (Ak.mpr ⟨y,hy,z⟩)];rfl
  .rw [Ae e,Bool.false_or];unfold cD;rw[A5 e];show _=(a,V.int b)::tK (cD r k v);rw[<-ih];by_cases c:((tK r).any fun kv=>decide (kv.1=k))=true
   .rw [A7 c,A7 c];show((a,V.int b)::tK r).map _=_;rw[AE,A5 e]
   .rw [A5 c,A5 c];rfl
end
def But (b:Qo) (H H':Hp):Prop:=∀c o,H c=some o->c≠b->H' c=some o
theorem IR (h0:0<z) (h1:z<=10^60):z≠0/\z.natAbs<2^512:=by
 have:(10:Nat)^60<2^512:=by decide
 constructor<;>lia
def But.of_same {b:Qo}(s:ae H H'):But b H H':=fun c o e _=>s _ _ e
def But.trans {b:Qo}(s:But b H H') (t:But b H' H''):But b H H'':=fun c o e n=>t c o (s c o e n) n
theorem But.upd {b:Qo}{H:Hp}{o:HO}:But b H (L2.upd H b o):=fun c u e n=>by rw[ar n];exact e
theorem But.same {b:Qo}(s:ae H H1) (nb:H b=none) (t:But b H1 H2):ae H H2:=fun c o e=>t c o (s c o e) (by rintro rfl;rw[nb] at e;cases e)
theorem p8 {k:Nat}:cc vs none (some (k:Int))=vs.take k:=by
 unfold cc;rw[HT.sIx_nat,HT.sIx_none,C7,Nat.sub_zero];exact List.take_eq_take_iff.mpr (by lia)
inductive spCell (K:W.Frag) (vs:List V) (H:Hp) (Q:VK) (E':XK):Prop
 |mk (a:Addr) (ns:List Int) (k:Int):vs=[.ref a, .int k]->SqL K H a (ns.map V.int)->0<=k->(∀z,Q (.int z) H)->spCell K vs H Q E'
inductive sp_law (K:W.Frag) (vs:List V) (H:Hp) (Q:VK) (E':XK):Prop
 |mk (a:Addr) (ns:List Int):vs=[.ref a]->SqL K H a (ns.map V.int)->ns.length<=63->(∀H',Q (.bl true) H')->sp_law K vs H Q E'
theorem p9 {ws:Qt Int}(hw:∀i:Nat,i<d->ws[i]? =some (wh i)) (h0:0<=z) (h1:z<d):atI (ws.map V.int) z=some (.int (wh z)):=by
 obtain⟨n,rfl⟩:=CO h0;exact fY (j:=n) rfl (by rw[AC,hw n (by lia)];rfl)
inductive spSpl (K:W.Frag) (vs:List V) (H:Hp) (Q:VK) (E':XK):Prop
 |mk (a:Addr) (d:Nat) (ws:List Int):vs=[.int d, .ref a]->SqL K H a (ws.map V.int)->2<=d->d<=8->ws.length=d->((∀i:Nat,i<d->ws[i]? =some (wh i)))->Q (.int (wh d)) H->spSpl K vs H Q E'
inductive spGreat (vs:List V) (H:Hp) (Q:VK) (E':XK):Prop
 |mk (x:Int):vs=[.int x]->(∀z,0<=z->Q (.int z) H)->spGreat vs H Q E'
inductive spDig (vs:List V) (H:Hp) (Q:VK) (E':XK):Prop
 |mk (b:Addr) (m z:Int):vs=[.ref b, .int m]->H b=some (.lst [.int z])->0<=z->0<m->m<=10^60->(∀y z',0<=y->y<m->0<=z'->Q (.int y) (upd H b (.lst [.int z'])))->spDig vs H Q E'
def stD (x:Qt Lf×Int):D:= .t [lfs x.1, .i x.2]
def Lok (p:Lf):Prop:=0<=p.2.1-p.1/\p.2.1-p.1<=10/\1<=p.2.2/\p.2.2<=20
inductive spBetQ (vs:List V) (H:Hp) (Q:VK) (E':XK):Prop
 |mk (i lo hi:Int):vs=[.int i, .int lo, .int hi]->lo<=i->i<=hi->Q .non H->spBetQ vs H Q E'
inductive spDegQ (vs:List V) (H:Hp) (Q:VK) (E':XK):Prop
 |mk (i:Int):vs=[.int i]->1<=i->i<=5->Q .non H->spDegQ vs H Q E'
inductive spWidQ (vs:List V) (H:Hp) (Q:VK) (E':XK):Prop
 |mk (d k:Nat):vs=[.int d, .int k]->Wide d k->Q .non H->spWidQ vs H Q E'
inductive spEndQ (vs:List V) (H:Hp) (Q:VK) (E':XK):Prop
 |mk (n:Nat) (dv:V) (ps:List Lf):vs=[.int n,dv]->1<=n->n<=5->Is H (lfs ps) dv->((∀p∈ps,Okl n p))->(∀l H',ae H H'->H l=none->H' l=some (.lst ((bC n ps).map V.int))->Q (.ref l) H')->spEndQ vs H Q E'
inductive spLost (vs:List V) (H:Hp) (Q:VK) (E':XK):Prop
 |mk (v:V) (p:Lf):vs=[v]->Is H (lf p) v->Lok p->Q (.int (ce p)) H->spLost vs H Q E'
inductive spLfr (vs:List V) (H:Hp) (Q:VK) (E':XK):Prop
 |mk (d f n:Nat) (sp:Int):vs=[.int d, .int f, .int n, .int sp]->f<=d->d<=5->n<=20->(∀l H',ae H H'->H l=none->Is H' (lfs (dj f (d-f) n sp)) (.ref l)->Q (.ref l) H')->spLfr vs H Q E'
inductive spLeav (n:Nat) (E':W.Frag) (vs:List V) (H:Hp) (Q:VK) (E2:XK):Prop
 |mk (v:V) (ls:List Lf) (wt sp:Int):vs=[v, .int wt, .int sp]->Is H (lfs ls) v->((∀p∈ls,Lok p))->0<=wt->wt<n->(cy n ls wt sp).length<=1000->ls.length<=200->n<=100->(∀l H',ae H H'->H l=none->Is (nw H H') (.l ((cy n ls wt sp).map lfs)) (.ref l)->Q (.ref l) H')->spLeav n E' vs H Q E2
inductive spWith (vs:List V) (H:Hp) (Q:VK) (E':XK):Prop
 |mk (d f:Nat) (v:V) (x:List Lf×Int):vs=[.int d, .int ((f+1:Nat):Int),v, .int x.2]->f<d->d<=5->Is H (lfs x.1) v->stB d f x=true->(∀l H',ae H H'->H l=none->Is (nw H H') (.l ((dQ d (f+1) x.1 x.2).map stD)) (.ref l)->Q (.ref l) H')->spWith vs H Q E'
theorem IS {n:String}:W.kitOne K (.type n) (.type n)=some true:=by
 unfold W.kitOne;simp
theorem wy {H:Hp}{Wq:Qt (Qt Lf)}{vs:Qt V} (h:Iss H (Wq.map lfs) vs):∀(l:Qt Nat),(∀i∈l,i<Wq.length)->Iss H ((l.map fun i=>Wq.getD i []).map lfs) (l.map fun i=>vs.getD i .non)
 |[],_=>ao
 |i::l,hl=>by
  have hi:i<Wq.length:=hl i (by simp);have hr:i<vs.length:=by rw[h.length,A1];exact hi
  refine ak ?_ (wy h l fun j hj=>hl j (by simp[hj]));obtain⟨d,hd,h1⟩:=h.of_get (A2 hr);rw[AC,A2 hi] at hd;cases hd;show Is H (lfs (Wq.getD i [])) (vs.getD i .non);rw[A9,A9,A2 hi,A2 hr];exact h1
theorem wz {x:Qt Lf×Int}(h:Is H (stD x) v):∃t u,v= .ref t/\H t=some (.tup [u, .int x.2])/\Is H (lfs x.1) u:=by
 obtain⟨t,vs,rfl,ht,hi⟩:=bn h;obtain⟨u,us,rfl,h1,h2⟩:=aK hi;obtain⟨u2,us2,rfl,h3,h4⟩:=aK h2;rw[aE h3,bi h4] at ht;exact⟨t,u,rfl,ht,h1⟩
theorem IT :∀x∈ps.map bX,x.length=3:=fun x hx=>by
 obtain⟨p,_,rfl⟩:=Ak.mp hx;rfl
theorem IU (h1:1<=d) (h5:d<=5):(d:Int)*((d:Int)-1)/2=((d*(d-1)/2:Nat):Int):=by
 have:d=1\/d=2\/d=3\/d=4\/d=5:=by lia
 rcases this with rfl|rfl|rfl|rfl|rfl<;>rfl
theorem lu (k:But a H H'):ae (hid H a) H':=fun b o e=>by
 have hb:b≠a:=by rintro rfl;rw[Db] at e;cases e
 rw[dC hb] at e;exact k _ _ e hb
theorem lw (h:i<=vs.length):cc vs (some (i:Int)) none=vs.drop i:=by
 unfold cc;rw[HT.sIx_nat,HT.sIx_none,Nat.min_eq_left h,D4 (by simp)]
def Snd.good (h:Snd d ps):gR d ps:=⟨h.ok,h.nn⟩
theorem Snd.okl {d:Nat}{ps:Qt Lf} (h:Snd d ps):∀p∈ps,Okl d p:=h.good.okl
def IV {ns:Qt Int} (h:∀i:Nat,0<=ns.getD i 0):0<=iV ns:=h _
theorem Snd.ends (h:Snd d ps) (i:Nat):0<=(bC d ps).getD i 0:=by
 rcases Bo i d with c|c
 .rw [G1 h.okl c];exact h.nn i c
 .rw [A9,C' (by rw[kx d ps h.okl];exact c)];exact DH _
inductive spSou (vs:List V) (H:Hp) (Q:VK) (E':XK):Prop
 |mk (n:Nat) (dv:V) (ps:List Lf):vs=[.int n,dv]->1<=n->n<=5->Is H (lfs ps) dv->Snd n ps->(∀H',ae H H'->Q (.bl true) H')->spSou vs H Q E'
inductive spNeS (vs:List V) (H:Hp) (Q:VK) (E':XK):Prop
 |mk (n:Nat) (dv:V) (ps:List Lf):vs=[.int n,dv]->1<=n->n<=5->Is H (lfs ps) dv->Snd n ps->(∀H',ae H H'->Q .non H')->spNeS vs H Q E'
inductive spEnM (vs:List V) (H:Hp) (Q:VK) (E':XK):Prop
 |mk (n:Nat) (dv:V) (ps:List Lf):vs=[.int n,dv]->1<=n->n<=5->Is H (lfs ps) dv->Snd n ps->(fc n (bC n ps)).length<=20->(∀l H',ae H H'->H l=none->Is H' (lfs (fc n (bC n ps))) (.ref l)->Q (.ref l) H')->spEnM vs H Q E'
theorem wA {l:Qo}{xs:Qt V}{qs:Qt Lf}(s:ae H H') (hl:H l=some (.lst xs)) (h:Iss H (qs.map lf) vs):Iss (upd H' l o) (qs.map lf) vs:=
 kA (fun a ys e=>by rw[ar (by rintro rfl;rw[hl] at e;cases e)];exact s _ _ e) h
theorem IW {q:Lf}(h:Is H (lf p) v) (k:Is H (lf q) v):p=q:=by
 obtain⟨a,rfl,ha⟩:=fE h;obtain⟨b,e,hb⟩:=fE k;cases e;rw[ha] at hb;obtain⟨a1,a2,a3⟩:=p;obtain⟨b1,b2,b3⟩:=q;simp at hb;simp[hb]
theorem IX {wt:Qt Lf}{m:Lf}(h:Iss H (wt.map lf) OG) (k:Is H (lf m) v):DZ K H 1 OG v (fun j=>decide (wt.getD j (0,0,0)=m)):=by
 have bN:∀(j:Nat) z,OG[j]? =some z->Is H (lf (wt.getD j (0,0,0))) z:=fun j z hz=>by
  obtain⟨d',LU,h1⟩:=aH h hz;rw[List.getD,LU];exact h1
 refine⟨by decide,fun j z hz=>⟨?_,uG (bN j z hz) k⟩,fun i j z hi hj=> ?_⟩
 .obtain⟨a,e,_⟩:=fE (bN j z hz);exact⟨a,e⟩
 .show decide (wt.getD i (0,0,0)=m)=decide (wt.getD j (0,0,0)=m);rw[IW (bN i z hi) (bN j z hj)]
def ti (t:Qt Int):D:=tI t
inductive spCho (vs:List V) (H:Hp) (Q:VK) (E':XK):Prop
 |mk (n:Int) (k:Nat):vs=[.int n, .int k]->(k:Int)<=n->n<=15->Q (.int (chF n k)) H->spCho vs H Q E'
inductive spWm (vs:List V) (H:Hp) (Q:VK) (E':XK):Prop
 |mk (v:V) (t:List Int) (p:Nat) (m:Int):vs=[v, .int p, .int m]->Is H (tI t) v->p<t.length->t.length<=5->(∀u H',ae H H'->Is H' (tI (wmF t p m)) u->Q u H')->spWm vs H Q E'
def IY (t:Qt Int) (a:Nat):Prop:=t.length<=5/\(∀i:Nat,0<=t.getD i 0)/\t.sum+(a:Int)<=15
inductive spPB (n:Nat) (E':W.Frag) (vs:List V) (H:Hp) (Q:VK) (E2:XK):Prop
 |mk (v:V) (t:List Int) (p g a:Nat):vs=[v, .int p, .int ((p:Int)+(g:Int)), .int a]->Is H (tI t) v->g<n->n<=6->p+g<t.length->IY t a->(∀l H',ae H H'->H l=none->Is H' (.l ((pbF g t p a).map prD)) (.ref l)->Q (.ref l) H')->spPB n E' vs H Q E2
def wB (d:Nat) (mk:Qt Lf):Prop:=(∀m∈mk,1<=m.1/\m.1<m.2.1/\m.2.1<=(d:Int)+1)/\mk.length<=15
inductive spHMO (vs:List V) (H:Hp) (Q:VK) (E':XK):Prop
 |mk (d:Nat) (v:V) (mk:List Lf):vs=[.int d,v]->1<=d->d<=5->Is H (lfs mk) v->wB d mk->ssB (mk.map bX)=true->(∀H',ae H H'->Q (.int (hmF d mk)) H')->spHMO vs H Q E'
theorem IZ {x:Qt Lf} (h:mkB d x=true):wB d (x++fc d (bC d x))/\ssB (mkD d x)=true:=by
 unfold mkB at h;simp only[AN,Av,AY] at h;exact⟨⟨fun m hm=>⟨(h.1.1 m hm).1.1,(h.1.1 m hm).1.2,(h.1.1 m hm).2⟩,h.1.2⟩,h.2⟩
inductive spHM (vs:List V) (H:Hp) (Q:VK) (E':XK):Prop
 |mk (d:Nat) (v:V) (ps:List Lf):vs=[.int d,v]->1<=d->d<=5->Is H (lfs ps) v->Snd d ps->mkB d ps=true->(∀H',ae H H'->Q (.int (hmF d (ps++fc d (bC d ps)))) H')->spHM vs H Q E'
theorem I0 {t:Qt Int}{p:Nat} (H':Hp) (vs:Qt V) (h:Iss H' (t.map .i) vs):Iss H' ((t.take p).map .i) (cc vs none (some (p:Int))):=by
 rw[p8,List.map_take];exact h.take p
theorem I8 {t:Qt Int}{p:Nat} (hp:p<=t.length) (H':Hp) (vs:Qt V) (h:Iss H' (t.map .i) vs):Iss H' ((t.drop p).map .i) (cc vs (some (p:Int)) none):=by
 rw[lw (by rw[h.length,A1];exact hp),List.map_drop];exact h.drop p
theorem wC:∀{g:Nat}{t:Qt Int}{p a:Nat},(pbF g t p a).length<=(a+1)^g
 |0,t,p,a=>by simp[pbF]
 |g+1,t,p,a=>by
  have go:∀n,n<=a+1->((List.range n).flatMap fun h:Nat=>(pbF g (wmF t p (h:Int)) (p+1) (a-h)).map fun x=>(x.1,chF (t.getD p 0+(h:Int)) h*x.2)).length<=n*(a+1)^g:=by
   intro n hn;induction n with
   |zero=>simp
   |succ n ih=>
    rw[gj,AA,A1];have h1:=ih (by lia);have h2:=wC (g:=g) (t:=wmF t p (n:Int)) (p:=p+1) (a:=a-n);have h3:(a-n+1)^g<=(a+1)^g:=Nat.pow_le_pow_left (by lia) g;rw[Ci];lia
  have:=go (a+1) (A' _);rw[Nat.pow_succ,Nat.mul_comm];exact this
theorem I9 {t:Qt Int}{p a:Nat} (hg:g<=5) (ha:a<=15):(pbF g t p a).length<=1048576:=by
 have h1:=wC (g:=g) (t:=t) (p:=p) (a:=a);have h2:(a+1)^g<=16^g:=Nat.pow_le_pow_left (by lia) g;have h3:16^g<=16^5:=CG (by decide) hg;lia
theorem lx (h:n<=1048576):n<sizeLine:=by rw[Ay];lia
def qc {t:Qo}{u:V} (h:H t=some (.tup [u, .int x.2])) (k:Is H (tI x.1) u):Is H (prD x) (.ref t):=bd h (ak k (ak bq ao))
theorem qe (h:Is H (prD x) v):∃t u,v= .ref t/\H t=some (.tup [u, .int x.2])/\Is H (tI x.1) u:=by
 obtain⟨t,vs,rfl,ht,hi⟩:=bn h;obtain⟨u1,us,rfl,LA,hi⟩:=aK hi;obtain⟨u2,us,rfl,Me,hi⟩:=aK hi;rw[bi hi,aE Me] at ht;exact⟨t,u1,rfl,ht,LA⟩
theorem Ja (s:av H H') {t:Qt Int}(h:Is H (tI t) v):Is H' (tI t) v:=by
 obtain⟨a,rfl,ha⟩:=bO h;exact eX (s _ _ ha)
theorem lz (s:av H H') (h:Is H (prD x) v):Is H' (prD x) v:=by
 obtain⟨a,u,rfl,ha,hu⟩:=qe h;exact qc (s _ _ ha) (Ja s hu)
theorem wD {H H':Hp} (s:av H H'):∀{xs:Qt (Qt Int×Int)}{vs:Qt V},Iss H (xs.map prD) vs->Iss H' (xs.map prD) vs
 |[],_,h=>by rw[bi h];exact ao
 |x::xs,_,h=>by
  obtain⟨u,us,rfl,q,r⟩:=aK h;exact ak (lz s q) (wD s r)
theorem Jb {r:Qt Nat}{t:Qt Int}{p:Nat} (h:∀i:Nat,0<=t.getD i 0) (hs:t.sum+(r.sum:Nat)<=15) (hl:r.length<=5): -(2^64)<cf t p r/\cf t p r<2^64:=by
 obtain⟨a,b⟩:=uW (p:=p) h hs;have:(6435:Int)^r.length<=6435^5:=by
  have:r.length=0\/r.length=1\/r.length=2\/r.length=3\/r.length=4\/r.length=5:=by lia
  rcases this with e|e|e|e|e|e<;>rw[e]<;>decide
 lia
theorem Jc {wt:Qt Lf}{m:Lf}(h:Iss H (wt.map lf) OG) (k:Is H (lf m) v):mC K H 1 OG v (fun j=>decide (wt.getD j (0,0,0)=m)):=by
 obtain⟨a,b,c⟩:=IX (K:=K) h k;exact⟨a,fun j z hz=>⟨(b j z hz).1,(b j z hz).2.told⟩,c⟩
theorem Jd (xs:Qt Lf):(dm xs).Nodup:=(oX xs).imp fun{a b} h e=>by subst e;exact kD h
theorem wE {α β:Type} (f:β->α->β) (b:β) (xs:Qt α) (j:Nat) (x:α) (h:xs[j]? =some x):(xs.take (j+1)).foldl f b=f ((xs.take j).foldl f b) x:=by
 rw[AK,h,Bi];rfl
theorem Je (cnt:Lf->Nat) (m:Lf) (ms:Qt Lf):TF cnt (m::ms)=ig (TF cnt ms) (m.1-1).toNat (spR (m.2.1-m.1-1).toNat (cnt m)):=by funext t;rfl
def Jf {p:Nat}{rs:Qt (Qt Nat)}{D:Tab}{acc:Tab} (h:D[j]? =some x):stP p rs (D.take (j+1)) acc=inP x.1 x.2 p rs (stP p rs (D.take j) acc):=wE _ _ D j x h
def Jg {d:Qo}{kvs:Qt (Qt Key×V)}(h:H d=some (.dT kvs)):av H (upd H d o):=(LTS.dict h).2
theorem wF {κ:Type} [DecidableEq κ] {k:κ}:∀{R:Qt (κ×Int)},k∈R.map (·.1)->(k,eO R k)∈R
 |[],h=>nomatch h
 |(a,b)::r,h=>by
  unfold eO;by_cases e:a=k
  .rw [A7 e,e];exact AW
  .rw [A5 e];rw[AE,AI] at h;exact AQ _ (wF (h.resolve_left fun z=>e z.symm))
theorem wG {κ:Type} [DecidableEq κ] {k:κ}{v:Int}:∀{R:Qt (κ×Int)},eO (cD R k v) k=v/\k∈(cD R k v).map (·.1)
 |[]=>by simp[cD,eO]
 |(a,b)::r=>by
  obtain⟨h1,h2⟩:=wG (k:=k) (v:=v) (R:=r);unfold cD;by_cases e:a=k
  .rw [A7 e];exact⟨A7 e,by rw[AE,e];exact AW⟩
  .rw [A5 e];exact⟨by unfold eO;rw[A5 e];exact h1,by rw[AE];exact AQ _ h2⟩
def rwL (t:Qt Int):D:= .l (t.map .i)
def qD (q:Ask4):D:= .t [.i q.d, .i q.k,tI q.h,tI q.f]
def smD (x:Sm4):D:= .t [.i x.1,rwL x.2.1,qD x.2.2]
def kq (q:Ask4):Qt (Mx Int):=[.inl q.d, .inl q.k, .inr q.h, .inr q.f]
theorem Jh {r:Ask4} (h:kq q=kq r):q=r:=by
 obtain⟨a,b,c,d⟩:=q;obtain⟨a',b',c',d'⟩:=r;unfold kq at h;simp only[CC,Sum.inl.injEq,Sum.inr.injEq,and_true] at h;obtain⟨rfl,rfl,rfl,rfl⟩:=h;rfl
def qf (h:Is H (qD q) v):IsK H (kq q) v:=⟨rfl,h⟩
theorem iw {t:Qt Int}(h:Is H (rwL t) v):∃a,v= .ref a/\H a=some (.lst (t.map V.int)):=by
 obtain⟨a,vs,rfl,ha,hi⟩:=az h;rw[jW hi] at ha;exact⟨a,rfl,ha⟩
def jy {t:Qt Int}(h:H a=some (.lst (t.map V.int))):Is H (rwL t) (.ref a):=aB h (mo t)
theorem wH {t:Qt Int}(n:H0 a=none) (h:Is H (rwL t) (.ref a)):Is (nw H0 H) (rwL t) (.ref a):=by
 obtain⟨_,e,ha⟩:=iw h;cases e;exact jy (by rw[bY n];exact ha)
theorem fk (t:av H H') {xs:Qt Int}(h:Is H (tI xs) v):Is H' (tI xs) v:=by
 obtain⟨a,rfl,ha⟩:=bO h;exact eX (t _ _ ha)
theorem gu {H H':Hp} (t:av H H'):∀{ts:Qt (Qt Int)}{vs:Qt V},Iss H (ts.map tI) vs->Iss H' (ts.map tI) vs
 |[],_,h=>by rw[bi h];exact ao
 |p::ps,_,h=>by
  obtain⟨u,us,rfl,h1,h2⟩:=aK h;exact ak (fk t h1) (gu t h2)
theorem wI (t:av H H') (h:Is H (qD q) v):Is H' (qD q) v:=by
 obtain⟨a,vs,rfl,ha,hi⟩:=bn h;obtain⟨u1,us,rfl,h1,hi⟩:=aK hi;obtain⟨u2,us,rfl,h2,hi⟩:=aK hi;obtain⟨u3,us,rfl,h3,hi⟩:=aK hi;obtain⟨u4,us,rfl,h4,hi⟩:=aK hi;rw[bi hi,aE h1,aE h2] at ha;exact bd (t _ _ ha) (ak bq (ak bq (ak (fk t h3) (ak (fk t h4) ao))))
def eP (t:Qt Int):Prop:=Nn t/\t.length<=5/\(t=[]\/∃s x,t=s++[x]/\0<x)
inductive spIsR (vs:List V) (H:Hp) (Q:VK) (E':XK):Prop
 |mk (v:V) (t:List Int):vs=[v]->Is H (rwL t) v->eP t->Q (.bl true) H->spIsR vs H Q E'
inductive spRwL (vs:List V) (H:Hp) (Q:VK) (E':XK):Prop
 |mk (v:V) (t:List Int):vs=[v]->Is H (rwL t) v->t.length<=5->(∀H',ae H H'->Q (.int (wtF t)) H')->spRwL vs H Q E'
inductive spRwT (vs:List V) (H:Hp) (Q:VK) (E':XK):Prop
 |mk (v:V) (t:List Int):vs=[v]->Is H (tI t) v->t.length<=5->(∀H',ae H H'->Q (.int (wtF t)) H')->spRwT vs H Q E'
inductive spNeR (vs:List V) (H:Hp) (Q:VK) (E':XK):Prop
 |mk (d:Int) (v1 v2:V) (a b:List Int):vs=[.int d,v1,v2]->Is H (rwL a) v1->Is H (rwL b) v2->eP a->eP b->wtF a+wtF b=d->(∀H',ae H H'->Q .non H')->spNeR vs H Q E'
inductive spPrd (vs:List V) (H:Hp) (Q:VK) (E':XK):Prop
 |mk (v:V) (ws:List Int):vs=[v]->Is H (rwL ws) v->((∀w∈ws,1<=w/\w<=5))->Q (.int (cA ws)) H->spPrd vs H Q E'
inductive spFil (vs:List V) (H:Hp) (Q:VK) (E':XK):Prop
 |mk (v:V) (t:List Int) (n:Nat):vs=[v, .int n]->Is H (rwL t) v->t.length<=n->n<=5->(∀u H',ae H H'->Is H' (tI (bZ n t)) u->Q u H')->spFil vs H Q E'
inductive spRwn (vs:List V) (H:Hp) (Q:VK) (E':XK):Prop
 |mk (v:V) (t:List Int):vs=[v]->Is H (tI t) v->Nn t->t.sum<=5->t.length<=5->(∀l H',ae H H'->H l=none->Is H' (.l ((rwF t).map tI)) (.ref l)->Q (.ref l) H')->spRwn vs H Q E'
inductive spRby (n:Nat) (E':W.Frag) (vs:List V) (H:Hp) (Q:VK) (E2:XK):Prop
 |mk (v:V) (t:List Int) (wt:Int) (fi:Nat):vs=[v, .int wt, .int fi]->Is H (tI t) v->Nn t->t.length<=5->(wt-wtF t).toNat+1<=n->n<=8->-1000<=wt->wt<=1000->-1000<=wtF t->wtF t<=1000->fi<=5->(∀l H',ae H H'->H l=none->Is H' (.l ((rbF n t wt fi).map tI)) (.ref l)->Q (.ref l) H')->spRby n E' vs H Q E2
inductive spChs (vs:List V) (H:Hp) (Q:VK) (E':XK):Prop
 |mk (v1 v2:V) (b a:List Int):vs=[v1,v2]->Is H (tI b) v1->Is H (tI a) v2->Le a b->b.sum<=5->(∀H',ae H H'->Q (.int (cz b a)) H')->spChs vs H Q E'
inductive spWgn (vs:List V) (H:Hp) (Q:VK) (E':XK):Prop
 |mk (v1 v2:V) (f fr:List Int):vs=[v1,v2]->Is H (tI f) v1->Is H (tI fr) v2->Le f fr->fr.length<=5->fr.sum<=5->(∀l H',ae H H'->H l=none->Is H' (rwL (wgF f fr)) (.ref l)->Q (.ref l) H')->spWgn vs H Q E'
inductive spOne (g:Ask4->List Sm4) (vs:List V) (H:Hp) (Q:VK) (E':XK):Prop
 |mk (v1 v2:V) (q:Ask4) (L:Nat):vs=[.int q.d, .int q.k,v1,v2]->Is H (tI q.h) v1->Is H (tI q.f) v2->AskOk L q->2<=q.d->(∀l H',ae H H'->H l=none->Is (nw H H') (.l ((g q).map smD)) (.ref l)->Q (.ref l) H')->spOne g vs H Q E'
inductive spSms (vs:List V) (H:Hp) (Q:VK) (E':XK):Prop
 |mk (v:V) (q:Ask4) (L:Nat):vs=[v]->Is H (qD q) v->AskOk L q->2<=q.d->(∀l H',ae H H'->H l=none->Is (nw H H') (.l ((eJ q).map smD)) (.ref l)->Q (.ref l) H')->spSms vs H Q E'
theorem qg:∀{a b:Qt Int}{k:Int},Le a b->((wgG k a b).length:Int)=b.sum-a.sum
 |[],[],_,_=>rfl
 |x::a,y::b,k,h=>by
  show((List.replicate (y-x).toNat k++wgG (k+1) a b).length:Int)=_;have:=qg (k:=k+1) h.2.2;have h1:=h.2.1;rw[AA,Bk,Aw,Aw];lia
theorem wJ:∀{a b:Qt Int}{k:Int},Le a b->∀w∈wgG k a b,k<=w/\w<k+a.length
 |[],[],_,_,w,h=>nomatch h
 |x::a,y::b,k,h,w,hw=>by
  rcases BM.mp (show w∈List.replicate (y-x).toNat k++wgG (k+1) a b from hw) with hw|hw
  .have:=List.eq_of_mem_replicate hw;rw[AT];lia
  .have:=wJ h.2.2 w hw;rw[AT];lia
def KnQ (L:Nat) (R:Qt (Qt (Mx Int)×Int)):Prop:=(R.map (·.1)).Nodup/\∀x∈R,∃q,AskOk L q/\0<=q.k/\x=(kq q,cF q)
def Ji (L:Nat):Qt (Qt (Mx Int)):=(List.range 6).flatMap fun d:Nat=>(List.range 7).flatMap fun k:Nat=>(dG 1 L 5).flatMap fun h=>(dG 1 L 5).map fun f=>kq ⟨(d:Int),(k:Int),h,f⟩
theorem jz {α β:Type}{g:α->Qt β}{m:Nat}:∀{xs:Qt α},(∀x∈xs,(g x).length<=m)->(xs.flatMap g).length<=xs.length*m
 |[],_=>AL _
 |x::xs,h=>by
  rw[BV,AA,AT,Ci];have:=jz (xs:=xs) fun y hy=>h y (AQ _ hy);have:=h x AW;lia
theorem Jj {L:Nat} (h:L<=5):(Ji L).length<=15162:=by
 have r:(dG 1 L 5).length<=19:=by
  have h1:=Hu;unfold vp at h1;rw[AY] at h1;simpa using h1 L (Aa.mpr (by lia))
 have e1:∀(d k:Nat) (h':Qt Int),((dG 1 L 5).map fun f=>kq ⟨(d:Int),(k:Int),h',f⟩).length<=19:=fun d k h'=>by rw[A1];exact r
 have e2:∀(d k:Nat),((dG 1 L 5).flatMap fun h=>(dG 1 L 5).map fun f=>kq ⟨(d:Int),(k:Int),h,f⟩).length<=361:=fun d k=>B9 (jz fun h' _=>e1 d k h') (by lia);have e3:∀d:Nat,((List.range 7).flatMap fun k:Nat=>(dG 1 L 5).flatMap fun h=>(dG 1 L 5).map fun f=>kq ⟨(d:Int),(k:Int),h,f⟩).length<=2527:=fun d=>by
  have:=jz (xs:=List.range 7) (m:=361) fun k _=>e2 d k;rw[BJ] at this;exact this
 have:=jz (xs:=List.range 6) (m:=2527) fun d _=>e3 d;rw[BJ] at this;exact this
theorem Jk {L:Nat}{ks:Qt (Qt (Mx Int))} (nd:ks.Nodup) (h:∀x∈ks,∃q,AskOk L q/\0<=q.k/\x=kq q) (h5:L<=5):ks.length<=15162:=by
 refine B9 (wj nd fun x hx=> ?_) (Jj h5);obtain⟨q,a,k0,rfl⟩:=h x hx;have wh:=dU (i:=1) (by decide) a.hn;have wf:=dU (i:=1) (by decide) a.fn;have w:=a.wt;have d1:=a.d1;have dL:=a.dL;have k6:=a.k6;unfold wtF at w;refine B'.mpr ⟨q.d.toNat,Aa.mpr (by lia),B'.mpr ⟨q.k.toNat,Aa.mpr (by lia),B'.mpr ⟨q.h,ph (by decide) a.hl a.hn (by show wtG 1 q.h<=5;lia),Ak.mpr ⟨q.f,ph (by decide) a.fl a.fn (by show wtG 1 q.f<=5;lia), ?_⟩⟩⟩⟩;show kq ⟨((q.d.toNat:Nat):Int),((q.k.toNat:Nat):Int),q.h,q.f⟩=kq q;rw[show((q.d.toNat:Nat):Int)=q.d by lia,show((q.k.toNat:Nat):Int)=q.k by lia]
theorem KnQ.len {L:Nat}(h:KnQ L R) (h5:L<=5):R.length<=15162:=by
 rw[<-A1 (f:=(·.1))];refine Jk h.1 (fun x hx=> ?_) h5;obtain⟨y,hy,rfl⟩:=Ak.mp hx;obtain⟨q,a,k0,rfl⟩:=h.2 y hy;exact⟨q,a,k0,rfl⟩
theorem KnQ.get {L:Nat}{R:Qt (Qt (Mx Int)×Int)} (h:KnQ L R) {q:Ask4} (hk:kq q∈R.map (·.1)):eO R (kq q)=cF q:=by
 obtain⟨r,_,_,e⟩:=h.2 _ (wF hk);simp only[DD] at e;rw[e.2,Jh e.1]
def KnQ.put {L:Nat}(h:KnQ L R) (a:AskOk L q) (k0:0<=q.k):KnQ L (cD R (kq q) (cF q)):=
 ⟨IQ h.1,fun x hx=>(ww hx).elim (fun hx=>h.2 x hx) fun e=>⟨q,a,k0,e⟩⟩
theorem qh {kvs:Qt (Qt (Mx Int)×V)} (d:DM P w H a kvs) (k:But a H H'):LTS H H':=by
 obtain⟨_,_,xs,_,e⟩:=d;exact⟨fun b ys h=>k _ _ h (by rintro rfl;rw[e] at h;cases h),fun b ys h=>k _ _ h (by rintro rfl;rw[e] at h;cases h)⟩
inductive spCnt (P:Program) (w:World) (n:Nat) (vs:List V) (H:Hp) (Q:VK) (E':XK):Prop
 |mk (v:V) (kn:Addr) (q:Ask4) (L:Nat) (R:List (List (Mx Int)×Int)):vs=[v, .ref kn]->Is H (qD q) v->AskOk L q->muF q+1<=(n:Int)->DM P w H kn (tK R)->KnQ L R->(∀R' H',But kn H H'->DM P w H' kn (tK R')->KnQ L R'->Q (.int (cF q)) H')->spCnt P w n vs H Q E'
inductive spAsk (vs:List V) (H:Hp) (Q:VK) (E':XK):Prop
 |mk (d k:Nat) (v1 v2:V) (a b:List Int):vs=[.int d, .int k,v1,v2]->Wide d k->Is H (rwL a) v1->Is H (rwL b) v2->eP a->eP b->wtF a+wtF b=d->a.length<=d->b.length<=d->(∀u H',ae H H'->Is H' (qD ⟨d,k,bZ d a,bZ d b⟩) u->Q u H')->spAsk vs H Q E'
inductive spByE (vs:List V) (H:Hp) (Q:VK) (E':XK):Prop
 |mk (d k:Nat) (v1 v2:V) (a b:List Int):vs=[.int d, .int k,v1,v2]->Wide d k->Is H (rwL a) v1->Is H (rwL b) v2->eP a->eP b->wtF a+wtF b=d->a.length<=d->b.length<=d->(∀H',ae H H'->Q (.int (cF ⟨d,k,bZ d a,bZ d b⟩)) H')->spByE vs H Q E'
theorem Jl {L:Nat}(a:AskOk L q) (d2:2<=q.d) {x:Sm4} (hx:x∈eJ q):(0<=x.1/\x.1<=1024)/\(∀w∈x.2.1,1<=w/\w<=5)/\x.2.1.length<=5:=by
 unfold eJ at hx;rcases BM.mp hx with hx|hx
 .obtain⟨_,_,e1,w,e2,w1,w5⟩:=a.held hx;rw[e1,e2];exact⟨⟨by decide,by decide⟩,fun y hy=>by rw[Ab.mp hy];exact⟨w1,w5⟩,by simp⟩
 .obtain⟨kp,hk,fr,hf,rfl⟩:=vm hx;obtain⟨_,_,l1,l2,f5⟩:=a.few d2 hk hf;have c1:=kM l1 a.sums.2.1;have c2:=kM l2 f5;have m1:=CN c1.1 c2.1;have m2:=D8 c1.2 c2.2 c2.1 (by decide);refine⟨⟨m1,by show _*_<=1024;lia⟩,fun w hw=> ?_, ?_⟩
  .have:=wJ (k:=1) l2 w hw;have:=a.fl;have:=a.L5;lia
  .have:=qg (k:=1) l2;have:=a.sums;show(wgG 1 q.f fr).length<=5;lia
theorem wK:∀{ws:Qt Int},(∀w∈ws,1<=w/\w<=5)->0<=cA ws/\cA ws<=5^ws.length
 |[],_=>by simp[cA]
 |w::ws,h=>by
  obtain⟨h1,h2⟩:=wK fun x hx=>h x (AQ _ hx);obtain⟨w1,w5⟩:=h w AW;rw[show w::ws=[w]++ws from rfl,Hv,show cA [w]=w by show 1*w=w;lia];refine⟨CN (by lia) h1, ?_⟩;rw[AA,Int.pow_add];exact D8 w5 h2 h1 (Int.pow_nonneg (by decide))
inductive spWorth (vs:List V) (H:Hp) (Q:VK) (E':XK):Prop
 |mk (dv:V) (ps:List Lf) (d:Nat):vs=[dv]->Is H (lfs ps) dv->((∀p∈ps,True/\1<=p.2.2/\p.2.2<=2^20))->Q (.int (fH ps)) H->spWorth vs H Q E'
def bS (d:Nat) (L:Nat->Int):Qt (Key×V):=(List.range d).map fun i:Nat=>(Sum.inl (1+(i:Int)),V.int (L i))
theorem Jm (h:∀t,t<d->L t=L' t):bS d L=bS d L':=by
 unfold bS;refine Aq fun t ht=> ?_;rw[h t (Aa.mp ht)]
theorem lA (h:∀t,t<d->L t=L' t):some (HO.dK (bS d L))=some (HO.dK (bS d L')):=by rw[Jm h]
theorem wL {L:Nat->Int}{i:Nat}:∀l:Qt Nat,i∈l->aJ (l.map fun i:Nat=>((Sum.inl (1+(i:Int)):Key),V.int (L i))) (Sum.inl (1+(i:Int)))=some (.int (L i))
 |j::l,h=>by
  rw[AE];by_cases e:j=i
  .subst e;exact c9 rfl
  .rw [cR (by intro z;have:=Sum.inl.inj z;lia)];exact wL l (by rcases AI.mp h with h|h;exact absurd h.symm e;exact h)
def wM (h:i<d):aJ (bS d L) (Sum.inl (1+(i:Int)))=some (.int (L i)):=wL _ (Aa.mpr h)
theorem Jn {v:Int} (h:i<d):aR (bS d L) (Sum.inl (1+(i:Int))) (.int v)=bS d fun t=>if t=i then v else L t:=by
 unfold aR;rw[fy,wM h,A7 (show(some (V.int (L i))).isSome=true from rfl)];unfold bS;rw[BA];refine Aq fun t _=> ?_;show(if(Sum.inl (1+(t:Int)):Key)=Sum.inl (1+(i:Int)) then _ else _)=_;by_cases e:t=i
 .subst e;rw[A7 rfl];show _=(_,V.int (if t=t then v else L t));rw[A7 rfl]
 .rw [A5 (by intro z;have:=Sum.inl.inj z;lia)];show _=(_,V.int (if t=i then v else L t));rw[A5 e]
theorem wN {L:Nat->Int}{i:Nat}:∀l:Qt Nat,¬i∈l->aJ (l.map fun i:Nat=>((Sum.inl (1+(i:Int)):Key),V.int (L i))) (Sum.inl (1+(i:Int)))=none
 |[],_=>rfl
 |j::l,h=>by
  rw[AE,cR (by intro z;have:=Sum.inl.inj z;exact h (by simp;lia))];exact wN l fun z=>h (by simp[z])
theorem Jo (i:Nat):aR (bS i L) (Sum.inl (1+(i:Int))) (.int (L i))=bS (i+1) L:=by
 unfold bS;rw[lT _ (wN _ (by simp)),Ax,A6];rfl
theorem wO :(bS d L).length=d:=by unfold bS;simp
theorem wP {x:Int}(h1:1<=x) (h2:x<=d):∃i:Nat,x=1+(i:Int)/\i<d/\(x-1).toNat=i:=⟨(x-1).toNat,by lia,by lia,rfl⟩
theorem lB {st:Qo}(h:H st=some (.dK (bS d L))) (hi:i<d):cJ H st (.int (1+(i:Int))) (some (.int (L i))):=by
 have:=cJ.k (k:=Sum.inl (1+(i:Int))) h;rw[wM hi] at this;exact this
theorem Jp {st:Qo}{v:Int} (h:H st=some (.dK (bS d L))) (hi:i<d) (hd:d<=5):cS H st (.int (1+(i:Int))) (.int v) (upd H st (.dK (bS d fun t=>if t=i then v else L t))):=by
 have:=cS.k (k:=Sum.inl (1+(i:Int))) (v:= .int v) h (ay (by rw[wO];lia));rw[Jn hi] at this;exact this
theorem qi {lo:Int}{x:V} (h:(bW lo n)[i]? =some x):i<n/\x= .int (lo+(i:Int)):=by
 unfold bW at h;rw[AC] at h;obtain⟨k,hk,rfl⟩:=AR.mp h;have hi:i<n:=by have:=(A8.mp hk).1;simpa using this
 rw[List.getElem?_range hi] at hk;cases hk;exact⟨hi,rfl⟩
inductive spGath (vs:List V) (H:Hp) (Q:VK) (E':XK):Prop
 |mk (ta:Addr) (pw:V) (d:Nat) (ps:List (Int×Int)):vs=[.ref ta,pw]->H ta=some (.lst (bW 1 d))->Is H (pts ps) pw->d<=5->((∀p∈ps,Okp d p))->(∀q H',ae H H'->H q=none->H' q=some (.dK (bS d (hU ps)))->Q (.ref q) H')->spGath vs H Q E'
inductive spMany (vs:List V) (H:Hp) (Q:VK) (E':XK):Prop
 |mk (ta:Addr) (pw:V) (d:Nat) (ps:List (Int×Int)):vs=[.ref ta,pw]->H ta=some (.lst (bW 1 d))->Is H (pts ps) pw->d<=5->((∀p∈ps,Okp d p))->(∀H',ae H H'->Q (.int (oN d (hU ps)).length) H')->spMany vs H Q E'
inductive spParts (vs:List V) (H:Hp) (Q:VK) (E':XK):Prop
 |mk (d:Nat) (dv:V) (ps:List Lf):vs=[.int d,dv]->Is H (lfs ps) dv->1<=d->d<=5->ps.length<=20->((∀p∈ps,Okl d p))->(∀H',ae H H'->Q (.int (oN d (hU (kz ps))).length) H')->spParts vs H Q E'
inductive spAdd (vs:List V) (H:Hp) (Q:VK) (E':XK):Prop
 |mk (t w c:Addr) (ts ws cs:List (Nat×Int)) (m k:Nat) (sg:Int):vs=[.ref t, .ref w, .ref c, .int sg]->((sg=1\/sg= -1))->H t=some (.dK (dI ts))->bI (m+k) ts->Rd H w (.dK (dI ws))->bI m ws->Rd H c (.dK (dI cs))->bI k cs->m+k<=20->t≠w->t≠c->w≠c->((∀r s,gy (vF ws r) (vF cs s)))->(∀H' ts',H' t=some (.dK (dI ts'))->bI (m+k) ts'->(∀s,vF ts' s=vF ts s+sg*cv (vF ws) (vF cs) s)->(∀b,b≠t->Pz (H b) (H' b))->(∀b,b≠t->b≠w->b≠c->H' b=H b)->Q .non H')->spAdd vs H Q E'
def Jq (g:Nat) (N:Nat->Nat->Int):Prop:=∀i Wq,i<=g->Wh i N Wq->∀d e s t,gy (Wq d s) (N e t)
inductive spWBy (vs:List V) (H:Hp) (Q:VK) (E':XK):Prop
 |mk (a:Addr) (q n g:Nat) (b:Nat->Addr) (X:Nat->List (Nat×Int)):vs=[.ref a]->Tb q g H a b X->Sz q n->g<=n->Jq g (cg g X)->(∀p b' X' H',Fz H H'->Tb q g H' p b' X'->Wh g (cg g X) (cg g X')->Q (.ref p) H')->spWBy vs H Q E'
theorem Jr {x y:Qt (Key×V)} (h:Rd H a (.dK x)) (k:Rd H a (.dK y)):x=y:=by
 rcases h with h|⟨o,h⟩<;>rcases k with k|⟨o',k⟩<;>rw[h] at k<;>cases k<;>rfl
theorem Js {c:Qo}(h:Rd H a (.dK (aS b g))) (k:Rd H c (.dK (dI xs))) (hg:1<=g):c≠a:=by
 rintro rfl;have e:=Jr h k;have h0:(aS b g)[0]? =some (.inl ((0+1:Nat):Int), .ref (b (0+1))):=vE (by lia);rw[e] at h0;unfold dI at h0;rw[AC] at h0;obtain⟨x,_,e⟩:=AR.mp h0;exact V.noConfusion (BU Prod.snd e)
theorem wQ (xs:Qt (Nat×Int)) (k:Nat):(aJ (dI xs) (.inl (k:Int))).getD (.int 0)= .int (vF xs k):=by
 rw[vA];by_cases h:k∈xs.map (·.1)
 .rw [A7 h];rfl
 .rw [A5 h,kN h];rfl
def wR {x:Nat×Int} (h:xs[i]? =some x):x.1∈xs.map (·.1):=Ak.mpr ⟨x,AH h,rfl⟩
theorem Jt (h:Rd H a o) (e:H' a=H a):Rd H' a o:=by
 rcases h with h|⟨o',h⟩
 .exact .inl (by rw[e];exact h)
 .exact .inr ⟨o',by rw[e];exact h⟩
theorem ix (h:Rd H a o):H a≠none:=by
 rcases h with h|⟨o',h⟩<;>rw[h]<;>exact fun z=>nomatch z
theorem iy (h1:1<=d) (h2:d<=g):vF (X d)=cg g X d:=by
 funext s
 unfold cg;rw[A7 ⟨h1,h2⟩]
theorem wS {ts:Qt (Nat×Int)}:cg (g+1) (fun d=>if d=g+1 then ts else X d) d s=if d=g+1 then vF ts s else cg g X d s:=by
 unfold cg;by_cases e:d=g+1
 .rw [A7 e,A7 (by lia)];dsimp only;rw[A7 e]
 .rw [A5 e];by_cases h:1<=d/\d<=g
  .rw [A7 h,A7 (by lia)];dsimp only;rw[A5 e]
  .rw [A5 h,A5 (by lia)]
theorem Wh.next {N W':Nat->Nat->Int} (h:Wh g N Wq) (e1:∀d s,d≠g+1->W' d s=Wq d s) (e2:∀s,W' (g+1) s=N (g+1) s-below (fun e=>cv (Wq e) (N (g+1-e)) s) (g+1)):Wh (g+1) N W':=by
 have ew:∀d,d≠g+1->W' d=Wq d:=fun d hd=>by funext s;exact e1 d s hd
 intro d s;by_cases e:d=g+1
 .subst e;rw[A7 (by lia),e2];have:below (fun e=>cv (W' e) (N (g+1-e)) s) (g+1)=below (fun e=>cv (Wq e) (N (g+1-e)) s) (g+1):=kO fun e h1 h2=>by rw[ew e (by lia)]
  rw[this]
 .rw [e1 d s e,h];by_cases hd:1<=d/\d<=g
  .rw [A7 hd,A7 (by lia)];have:below (fun e=>cv (W' e) (N (d-e)) s) d=below (fun e=>cv (Wq e) (N (d-e)) s) d:=kO fun e h1 h2=>by rw[ew e (by lia)]
   rw[this]
  .rw [A5 hd,A5 (by lia)]
inductive spCh (vs:List V) (H:Hp) (Q:VK) (E':XK):Prop
 |mk (n k:Int):vs=[.int n, .int k]->0<=n->n<=100->Q (.int (cho n k)) H->spCh vs H Q E'
inductive spBy (vs:List V) (H:Hp) (Q:VK) (E':XK):Prop
 |mk (v:V) (q n g:Nat) (F:Nat->Nat->Int) (L:List (List Int)):vs=[v, .int g]->Is H (.l (L.map tI)) v->((∀r∈L,∃d s,r=bE d s (F d s)/\1<=d/\d<=g/\1<=s/\s<=q*d))->((∀d s,F d s≠0->bE d s (F d s)∈L))->Sz q n->g<=n->(∀a b X H',ae H H'->Tb q g H' a b X->cg g X=F->Q (.ref a) H')->spBy vs H Q E'
inductive spPt (vs:List V) (H:Hp) (Q:VK) (E':XK):Prop
 |mk (d:Nat) (k:Int):vs=[.int d, .int k]->1<=d->d<=5->Q (.int (((ptF d:Nat):Int)-k)) H->spPt vs H Q E'
inductive spCR (vs:List V) (H:Hp) (Q:VK) (E':XK):Prop
 |mk (d k:Nat):vs=[.int d, .int k]->Wide d k->(∀v H',ae H H'->Is H' (tI [(d:Int),((ptF d:Nat):Int)-(k:Int),cT d k]) v->Q v H')->spCR vs H Q E'
inductive spRU (vs:List V) (H:Hp) (Q:VK) (E':XK):Prop
 |mk (d:Nat):vs=[.int d]->d<=4->(∀l H',ae H H'->H l=none->Is H' (.l ((c8 d).map tI)) (.ref l)->Q (.ref l) H')->spRU vs H Q E'
theorem Ju (h:d<=5):(d:Int)*((d:Int)+3)/2=((ptF d:Nat):Int):=by
 have:∀d:Nat,d<6->(d:Int)*((d:Int)+3)/2=((ptF d:Nat):Int):=by decide
 exact this d (by lia)
theorem Jv (h:d<=5):d*(d-1)/2<=ptF d/\ptF d<=20:=by
 have:∀d:Nat,d<6->d*(d-1)/2<=ptF d/\ptF d<=20:=by decide
 exact this d (by lia)
theorem Jw (h:d<=4):d*(d-1)/2<=6:=by
 have:∀d:Nat,d<5->d*(d-1)/2<=6:=by decide
 exact this d (by lia)
theorem wT (h:i<=4):(c8 i).length<=14:=by
 have:∀d:Nat,d<5->(c8 d).length<=14:=by decide
 exact this i (by lia)
inductive spRWQ (vs:List V) (H:Hp) (Q:VK) (E':XK):Prop
 |mk (d k:Nat):vs=[.int d, .int k]->Wide d k->(∀H',Fz H H'->Q (.int (fJ d k)) H')->spRWQ vs H Q E'
inductive spWFl (vs:List V) (H:Hp) (Q:VK) (E':XK):Prop
 |mk (d k:Nat):vs=[.int d, .int k]->NoH d k->(∀H',ae H H'->Q (.int (gs d k)) H')->spWFl vs H Q E'
def iz (x:Pc×Qt Pt):D:= .t [pcD x.1,pts x.2]
def Sd (s:Int):Prop:=s=1\/s= -1
inductive spCrn (vs:List V) (H:Hp) (Q:VK) (E':XK):Prop
 |mk (a b c:V) (p q r:Pt):vs=[a,b,c]->Is H (pt p) a->Is H (pt q) b->Is H (pt r) c->inB p=true->inB q=true->inB r=true->Q (.int (crn p q r)) H->spCrn vs H Q E'
inductive spIsP (vs:List V) (H:Hp) (Q:VK) (E':XK):Prop
 |mk (d:Nat) (v:V) (p:Pt):vs=[.int d,v]->Is H (pt p) v->Q (.bl (jq d p)) H->spIsP vs H Q E'
def wU:Qw Nat->V
 |none=> .non
 |some p=> .int p
inductive spTurn (vs:List V) (H:Hp) (Q:VK) (E':XK):Prop
 |mk (v:V) (ps:List Pt) (s:Int):vs=[v, .int s]->Is H (pts ps) v->psB ps=true->Sd s->Q (wU (fg ps s)) H->spTurn vs H Q E'
inductive spSteps (vs:List V) (H:Hp) (Q:VK) (E':XK):Prop
 |mk (d:Nat) (v:V) (ps:List Pt) (s:Int):vs=[.int d,v, .int s]->Is H (pts ps) v->psB ps=true->Sd s->(∀l H',ae H H'->H l=none->Is (nw H H') (.l ((ip d ps s).map iz)) (.ref l)->Q (.ref l) H')->spSteps vs H Q E'
inductive spMan (n:Nat) (E':W.Frag) (vs:List V) (H:Hp) (Q:VK) (E2:XK):Prop
 |mk (d:Nat) (v ev:V) (ps es:List Pt) (s:Int):vs=[.int d,v, .int s,ev]->Is H (pts ps) v->Is H (pts es) ev->okM n d ps s es=true->Sd s->(∀l H',ae H H'->H l=none->Is (nw H H') (.l ((bh n d ps s es).map bR)) (.ref l)->Q (.ref l) H')->spMan n E' vs H Q E2
inductive spLv (n:Nat) (K:W.Frag) (vs:List V) (H:Hp) (Q:VK) (E':XK):Prop
 |mk (a:Addr) (rs:List V) (k:Nat):vs=[.ref a, .int k]->SqL K H a rs->rs.length<n->rs.length<=20->(∀(l:Addr) (us:List V) (H':Hp),ae H H'->H l=none->H' l=some (.lst us)->b8 H H' (lvA rs k) us->Q (.ref l) H')->spLv n K vs H Q E'
theorem wV (ps:Qt Pt):nK (wk ps)= .t (ps.map pt):=by
 unfold nK wk;rw[BA];rfl
theorem eQ {ps:Qt Pt}(h:Is H (.t (ps.map pt)) v):Is H (nK (wk ps)) v:=by
 rw[wV];exact h
theorem jA (d:DN P w H a kvs) (k:But a H H'):LTS H H':=by
 obtain⟨_,_,xs,_,e⟩:=d;exact⟨fun b ys h=>k _ _ h (by rintro rfl;rw[e] at h;cases h),fun b ys h=>k _ _ h (by rintro rfl;rw[e] at h;cases h)⟩
theorem DN.but {b:Qo}{kvs':Qt (Qt (Qt Int)×V)} (d:DN P w H a kvs) (e:DN P w H b kvs') (k:But b H H') (n:a≠b):DN P w H' a kvs:=by
 obtain⟨z,y,xs,r,h⟩:=id d;exact d.keeps ((k _ _ h n).trans h.symm) (jA e k).2
inductive spPw (vs:List V) (H:Hp) (Q:VK) (E':XK):Prop
 |mk (v:V) (c:Pc):vs=[v]->Is H (pcD c) v->((∀p∈c,inB p=true))->((c.length=3\/c.length=4))->Q (.int (pwF c)) H->spPw vs H Q E'
theorem Jx (h:∀p∈c,inB p=true) (hl:c.length=3\/c.length=4): -(2^64)<pwF c/\pwF c<2^64:=by
 unfold pwF;by_cases e:c.length=3
 .rw [A7 e];have g:∀j,j<c.length->-20<=(c.getD j zP).1/\(c.getD j zP).1<=20/\-20<=(c.getD j zP).2/\(c.getD j zP).2<=20:=fun j hj=>by
   have:=h _ (jr hj);unfold inB at this;simp only[AN,Av] at this;lia
  have g0:=g 0 (by lia);have g1:=g 1 (by lia);have g2:=g 2 (by lia);generalize c.getD 0 zP=a at g0;generalize c.getD 1 zP=b at g1;generalize c.getD 2 zP=e at g2;have m:∀x y:Int,-40<=x->x<=40->-40<=y->y<=40->-1600<=x*y/\x*y<=1600:=fun x y a1 a2 b1 b2=>by
   have:(x*y).natAbs<=1600:=by
    rw[Int.natAbs_mul];exact Nat.mul_le_mul (show x.natAbs<=40 by lia) (show y.natAbs<=40 by lia)
   lia
  have m1:=m (b.1-a.1) (e.2-b.2) (by lia) (by lia) (by lia) (by lia);have m2:=m (b.2-a.2) (e.1-b.1) (by lia) (by lia) (by lia) (by lia);unfold abI crn;split<;>lia
 .rw [A5 e];lia
inductive spCW (vs:List V) (H:Hp) (Q:VK) (E':XK):Prop
 |mk (v:V) (cs:List Pc):vs=[v]->Is H (bR cs) v->((∀c∈cs,jt c))->Q (.int (cB cs)) H->spCW vs H Q E'
inductive spNarQ (vs:List V) (H:Hp) (Q:VK) (E':XK):Prop
 |mk (d k:Nat):vs=[.int d, .int k]->gp d k->Q .non H->spNarQ vs H Q E'
inductive spEdQ (f:Nat->List Pt) (vs:List V) (H:Hp) (Q:VK) (E':XK):Prop
 |mk (n:Nat):vs=[.int n]->1<=n->n<=5->(∀l H',ae H H'->H l=none->Is H' (pts (f n)) (.ref l)->Q (.ref l) H')->spEdQ f vs H Q E'
inductive spWayP (vs:List V) (H:Hp) (Q:VK) (E':XK):Prop
 |mk (d k:Nat):vs=[.int d, .int k]->gp d k->(bv d k).length<64->(∀(L:List (List Pt)) l H',L.Perm (bv d k)->ae H H'->H l=none->Is H' (.l (L.map pts)) (.ref l)->Q (.ref l) H')->spWayP vs H Q E'
inductive spCutQ (vs:List V) (H:Hp) (Q:VK) (E':XK):Prop
 |mk (n:Nat) (wv:V) (ps:List Pt):vs=[.int n,wv]->1<=n->n<=4->Is H (pts ps) wv->okP n ps=true->(∀(L:List (List Pc)) l H',L.Perm (b9 n ps)->ae H H'->H l=none->Is (nw H H') (.l (L.map bR)) (.ref l)->Q (.ref l) H')->spCutQ vs H Q E'
inductive spWhoQ (vs:List V) (H:Hp) (Q:VK) (E':XK):Prop
 |mk (d k:Nat):vs=[.int d, .int k]->gp d k->(bv d k).length<64->((∀w∈bv d k,okP d w=true/\∀cs∈b9 d w,Cut cs))->(∀H',ae H H'->Q (.int (dw d (bv d k))) H')->spWhoQ vs H Q E'
inductive spWhQ (vs:List V) (H:Hp) (Q:VK) (E':XK):Prop
 |mk (n:Nat):vs=[.int n]->1<=n->n<=8->(∀H',ae H H'->Q (.int (wh n)) H')->spWhQ vs H Q E'
inductive spDrP (vs:List V) (H:Hp) (Q:VK) (E':XK):Prop
 |mk (d k:Nat):vs=[.int d, .int k]->Wide d k->(okB d k=true/\(cO d k).length<64)->(∀(L:List (List Lf)) l H',L.Perm (cO d k)->ae H H'->H l=none->Is (nw H H') (.l (L.map lfs)) (.ref l)->Q (.ref l) H')->spDrP vs H Q E'
def ppD (x:Pc×Pc):D:= .t [pcD x.1,pcD x.2]
theorem lC (t:av H H') {x:Pc×Pc}(h:Is H (ppD x) v):Is H' (ppD x) v:=by
 obtain⟨a,vs,rfl,ha,hi⟩:=bn h;obtain⟨u1,us,rfl,h1,hi⟩:=aK hi;obtain⟨u2,us,rfl,h2,hi⟩:=aK hi;rw[bi hi] at ha;exact bd (t _ _ ha) (ak (cp t h1) (ak (cp t h2) ao))
theorem iA {H H':Hp} (t:av H H'):∀{ps:Qt (Pc×Pc)}{vs:Qt V},Iss H (ps.map ppD) vs->Iss H' (ps.map ppD) vs
 |[],_,h=>by rw[bi h];exact ao
 |p::ps,_,h=>by
  obtain⟨u,us,rfl,h1,h2⟩:=aK h;exact ak (lC t h1) (iA t h2)
abbrev GR (H:Hp):Qt (Pc×Pc)->Qt (Qt (Qt Int)×V)->Prop:=Paired fun p q=>q.1=wk p.1/\Is H (pcD p.2) q.2
section
variable {H H':Hp}{S:Qt (Pc×Pc)}{kvs:Qt (Qt (Qt Int)×V)}{k p:Pc}{v:V}
def GR.len (r:GR H S kvs):kvs.length=S.length:=(BL r).symm
def GR.ts (r:GR H S kvs) (t:av H H'):GR H' S kvs:=Paired.mapP r fun _ _ z=>⟨z.1,cp t z.2⟩
theorem GR.get (r:GR H S kvs) (hk:k∈S.map (·.1)):∃v,aJ kvs (wk k)=some v/\Is H (pcD (bp S k)) v:=by
 induction r with
 |nil=>cases hk
 | @cons p q ps qs h t ih=>
  obtain⟨h1,h2⟩:=h;by_cases e:p.1=k
  .exact⟨q.2,c9 (by rw[h1,e]),by rw[pP e];exact h2⟩
  .have e':¬q.1=wk k:=fun z=>e (kW (h1.symm.trans z));obtain⟨v,a,b⟩:=ih (by
    rw[AE] at hk;exact(AI.mp hk).elim (fun z=>absurd z.symm e) id)
   exact⟨v,by rw[cR e'];exact a,by rw[pQ e];exact b⟩
theorem GR.has (r:GR H S kvs):(aJ kvs (wk k)).isSome=dr S k:=by
 induction r with
 |nil=>rfl
 | @cons p q ps qs h t ih=>
  obtain⟨h1,h2⟩:=h;show _=(match cE p.1 k with|true=>true|false=>dr ps k);by_cases e:p.1=k
  .rw [c9 (by rw[h1,e]),fj.mpr e];rfl
  .rw [cR fun z=>e (kW (h1.symm.trans z)),jv e];exact ih
theorem GR.new (r:GR H S kvs) (hn:dr S k=false) (hv:Is H (pcD p) v):GR H (S++[(k,p)]) (aR kvs (wk k) v):=by
 have e:=r.has (k:=k);rw[hn] at e;rw[lT v (by cases z:aJ kvs (wk k) with|none=>rfl|some _=>rw[z] at e;cases e)];exact Paired.snoc r ⟨rfl,hv⟩
theorem GR.repl (r:GR H S kvs) (hv:Is H (pcD p) v):GR H (S.map fun x=>if x.1=k then(x.1,p) else x) (kvs.map fun kv=>if kv.1=wk k then(kv.1,v) else kv):=by
 induction r with
 |nil=>exact .nil
 | @cons a b ps qs h t ih=>
  rw[AE,AE];refine .cons ?_ ih;obtain⟨h1,h2⟩:=h;by_cases e:a.1=k
  .rw [A7 e,A7 (h1.trans (BU wk e))];exact⟨h1,hv⟩
  .rw [A5 e,A5 fun z=>e (kW (h1.symm.trans z))];exact⟨h1,h2⟩
theorem GR.mid {A B:Qt (Pc×Pc)}{q:Pc} (r:GR H (A++(k,q)::B) kvs) (ha:k∉A.map (·.1)) (hb:k∉B.map (·.1)) (hv:Is H (pcD p) v):GR H (A++(k,p)::B) (aR kvs (wk k) v):=by
 have e:=r.has (k:=k);rw[jw.mpr (by simp)] at e;have same:∀{C:Qt (Pc×Pc)},k∉C.map (·.1)->(C.map fun x=>if x.1=k then(x.1,p) else x)=C:=fun{C} h=>by
  conv=>rhs;rw[<-List.map_id C]
  refine Aq fun x hx=> ?_;rw[A5 fun z=>h (Ak.mpr ⟨x,hx,z⟩)];rfl
 have t:=r.repl (k:=k) hv;rw[A6,AE,same ha,same hb,A7 rfl] at t;unfold aR;rw[fy,e];exact t
end
def trK (D:Qt Pc):Qt (Qt (Qt Int)×V):=D.map fun k=>(wk k,V.bl true)
theorem wW (D:Qt Pc):(trK D).length=D.length:=by unfold trK;rw[A1]
theorem Jy (D:Qt Pc) (k:Pc):(aJ (trK D) (wk k)).isSome=isS D k:=by
 induction D with
 |nil=>rfl
 |cons x D ih=>
  show(aJ ((wk x,V.bl true)::trK D) (wk k)).isSome=(match cE x k with|true=>true|false=>isS D k);by_cases e:x=k
  .rw [c9 (by rw[e]),fj.mpr e];rfl
  .rw [cR fun z=>e (kW z),jv e];exact ih
theorem Jz (D:Qt Pc) (k:Pc):aR (trK D) (wk k) (.bl true)=trK (dH D k):=by
 have e:=Jy D k;unfold dH;cases q:isS D k with
 |true=>
  rw[q] at e;unfold aR;rw[fy,e];show(trK D).map _=trK D
  conv=>rhs;rw[<-List.map_id (trK D)]
  refine Aq fun x hx=> ?_;obtain⟨y,_,rfl⟩:=Ak.mp hx;show(if wk y=wk k then(wk y,V.bl true) else(wk y,V.bl true))=(wk y,V.bl true);rw[ite_self]
 |false=>
  rw[q] at e;rw[lT _ (by cases z:aJ (trK D) (wk k) with|none=>rfl|some _=>rw[z] at e;cases e)];unfold trK;rw[A6];rfl
theorem JA (D:Qt Pc):((trK D).map fun p=>nK p.1)=D.map pcD:=by
 unfold trK;rw[BA];refine Aq fun x _=> ?_;exact wV x
theorem JB {X:Cx}{o i:Qu}{td ty:TE}{pos:Pos}(hP:X.prog=P) (hw:X.w=w) (hu:X.A.units+2<cLine) (ho:PE X o td) (hi:PE X i ty) (hs:fT i):PE X (.Subscript o i pos) (uk P w td ty):=by
 subst hP hw;exact gT hu ho hi hs
inductive spSid (vs:List V) (H:Hp) (Q:VK) (E':XK):Prop
 |mk (v:V) (c:Pc):vs=[v]->Is H (pcD c) v->jt c->(∀l H',ae H H'->H l=none->Is H' (.l ((aL c).map pcD)) (.ref l)->Q (.ref l) H')->spSid vs H Q E'
inductive spGat (P:Program) (w:World) (vs:List V) (H:Hp) (Q:VK) (E':XK):Prop
 |mk (v1 v2:V) (xs:List Pc) (ps:List (Pc×Pc)):vs=[v1,v2]->Is H (.l (xs.map pcD)) v1->Is H (.l (ps.map ppD)) v2->xs.Nodup->xs.length<=1000->((∀x∈ps,x.1∈xs/\x.2∈xs))->(∀a H' kvs,ae H H'->H a=none->DN P w H' a kvs->GR H' (cb (bJ xs) ps) kvs->Q (.ref a) H')->spGat P w vs H Q E'
inductive spSets (P:Program) (w:World) (vs:List V) (H:Hp) (Q:VK) (E':XK):Prop
 |mk (v1 v2:V) (xs:List Pc) (ps:List (Pc×Pc)):vs=[v1,v2]->Is H (.l (xs.map pcD)) v1->Is H (.l (ps.map ppD)) v2->xs.Nodup->xs.length<=1000->((∀x∈ps,x.1∈xs/\x.2∈xs))->(∀H',ae H H'->Q (.int (pN xs ps)) H')->spSets P w vs H Q E'
inductive spThr (P:Program) (w:World) (vs:List V) (H:Hp) (Q:VK) (E':XK):Prop
 |mk (v:V) (cs:List Pc):vs=[v]->Is H (bR cs) v->Cut cs->(∀a H' kvs,ae H H'->H a=none->DN P w H' a kvs->GR H' (gq cs) kvs->Q (.ref a) H')->spThr P w vs H Q E'
inductive spCor (vs:List V) (H:Hp) (Q:VK) (E':XK):Prop
 |mk (v:V) (cs:List Pc):vs=[v]->Is H (bR cs) v->Cut cs->(∀l H',ae H H'->H l=none->Is H' (.l ((bo cs).map pcD)) (.ref l)->Q (.ref l) H')->spCor vs H Q E'
inductive spJoi (vs:List V) (H:Hp) (Q:VK) (E':XK):Prop
 |mk (v:V) (cs:List Pc):vs=[v]->Is H (bR cs) v->Cut cs->(∀l H',ae H H'->H l=none->Is H' (.l ((ju cs).map ppD)) (.ref l)->Q (.ref l) H')->spJoi vs H Q E'
inductive spInt (f:List Pc->Int) (vs:List V) (H:Hp) (Q:VK) (E':XK):Prop
 |mk (v:V) (cs:List Pc):vs=[v]->Is H (bR cs) v->Cut cs->(∀H',ae H H'->Q (.int (f cs)) H')->spInt f vs H Q E'
theorem JC {α:Type}{xs:Qt α}{x:α}(nd:xs.Nodup) (h:xs[i]? =some x):x∉xs.take i:=by
 obtain⟨hi,e⟩:=A8.mp h;intro hm;obtain⟨j,hj,ej⟩:=B6.mp hm;rw[AS] at hj;rw[List.getElem_take] at ej;have:=(List.getElem_inj (h₀:=by lia) (h₁:=hi) nd).mp (ej.trans e.symm);lia
theorem wX (nd:(S.map (·.1)).Nodup) (h:S[j]? =some y):y.1∉(S.take j).map (·.1)/\y.1∉(S.drop (j+1)).map (·.1):=by
 have e:S=S.take j++y::S.drop (j+1):=by rw[<-pT h,Bw]
 rw[e,A6,AE] at nd;obtain⟨n1,n2,n3⟩:=D5.mp nd;exact⟨fun z=>n3 _ z _ AW rfl,(BI.mp n2).1⟩
theorem JD {p:Pt}:∀{c:Qt Pt},c≠[]->(c.map pt)[c.length-1]? =some (pt (c.getLastD p)):=by
 intro c h;rw[AC,List.getLastD_eq_getLast?,List.getLast?_eq_getElem?,A2 (by have:=List.length_pos_iff.mpr h;lia)];rfl
section
variable {P:Qp}{w:Qr}{K:W.Frag}{mg:Str->Qw NR}{base:Qv} (T:Fns K mg)
theorem JE:OKQ T.X67 P w base 1 (spCell K):=by
 refine FbO T.X67 GK fun _ _ _ _ H vs Q E hr h=> ?_;obtain⟨a,ns,k,rfl,hS,h0,kk⟩:=h;refine⟨_,(ai (aW (aQ fN (pv 1) (bm iK (by rfl) T.n_len DL (ab (pv 0) af)) (aI _)) (aj (ap (ax ee (pv 0) (pv 1) (fun _ _=>rfl)))) aX)
  (aj (ap ag))), ?_⟩
 refine⟨_,rfl,_,rfl,a,_,rfl, .inl hS,_,_,rfl,rfl,_,rfl, ?_⟩;refine bz (fun h=> ?_) (fun _=>kk 0);rw[A1] at h;have hk:k.toNat<ns.length:=by lia
 refine⟨_,rfl,_,rfl,a,_,k, .int ns[k.toNat],rfl,rfl,hS, ?_,kk _⟩;have e:((k.toNat:Nat):Int)=k:=by lia
 have:=lP (xs:=ns.map V.int) (j:=k.toNat) (v:= .int ns[k.toNat]) (by simp[hk]);rw[e] at this;exact this
theorem wY:OKQ T.X0 P w base 1 sp_whole:=by
 refine FbO T.X0 Gk fun _ _ _ _ H vs Q E hr h=> ?_;obtain⟨v,rfl,ht,kk⟩:=h;refine⟨_,(aj (ap (lI (bm lW (by rfl) T.n_isinstance boot_isinstance (ab (pv 0) (ab (lH (v:= .ty "int") (by rfl) T.n_int boot_int (by rfl)) af))) (jG (x8 (bm lW (by rfl) T.n_isinstance boot_isinstance (ab (pv 0) (ab (lH (v:= .ty "bool") (by rfl) T.n_bool boot_bool (by rfl)) af)))))))), ?_⟩;rcases ht with⟨i,rfl⟩|⟨b,rfl⟩|rfl|⟨x,rfl⟩|⟨a,xs,rfl,ha⟩|⟨a,xs,rfl,ha⟩
 .exact⟨_,rfl,_,"int",_,true,rfl, .int i,rC,true,rfl,dy ⟨_,rfl,_,"bool",_,false,rfl, .int i,zG,false,rfl,kk⟩⟩
 .exact⟨_,rfl,_,"int",_,true,rfl, .bl b,zH,true,rfl,dy ⟨_,rfl,_,"bool",_,true,rfl, .bl b,rC,true,rfl,kk⟩⟩
 .exact⟨_,rfl,_,"int",_,false,rfl, .non,Dm,false,rfl,bM kk⟩
 .exact⟨_,rfl,_,"int",_,false,rfl, .str x,Do,false,rfl,bM kk⟩
 .exact⟨_,rfl,_,"int",_,false,rfl, .lst ha,Dp,false,rfl,bM kk⟩
 .exact⟨_,rfl,_,"int",_,false,rfl, .tup ha,Dq,false,rfl,bM kk⟩
theorem gv:OKQ T.X1 P w base 2 spBetQ:=by
 refine FbO T.X1 Gm fun _ _ _ _ H vs Q E hr h=> ?_;obtain⟨i,lo,hi,rfl,h1,h2,kk⟩:=h;refine⟨_,(aj (aW (fL (gx (fK (pcq (wY T) hr T.X0 (ab (pv 0) af)))) (fL (aQ fN (pv 0) (pv 1) (aI _)) (gw (aQ fO (pv 0) (pv 2) (aI _))))).pt (aj jH) aX)), ?_⟩;refine⟨_,rfl,_,rfl, .inl ⟨_,rfl⟩,true,rfl,bM ⟨_,rfl,_,rfl,i,lo,rfl,rfl,_,rfl,bz (fun hl=>absurd hl (by lia)) (fun _=> ?_)⟩⟩;exact⟨_,rfl,_,rfl,i,hi,rfl,rfl,_,rfl,bz (fun hl=>absurd hl (by lia)) (fun _=>kk)⟩
theorem iB:OKQ T.X4 P w base 3 spDegQ:=by
 refine FbO T.X4 Gp fun _ _ _ _ H vs Q E hr h=> ?_;obtain⟨i,rfl,h1,h2,kk⟩:=h;refine⟨_,(aj (aO (pcq (gv T) hr T.X1 (ab (pv 0) (ab ag (ab ag af)))))), ?_⟩;exact⟨_,rfl,i,1,5,rfl,h1,h2,kk⟩
theorem lD:OKQ T.X3 P w base 3 spWidQ:=by
 refine FbO T.X3 Go fun _ _ _ _ H vs Q E hr h=> ?_;obtain⟨d,k,rfl,hW,kk⟩:=h;refine⟨_,(ai (aO (pcq (gv T) hr T.X1 (ab (pv 0) (ab ag (ab ag af)))))
  (aj (aO (pcq (gv T) hr T.X1 (ab (pv 1) (ab ag (ab (sE (jF (v:= .ref T.a_WIDE) (by rfl) T.m_WIDE (by rfl)) (pv 0) (fun _ _=>rfl)) af))))))), ?_⟩
 unfold Wide at hW;refine⟨_,rfl,d,1,5,rfl,by lia,by lia, ?_⟩;obtain⟨hi,hl,hN⟩:∃hi:Int,([(1,6),(2,6),(3,6),(4,6),(5,3)]:Qt (Int×Int)).lookup (d:Int)=some hi/\(k:Int)<=hi:=by
  have hd:d=1\/d=2\/d=3\/d=4\/d=5:=by lia
  rcases hd with rfl|rfl|rfl|rfl|rfl
  .exact⟨6,rfl,by lia⟩
  .exact⟨6,rfl,by lia⟩
  .exact⟨6,rfl,by lia⟩
  .exact⟨6,rfl,by lia⟩
  .exact⟨3,rfl,by lia⟩
 exact⟨_,rfl,_,rfl,T.a_WIDE,_,d,hi,rfl,T.D_WIDE,rfl,hl,k,0,hi,rfl,by lia,hN,kk⟩
theorem wZ:OKQ T.X2 P w base 3 spNarQ:=by
 refine FbO T.X2 Gn fun _ _ _ _ H vs Q E hr h=> ?_;obtain⟨d,k,rfl,hW,kk⟩:=h;refine⟨_,(ai (aO (pcq (gv T) hr T.X1 (ab (pv 0) (ab ag (ab ag af)))))
  (aj (aO (pcq (gv T) hr T.X1 (ab (pv 1) (ab ag (ab (sE (jF (v:= .ref T.a_NARROW) (by rfl) T.m_NARROW (by rfl)) (pv 0) (fun _ _=>rfl)) af))))))), ?_⟩
 unfold gp at hW;refine⟨_,rfl,d,1,4,rfl,by lia,by lia, ?_⟩;obtain⟨hi,hl,hN⟩:∃hi:Int,([(1,6),(2,6),(3,6),(4,2)]:Qt (Int×Int)).lookup (d:Int)=some hi/\(k:Int)<=hi:=by
  have hd:d=1\/d=2\/d=3\/d=4:=by lia
  rcases hd with rfl|rfl|rfl|rfl
  .exact⟨6,rfl,by lia⟩
  .exact⟨6,rfl,by lia⟩
  .exact⟨6,rfl,by lia⟩
  .exact⟨2,rfl,by lia⟩
 exact⟨_,rfl,_,rfl,T.a_NARROW,_,d,hi,rfl,T.D_NARROW,rfl,hl,k,0,hi,rfl,by lia,hN,kk⟩
theorem qj:OKQ T.X29 P w base 4 spEndQ:=by
 refine FbO T.X29 i6 fun _ _ _ _ H vs Q E hr h=> ?_;obtain⟨n,dv,ps,rfl,n1',n5',hd,hok,k2⟩:=h;refine⟨_,(ai (aO (pcq (iB T) hr T.X4 (ab (pv 0) af)))
  (ai (pSA (i:=2) i6.nd (ah iU (aM (ab ag af)) (pv 0)))
  (ai (aA AD rfl (aP (pv 1)) (cH rfl (aT (pGA (i:=3) i6.nd) (aT (pGA (i:=4) i6.nd) (aT (pGA (i:=5) i6.nd) cj)))) (ai (qE (pv 2) (ah aC (pv 3) ag) rL (pv 5) ym lQ)
  (aj (qE (pv 2) (ah aC (pv 4) ag) rL (pv 5) jJ lQ))))
  (aj (ap (pv 2)))))), ?_⟩
 refine⟨_,rfl,n,rfl,by lia,by lia, ?_⟩;refine⟨(zB rfl),fun l1 H1 n1 s1 h1=> ?_⟩;refine⟨_,rfl, .i 1,n,aB h1 (ak bq ao),rfl,by lia,by lia,Ad (ay (by lia)),fun l H2 n2 s2 h2=> ?_⟩;rw[Az] at h2;obtain⟨_,OH,e2,Ly,Mt⟩:=az h2;cases e2;rw[<-Cw] at Mt;rw[jW Mt] at Ly;have Op:=s1.trans s2;obtain⟨da,K6,rfl,L4,Md⟩:=az hd;have KS:K6.length=ps.length:=by rw[Md.length,A1]
 refine⟨_,rfl,da,rfl,⟨_,SqL.of (Op _ _ L4)⟩,aY (xs:=K6) (fun i σ H3=>(∃v3 v4 v5,σ=[some (.int n),some (.ref da),some (.ref l),v3,v4,v5])/\ae H H3/\H3 l=some (.lst (((ps.take i).foldl di (List.replicate n 1)).map V.int)))
  ⟨⟨none,none,none,rfl⟩,Op,Ly⟩ (fun i σ H3 _ h=>SqL.of (h.2.1 _ _ L4)) ?_ ?_⟩
 .rintro i y σ H3 hi ⟨⟨v3,v4,v5,rfl⟩,s3,MD⟩;obtain⟨p,Lp,hy⟩:=aH Md hi;obtain⟨t,rfl,M0⟩:=fE hy;obtain⟨o1,o2,o3,o4⟩:=hok p (AH Lp);have el:=(kw (ps.take i) (List.replicate n 1) (by simp) fun q hq=>hok q (Cb hq)).1;have en:(ps.take (i+1)).foldl di (List.replicate n 1)=di ((ps.take i).foldl di (List.replicate n 1)) p:=by
   rw[AK,Lp,Bi];rfl
  rw[en];generalize (ps.take i).foldl di (List.replicate n 1)=e at MD el⊢;have nl:H l=none:=s1.free n2;refine⟨t,_,rfl,SqT.of (s3 _ _ M0),rfl, ?_⟩;refine⟨_,_,rfl,_,_,rfl,_,_,rfl,rfl, ?_⟩;have j1:(p.1-1).toNat<e.length:=by lia
  have j2:(p.2.1-1).toNat<e.length:=by lia
  have k1:p.1-1=((p.1-1).toNat:Int):=by lia
  have kq:p.2.1-1=((p.2.1-1).toNat:Int):=by lia
  have g1:(e.map V.int)[(p.1-1).toNat]? =some (.int (e.getD (p.1-1).toNat 0)):=by
   exact oO j1
  refine⟨_,rfl,_,rfl,_,_,rfl,rfl, ?_⟩;refine⟨l,_,(p.1-1).toNat,_,_,rfl,rfl,k1,SqL.of MD,g1, ?_⟩;refine⟨_,rfl,_,_,rfl,rfl,l,_,_,(p.1-1).toNat,rfl,rfl,MD,by rw[k1,A1];exact rJ j1, ?_⟩;rw[<-map_set];have j2':(p.2.1-1).toNat<(e.set (p.1-1).toNat (e.getD (p.1-1).toNat 0-p.2.2)).length:=by rw[C1];exact j2
  have g2:((e.set (p.1-1).toNat (e.getD (p.1-1).toNat 0-p.2.2)).map V.int)[(p.2.1-1).toNat]? =some (.int ((e.set (p.1-1).toNat (e.getD (p.1-1).toNat 0-p.2.2)).getD (p.2.1-1).toNat 0)):=by
   exact oO j2'
  refine⟨_,rfl,_,rfl,_,_,rfl,rfl, ?_⟩;refine⟨l,_,(p.2.1-1).toNat,_,_,rfl,rfl,kq,SqL.of al,g2, ?_⟩;refine⟨_,rfl,_,_,rfl,rfl,l,_,_,(p.2.1-1).toNat,rfl,rfl,al,by rw[kq,A1];exact rJ j2', ?_⟩;rw[<-map_set,xL];exact⟨⟨_,_,_,rfl⟩,s3.put nl,al⟩
 .rintro σ H3 ⟨⟨v3,v4,v5,rfl⟩,s3,MD⟩;rw[KS,AF] at MD;exact⟨_,rfl,k2 l H3 s3 (s1.free n2) MD⟩
theorem lE:OKQ T.X31 P w base 1 spLost:=by
 refine FbO T.X31 Gy fun _ _ _ _ H vs Q E hr h=> ?_;obtain⟨v,p,rfl,hv,⟨p1,p2,p3,p4⟩,kk⟩:=h;refine⟨_,(aj (ap (ah aC (ah aU (ah aC (ax aN (pv 0) ag (fun _ _=>rfl)) (ax aN (pv 0) ag (fun _ _=>rfl))) (ax aN (pv 0) ag (fun _ _=>rfl))) ag))), ?_⟩;refine⟨_,rfl,_,1,_,hv,rfl,rfl,fun u hu=> ?_⟩;rw[aE hu];refine⟨_,rfl,_,0,_,hv,rfl,rfl,fun u hu=> ?_⟩;rw[aE hu];refine⟨_,_,rfl,rfl,_,rfl,_,2,_,hv,rfl,rfl,fun u hu=> ?_⟩;rw[aE hu];exact⟨_,_,rfl,rfl, .inr ⟨by lia,by lia⟩,_,_,rfl,rfl,kk⟩
theorem JF:OKQ T.X32 P w base 2 spLfr:=by
 refine FbO T.X32 ke fun _ _ _ _ H vs Q E hr h=> ?_;obtain⟨d,f,n,sp,rfl,fd,d5,n20,kk⟩:=h;refine⟨_,(ai (pSA (i:=4) ke.nd (aM af))
  (ai (aA AD rfl (dJ (by rfl) T.n_range (ab (ah aG (pv 1) ag) (ab (ah aG (pv 0) ag) af))) (pGA (i:=5) ke.nd) (aj (aA AD rfl (dJ (by rfl) T.n_range (ab ag (ab (ah aG (pv 2) ag) af))) (pGA (i:=6) ke.nd) (aj (aW (aQ gC (pcq (lE T) hr T.X31 (ab (bf (ab (pv 1) (ab (pv 5) (ab (pv 6) af)))) af)) (pv 3) (aI _)) (aj (aO (bG AU Ah Ag ck (pv 4) (ab (bf (ab (pv 1) (ab (pv 5) (ab (pv 6) af)))) af)))) aX)))))
  (aj (ap (pv 4))))), ?_⟩
 refine⟨AL _,fun fo H1 n1 s1 h1=> ?_⟩;refine⟨_,rfl,_,_,rfl,rfl,_,rfl,_,_,rfl,rfl,_,_,rfl,⟨by lia,by lia,by lia,by lia⟩, ?_⟩;rw[show((d:Int)+1-((f:Int)+1)).toNat=d-f by lia];refine cu (lo:=(f:Int)+1) (n:=d-f) (fun i σ H2=>(∃v5 v6,σ=[some (.int d),some (.int f),some (.int n),some (.int sp),some (.ref fo),v5,v6])/\ae H H2/\∃vs,H2 fo=some (.lst vs)/\Iss H2 ((dj f i n sp).map lf) vs) ⟨⟨none,none,rfl⟩,s1,[],h1,ao⟩ ?_ ?_
 .rintro i σ H2 hi ⟨⟨v5,v6,rfl⟩,s2,OH,Lc,P4⟩;refine⟨_,rfl,_,_,rfl,rfl,_,_,rfl,⟨by decide,by decide,by lia,by lia⟩, ?_⟩;rw[show((n:Int)+1-1).toNat=n by lia];refine cu (lo:=1) (n:=n) (fun j σ H3=>(∃v6,σ=[some (.int d),some (.int f),some (.int n),some (.int sp),some (.ref fo),some (.int ((f:Int)+1+(i:Int))),v6])/\ae H H3/\∃vs,H3 fo=some (.lst vs)/\Iss H3 ((dj f i n sp++eD f ((f:Int)+1+(i:Int)) j sp).map lf) vs) ⟨⟨v6,rfl⟩,s2,OH,Lc,by simpa[eD] using P4⟩ ?_ ?_
  .rintro j σ H3 hj ⟨⟨v6,rfl⟩,s3,N0,K0,N1⟩;have vl:N0.length<=200:=by
    rw[N1.length,A1,AA];have a:=oQ f n sp i;have b:=uM f ((f:Int)+1+(i:Int)) j sp;have:i*n<=5*20:=Nat.mul_le_mul (by lia) n20;lia
   refine⟨_,rfl,_,rfl,_,rfl,(zB rfl),fun t H4 nt s4 ht=>⟨.ref t,((f:Int),(f:Int)+1+(i:Int),1+(j:Int)),rfl,jh ht,⟨?_, ?_, ?_, ?_⟩,_,rfl,_,_,rfl,rfl,_,rfl,bz (fun c=> ?_) (fun c=> ?_)⟩⟩
   .show 0<=(f:Int)+1+(i:Int)-(f:Int);lia
   .show(f:Int)+1+(i:Int)-(f:Int)<=10;lia
   .show 1<=1+(j:Int);lia
   .show 1+(j:Int)<=20;lia
   .refine⟨_,rfl, .inl ⟨rfl,_,SqL.of (s4 _ _ K0)⟩,_,rfl,_,rfl,_,rfl,(zB rfl),fun t2 H5 nt2 s5 P5=>⟨fo,N0,_,rfl,rfl,s5 _ _ (s4 _ _ K0),ay (by lia),⟨_,rfl⟩,(s3.trans (s4.trans s5)).put n1,_,al, ?_⟩⟩;rw[uK,A7 c,<-BP];refine kA (av.upd (s5 _ _ (s4 _ _ K0))) ?_;rw[A6];exact(N1.mono (s4.trans s5)).append (ak (jh P5) ao)
   .refine⟨⟨_,rfl⟩,s3.trans s4,N0,s4 _ _ K0, ?_⟩;rw[uK,A5 c,B5];exact N1.mono s4
  .rintro σ H3 ⟨⟨v6,rfl⟩,s3,N0,K0,N1⟩;exact⟨⟨_,_,rfl⟩,s3,N0,K0,by rw[uL];exact N1⟩
 .rintro σ H2 ⟨⟨v5,v6,rfl⟩,s2,OH,Lc,P4⟩;exact⟨_,rfl,kk fo H2 s2 n1 (aB Lc P4)⟩
theorem w4:∀n:Nat,FnOk P w K mg base CX0 (n+1) T.f33 T.d33 ["lifts","weight","spare"] (spLeav n K)
 |0=>⟨fun vs H Q E h=>by obtain⟨_,_,_,_,_,_,_,h,h',_⟩:=h;lia,fun A outer s H args us vs Q E _ _ _ _ h=>by obtain⟨_,_,_,_,_,_,_,h,h',_⟩:=h;lia⟩
 |n+1=>by
  have ih:=w4 n;refine T.X33.F.ok i7 (fun vs H Q E h=> ?_) (fun Lb A outer s H vs Q E hr h=> ?_)
  .obtain⟨_,_,_,_,rfl,_⟩:=h;rfl
  .obtain⟨v,ls,wt,sp,rfl,hv,hok,w0,w1,hL,hl,hn,kk⟩:=h;refine⟨_,(ai (pSA (i:=3) i7.nd (aM (ab (aM af) af)))
   (ai (aA AD rfl (md (by rfl) T.n_enumerate (pv 0)) (cH rfl (aT (pGA (i:=4) i7.nd) (aT (pGA (i:=5) i7.nd) cj))) (aj (aW (xX (aQ gC (ax aN (pv 5) ag (fun _ _=>rfl)) (pv 1) (aI _)) (xW (aQ gC (pcq (lE T) hr T.X31 (ab (pv 5) af) (by lia)) (pv 2) (aI _)))).pt (aj (aA AD rfl (aP (fu ih hr (by rfl) T.X33.m T.X33.F.kp T.X33.B .nil fx (ab (dZ fw (pv 0) (dN (pv 4)) eT) (ab (ah aC (pv 1) (ax aN (pv 5) ag (fun _ _=>rfl))) (ab (ah aC (pv 2) (pcq (lE T) hr T.X31 (ab (pv 5) af) (by lia))) af))))) (pGA (i:=6) i7.nd) (aj (aO (bG AU Ah Ag ck (pv 3) (ab (ah df (aM (ab (pv 5) af)) (pv 6)) af)))))) aX)))
   (aj (ap (pv 3))))), ?_⟩
   obtain⟨da,K6,rfl,L4,Md⟩:=az hv;have Nq:K6.length=ls.length:=by rw[Md.length,A1]
   refine⟨AL _,fun e0 H1 ne s1 he=>⟨(zB rfl),fun fo H2 nf s2 Lk=> ?_⟩⟩;have Ni:H fo=none:=s1.free nf;have e0fo:e0≠fo:=by rintro rfl;rw[he] at nf;cases nf
   have acc0:Acc H H2 fo (([[]]:Qt (Qt Lf)).map lfs):=⟨[.ref e0],Lk,ak (aB (vs:=[]) (by rw[dC e0fo,bY ne];exact s2 _ _ he) ao) ao⟩;have tot:∀i:Nat,i<ls.length->1+((List.range i).flatMap (dk n ls wt sp)).length+(dk n ls wt sp i).length<=1000:=fun i hi=>by
    have:=kC (dk n ls wt sp) hi;rw[oP,AA,DA] at hL;lia
   refine⟨_,rfl,da,rfl,⟨_,SqL.of (s2 _ _ (s1 _ _ L4))⟩,rK (xs:=K6) (fun i σ H3=>(∃v4 v5 v6,σ=[some (.ref da),some (.int wt),some (.int sp),some (.ref fo),v4,v5,v6])/\ae H H3/\Acc H H3 fo (([[]]++(List.range i).flatMap (dk n ls wt sp)).map lfs)) ⟨⟨none,none,none,rfl⟩,s1.trans s2,by simpa using acc0⟩ (fun i σ H3 _ h=>SqL.of (h.2.1 _ _ L4)) ?_ ?_⟩
   .rintro i y σ H3 pa hi ⟨⟨v4,v5,v6,rfl⟩,s3,KR⟩ np;obtain⟨p,Lp,hy⟩:=aH Md hi;have O6:i<ls.length:=(A8.mp Lp).1;obtain⟨p1,p2,p3,p4⟩:=id (hok p (AH Lp));have tt:=tot i O6;have s34:ae H3 (upd H3 pa (.tup [.int i,y])):=ae.new np;have Nj:=KR.mono s34;have stay:dk n ls wt sp i=[]->Acc H (upd H3 pa (.tup [.int i,y])) fo (([[]]++(List.range (i+1)).flatMap (dk n ls wt sp)).map lfs):=fun e=>by
     rw[gj,e,B5];exact Nj
    have O7:Is (upd H3 pa (.tup [.int i,y])) (lf p) y:=(hy.mono s3).mono s34;refine⟨pa,_,rfl,SqT.of al,rfl,_,_,rfl,_,_,rfl,rfl, ?_⟩;generalize upd H3 pa (.tup [.int i,y])=H4 at s34 Nj stay O7⊢;have s4:ae H H4:=s3.trans s34;refine⟨_,rfl,_,2,_,O7,rfl,rfl,fun u hu=> ?_⟩;rw[aE hu];refine⟨_,rfl,_,_,rfl,rfl,_,rfl,bz (fun c1=> ?_) (fun c1=> ?_)⟩
    .refine⟨_,rfl,y,p,rfl,O7,⟨p1,p2,p3,p4⟩,_,rfl,_,_,rfl,rfl,_,rfl,bz (fun c2=> ?_) (fun c2=> ?_)⟩
     .have eG:dk n ls wt sp i=(cy n (ls.drop i) (wt-p.2.2) (sp-ce p)).map (p:: ·):=by
       unfold dk;rw[Lp];exact A7 ⟨c1,c2⟩
      rw[eG,A1] at tt;refine⟨_,rfl,_,rfl,i,rfl,da,_,rfl,SqL.of (s4 _ _ L4), ?_⟩;rw[lw (by lia)];intro l2 n2;have s45:ae H4 (upd H4 l2 (.lst (K6.drop i))):=ae.new n2;have Ly:(upd H4 l2 (.lst (K6.drop i))) l2=some (.lst (K6.drop i)):=al;generalize upd H4 l2 (.lst (K6.drop i))=H5 at s45 Ly⊢;have s5:=s4.trans s45;have hdr:Is H5 (lfs (ls.drop i)) (.ref l2):=aB Ly (by rw[List.map_drop];exact(Md.drop i).mono s5);refine⟨_,rfl,_,rfl,_,2,_,O7.mono s45,rfl,rfl,fun u hu=> ?_⟩;rw[aE hu];refine⟨_,_,rfl,rfl,_,rfl,_,rfl,y,p,rfl,O7.mono s45,⟨p1,p2,p3,p4⟩,_,_,rfl,rfl, ?_⟩;refine⟨.ref l2,ls.drop i,wt-p.2.2,sp-ce p,rfl,hdr,fun q hq=>hok q (DF hq),by lia,by lia,by lia,by rw[Bs];lia,by lia,fun rl H6 s6 Mn MQ=> ?_⟩;obtain⟨NB,K7,Nr⟩:=Nj.mono s45;have M1:H6 fo=some (.lst NB):=s6 _ _ K7;obtain⟨_,LC,e,N2,LR⟩:=az MQ;cases e;have N3:H6 rl=some (.lst LC):=bu _ _ N2;have M3:rl≠fo:=by rintro rfl;rw[K7] at Mn;cases Mn
      have Ld:LC.length=(cy n (ls.drop i) (wt-p.2.2) (sp-ce p)).length:=by rw[LR.length,A1]
      have N4:Iss (hid H6 fo) ((cy n (ls.drop i) (wt-p.2.2) (sp-ce p)).map lfs) LC:=(LR.mono (ib (ae.refl H5) K7)).mono (cZ bu);have s56:=s5.trans s6;refine⟨rl,rfl,⟨_,SqL.of N3⟩,aY (xs:=LC) (fun j σ H7=>(∃v6,σ=[some (.ref da),some (.int wt),some (.int sp),some (.ref fo),some (.int i),some y,v6])/\ae H H7/\But fo H6 H7/\Acc H H7 fo (([[]]++(List.range i).flatMap (dk n ls wt sp)++((cy n (ls.drop i) (wt-p.2.2) (sp-ce p)).take j).map (p:: ·)).map lfs)) ⟨⟨_,rfl⟩,s56,fun _ _ e _=>e,by simpa using (Nj.mono s45).mono s6⟩ (fun j σ H7 _ h=>SqL.of (h.2.2.1 _ _ N3 M3)) ?_ ?_⟩
      .rintro j x σ H7 hj ⟨⟨v6,rfl⟩,s7,but7,vs7,M4,hi7⟩;obtain⟨r,Ln,hx⟩:=aH N4 hj;have hjl:j<(cy n (ls.drop i) (wt-p.2.2) (sp-ce p)).length:=(A8.mp Ln).1;have hx7:Is H7 (lfs r) x:=hx.mono (lu but7);have ritem:=(oS (fun q hq=>(hok q (DF hq)).2.2.1) (by lia) (AH Ln)).1;have vl:vs7.length<=999:=by
        rw[hi7.length,A1,AA,AA,A1,AS,DA];lia
       have P6:Is H7 (lf p) y:=hy.mono s7;refine⟨_,rfl, .inl ⟨rfl,_,SqL.of M4⟩,_,rfl,(zB rfl),fun q1 H8 n8 s8 h8=>⟨_,rfl,[lf p],r.map lf,aB h8 (ak (P6.mono s8) ao),hx7.mono s8,Ad (ay (by rw[A1];show 1+r.length<=1000;lia)),fun q2 H9 n9 s9 h9=> ?_⟩⟩;have s79:=s8.trans s9;refine⟨fo,vs7,_,rfl,rfl,s79 _ _ M4,ay (by lia),⟨_,rfl⟩,(s7.trans s79).put Ni,but7.trans ((But.of_same s79).trans But.upd), ?_⟩;rw[AK,Ln];have:=Acc.add s7 s79 M4 hi7 (uI (ps:=p::r) s79 (s8.free n9) h9);simpa using this
      .rintro σ H7 ⟨⟨v6,rfl⟩,s7,_,MO⟩;refine⟨⟨_,_,_,rfl⟩,s7, ?_⟩;rw[Ld,AF,<-eG,BP,<-gj] at MO;exact MO
     .refine⟨⟨_,_,_,rfl⟩,s4,stay ?_⟩;unfold dk;rw[Lp];exact A5 fun z=>c2 z.2
    .refine bM ⟨⟨_,_,_,rfl⟩,s4,stay ?_⟩;unfold dk;rw[Lp];exact A5 fun z=>c1 z.1
   .rintro σ H3 ⟨⟨v4,v5,v6,rfl⟩,s3,KR⟩;rw[Nq,<-oP] at KR;exact⟨_,rfl,kk fo H3 s3 Ni (KR.is Ni)⟩
theorem JG:OKQ T.X34 P w base 10 spWith:=by
 refine FbO T.X34 gZ fun Lb A outer s H vs Q E hr h=> ?_;obtain⟨d,f,v,x,rfl,fd,d5,hv,K8,kk⟩:=h;refine⟨_,(ai (pSA (i:=4) gZ.nd (ax ee (pcq (qj T) hr T.X29 (ab (pv 0) (ab (pv 2) af))) (ah aC (pv 1) ag) (fun _ _=>rfl)))
  (ai (pSA (i:=5) gZ.nd (aM af))
  (ai (aA AD rfl (aP (pcq (w4 T 8) hr T.X33 (ab (pcq (JF T) hr T.X32 (ab (pv 0) (ab (pv 1) (ab (pv 4) (ab (pv 3) af))))) (ab (pv 4) (ab (pv 3) af))))) (pGA (i:=6) gZ.nd) (ai (pSA (i:=7) gZ.nd (ah aC (pv 4) (bm (iS rfl) (by rfl) T.n_sum boot_sum (ab (cV (XN:=["d","floor","drawing","spare","there","found","lifts","ends","left"]) (sc:=am i8) (N:=["lift"]) (own:=1) (js:=[]) rfl (by ac_nf) rfl rfl (aP (pv 6)) (fun _ _ _ _=>(bK (i:=0) (show List.Nodup (["lift"]:Qt Str) by ac_nf) rfl (Or.inl rfl) (.inr rfl))) (cU (by decide)) (fun _ _ _ _=>dz) (fun _ _ _ _=>(ax aN (pv 0) ag (fun _ _=>rfl)))) af))))
  (ai (pSA (i:=8) gZ.nd (ah aC (ah aC (pv 3) (bm (iS rfl) (by rfl) T.n_sum boot_sum (ab (cV (XN:=["d","floor","drawing","spare","there","found","lifts","ends","left"]) (sc:=am i8) (N:=["lift"]) (own:=1) (js:=[]) rfl (by ac_nf) rfl rfl (aP (pv 6)) (fun _ _ _ _=>(bK (i:=0) (show List.Nodup (["lift"]:Qt Str) by ac_nf) rfl (Or.inl rfl) (.inr rfl))) (cU (by decide)) (fun _ _ _ _=>dz) (fun _ _ _ _=>(pcq (lE T) hr T.X31 (ab (pv 0) af)))) af))) (ah aU (pv 7) (ah aC (pv 0) (pv 1)))))
  (aj (aW (aQ iI (pv 8) ag (aI _)) (aj (aO (bG AU Ah Ag ck (pv 5) (ab (bf (ab (ah df (pv 2) (pv 6)) (ab (pv 8) af))) af)))) aX)))))
  (aj (ap (pv 5)))))), ?_⟩
 obtain⟨b1,b2,b3,b4,b5,b6,b7⟩:=GY K8;have okl:∀p∈x.1,Okl d p:=fun p hp=>by
  obtain⟨o1,o2,o3,o4,o5⟩:=oT.mp (b1 p hp);exact⟨o1,by lia,by lia,o3⟩
 have elen:=kx d x.1 okl;refine⟨_,rfl,_,rfl,d,v,x.1,rfl,by lia,d5,hv,okl,fun el H1 s1 nel hel=> ?_⟩;refine⟨_,rfl,_,_,rfl,rfl,el,_,_, .int (thF d (f+1) x.1),rfl,rfl,SqL.of hel,fY (j:=f) (by lia) (by rw[oO (by lia)];rfl), ?_⟩;unfold dQ at kk;generalize thF d (f+1) x.1=th at b3 b4 b7 kk⊢;obtain⟨n,rfl⟩:=CO b3;refine⟨AL _,fun fo H2 nf s2 Lk=> ?_⟩;have Ni:H fo=none:=s1.free nf;have Mk:=s1.trans s2;refine⟨_,rfl,_,rfl,_,rfl,_,rfl,d,f+1,n,x.2,rfl,by lia,d5,by lia,fun l0 H3 s3 O8 Nt=> ?_⟩;refine⟨_,rfl,_,rfl, .ref l0,dj ((f+1:Nat):Int) (d-(f+1)) n x.2,(n:Int),x.2,rfl,Nt,fun p hp=> ?_,by lia,by lia, ?_, ?_,by decide,fun rl H4 s4 Mn MQ=> ?_⟩
 .obtain⟨e1,e2,e3,e4,e5⟩:=oR hp;exact⟨by lia,by lia,by lia,by lia⟩
 .exact B9 b7 (by decide)
 .have:=oQ ((f+1:Nat):Int) n x.2 (d-(f+1));have:(d-(f+1))*n<=5*8:=Nat.mul_le_mul (by lia) (by lia);lia
 have eL:cy 8 (dj ((f+1:Nat):Int) (d-(f+1)) n x.2) (n:Int) x.2=gi d (f+1) n x.2:=by unfold gi;rw[Az]
 have O9:∀r∈gi d (f+1) n x.2,r.length<=8/\0<=(r.map (·.2.2)).sum/\(r.map (·.2.2)).sum<=(n:Int)/\∀p∈r,Lok p:=fun r hr=>by
  rw[<-eL] at hr;obtain⟨i1,i2,i3,i4⟩:=oS (fun q hq=>(oR hq).2.2.2.1) (by lia) hr;exact⟨i1,i2,i3,fun p hp=>by
   obtain⟨e1,e2,e3,e4,e5⟩:=oR (i4 p hp);exact⟨by lia,by lia,by lia,by lia⟩⟩
 rw[eL] at MQ;generalize gi d (f+1) n x.2=L at MQ O9 kk b7;have Lj:=Mk.trans s3;have K0:H3 fo=some (.lst []):=s3 _ _ Lk;have hfo4:H4 fo=some (.lst []):=s4 _ _ K0;obtain⟨_,LC,e,N2,LR⟩:=az MQ;cases e;have MP:H4 rl=some (.lst LC):=bu _ _ N2;have M3:rl≠fo:=by rintro rfl;rw[K0] at Mn;cases Mn
 have Ld:LC.length=L.length:=by rw[LR.length,A1]
 have N4:Iss (hid H4 fo) (L.map lfs) LC:=(LR.mono (ib (ae.refl H3) K0)).mono (cZ bu);have M5:=Lj.trans s4;refine⟨rl,rfl,⟨_,SqL.of MP⟩,aY (xs:=LC) (fun j σ H5=>(∃v6 v7 v8,σ=[some (.int d),some (.int ((f+1:Nat):Int)),some v,some (.int x.2),some (.int n),some (.ref fo),v6,v7,v8])/\ae H H5/\But fo H4 H5/\Acc H H5 fo ((((L.take j).filter fun ls=>decide (0<=fb d (f+1) n x.2 ls)).map fun ls=>(x.1++ls,fb d (f+1) n x.2 ls)).map stD)) ⟨⟨none,none,none,rfl⟩,M5,fun _ _ e _=>e,Acc.start hfo4⟩ (fun j σ H5 _ h=>SqL.of (h.2.2.1 _ _ MP M3)) ?_ ?_⟩
 .rintro j y σ H5 hj ⟨⟨v6,v7,v8,rfl⟩,s5,My,NB,K7,Nr⟩;obtain⟨r,Ln,hy⟩:=aH N4 hj;have hy5:Is H5 (lfs r) y:=hy.mono (lu My);obtain⟨i1,i2,i3,i4⟩:=O9 r (AH Ln);obtain⟨ya,ys,rfl,O',hyi⟩:=az hy5;have ylen:ys.length=r.length:=by rw[hyi.length,A1]
  have vl:NB.length<=200:=by
   rw[Nr.length,A1,A1];refine B9 (Bl _ _) ?_;rw[AS];lia
  refine⟨_,rfl,_,rfl,ya,rfl,⟨_,SqL.of O'⟩,fun acc na=> ?_⟩;refine dP (xs:=ys) (own:=1) (js:=[]) (fun i H6=>ae H5 H6/\H6 acc=some (.lst (((r.take i).map (·.2.2)).map V.int))) ⟨ae.new na,al⟩ (fun i H6 _ h=>SqL.of (h.1 _ _ O')) ?_ ?_ cW dB ?_
  .rintro i z H6 hz ⟨s6,KR⟩;obtain⟨p,Lp,hzi⟩:=aH hyi hz;refine eV ?_;refine⟨_,rfl,_,2,_,hzi.mono s6,rfl,rfl,fun u hu=> ?_⟩;rw[aE hu];refine⟨acc,_,_,rfl,rfl,KR,ay ?_,s6.put na, ?_⟩
   .rw [A1,A1,AS];lia
   .rw [al,AK,Lp,A6,A6];rfl
  .rintro H6 ⟨s6,KR⟩;rw[ylen,AF] at KR;refine⟨acc,_,rfl,SqL.of KR,_,_,rfl,rfl, ?_⟩;clear KR;refine⟨_,rfl,_,rfl,ya,rfl,⟨_,SqL.of (s6 _ _ O')⟩,fun P7 Pa=> ?_⟩;refine dP (xs:=ys) (own:=1) (js:=[]) (fun i H7=>ae H6 H7/\H7 P7=some (.lst (((r.take i).map ce).map V.int))) ⟨ae.new Pa,al⟩ (fun i H7 _ h=>SqL.of (h.1 _ _ (s6 _ _ O'))) ?_ ?_ cW dB ?_
   .rintro i z H7 hz ⟨s7,KR⟩;obtain⟨p,Lp,hzi⟩:=aH hyi hz;refine eV ?_;refine⟨_,rfl,z,p,rfl,(hzi.mono s6).mono s7,i4 p (AH Lp),P7,_,_,rfl,rfl,KR,ay ?_,s7.put Pa, ?_⟩
    .rw [A1,A1,AS];lia
    .rw [al,AK,Lp,A6,A6];rfl
   .rintro H7 ⟨s7,KR⟩;rw[ylen,AF] at KR;have ME:=s6.trans s7;refine⟨P7,_,rfl,SqL.of KR,_,_,rfl,rfl,_,rfl,_,rfl,_,rfl,_,_,rfl,rfl,_,_,rfl,rfl, .inr ⟨by lia,by lia⟩,_,_,rfl,rfl, ?_⟩;refine⟨_,rfl,_,_,rfl,rfl,_,rfl,bz (fun c=> ?_) (fun c=> ?_)⟩
    .have hv7:Is H7 (lfs x.1) v:=(hv.mono s5).mono ME;refine⟨_,rfl, .inl ⟨rfl,_,SqL.of (ME _ _ K7)⟩,_,rfl,_,rfl,x.1.map lf,r.map lf,hv7,hy5.mono ME,Ad (ay (by rw[A1,A1];lia)),fun q1 H8 n8 s8 h8=>⟨_,rfl,(zB rfl),fun t H9 nt s9 ht=> ?_⟩⟩;have s59:=ME.trans (s8.trans s9);refine⟨fo,NB,_,rfl,rfl,s59 _ _ K7,ay (by lia),⟨_,_,_,rfl⟩,(s5.trans s59).put Ni,My.trans ((But.of_same s59).trans But.upd), ?_⟩;rw[AK,Ln,Ba];have ef:(Option.toList (some r)).filter (fun ls=>decide (0<=fb d (f+1) n x.2 ls))=[r]:=by
      have c':0<=fb d (f+1) n x.2 r:=c;simp[c']
     rw[ef,A6,A6];rw[<-A6] at h8;have isx:Is (nw H5 H9) (stD (x.1++r,fb d (f+1) n x.2 r)) (.ref t):=bd (by rw[bY ((ME.trans s8).free nt)];exact ht) (ak (uI s59 (ME.free n8) (Is.mono (s:=s9) h8)) (ak bq ao));exact Acc.add s5 s59 K7 Nr isx
    .refine⟨⟨_,_,_,rfl⟩,s5.trans ME,My.trans (But.of_same ME), ?_⟩;rw[AK,Ln,Ba];have ef:(Option.toList (some r)).filter (fun ls=>decide (0<=fb d (f+1) n x.2 ls))=[]:=by
      have c':¬0<=fb d (f+1) n x.2 r:=c;simp[c']
     rw[ef,B5];exact Acc.mono ME ⟨NB,K7,Nr⟩
   .rintro σ H R R' k ⟨v1,e1,v2,p,e2,h1,h2,h⟩;exact⟨v1,e1,v2,p,e2,h1,h2,k _ _ h⟩
  .rintro σ H R R' k ⟨v1,e1,xs,i,d,h1,e2,e3,h⟩;exact⟨v1,e1,xs,i,d,h1,e2,e3,fun u hu=>k _ _ (h u hu)⟩
 .rintro σ H5 ⟨⟨v6,v7,v8,rfl⟩,s5,_,KR⟩;rw[Ld,AF] at KR;exact⟨_,rfl,kk fo H5 s5 Ni (KR.is Ni)⟩
theorem JH:FnOk P w K mg base (CX0) 11 T.f35 T.d35 ["d","k"] spDrP:=by
 refine FbO T.X35 ge fun _ _ _ _ H vs Q E hr h=> ?_;obtain⟨d,k,rfl,hW,⟨g1,g3⟩,kk⟩:=h;refine⟨_,(ai (aO (pcq (lD T) hr T.X3 (ab (pv 0) (ab (pv 1) af))))
  (ai (pSA (i:=2) ge.nd (aM (ab (bf (ab (aM af) (ab (pv 1) af))) af)))
  (ai (aA AD rfl (dJ (by rfl) T.n_range (ab ag (ab (ah aG (pv 0) ag) af))) (pGA (i:=3) ge.nd) (ai (pSA (i:=4) ge.nd (aM af))
  (ai (aA AD rfl (aP (pv 2)) (cH rfl (aT (pGA (i:=5) ge.nd) (aT (pGA (i:=6) ge.nd) cj))) (aj (aO (bG AU CI CH iL (pv 4) (ab (pcq (JG T) hr T.X34 (ab (pv 0) (ab (pv 3) (ab (pv 5) (ab (pv 6) af))))) af)))))
  (aj (pSA (i:=2) ge.nd (pv 4))))))
  (aj (ap (bm (mx hr) (by rfl) T.n_sorted boot_sorted (ab (cV (XN:=["d","k","begun","floor","longer","drawing","spare"]) (sc:=am kf) (N:=["drawing","spare"]) (own:=2) (js:=[]) rfl (by ac_nf) rfl rfl (aP (pv 2)) (fun _ _ _ _=>(mn (K:=K) rfl rfl (aT (bK (i:=0) (show List.Nodup (["drawing","spare"]:Qt Str) by ac_nf) rfl (Or.inl rfl) (.inr rfl)) (aT (bK (i:=1) (show List.Nodup (["drawing","spare"]:Qt Str) by ac_nf) rfl (Or.inl rfl) (.inr rfl)) cj)))) ml (fun _ _ _ _=>(iP (aQ cI (pv 1) ag (aI _)))) (fun _ _ _ _=>(pv 0))) af))))))), ?_⟩
 refine⟨_,rfl,_,rfl,d,k,rfl,hW, ?_⟩;obtain⟨gA,gB⟩:=GZ g1;have d15:1<=d/\d<=5:=by unfold Wide at hW;lia
 refine⟨AL _,fun e0 H1 ne0 s1 he0=>⟨_,rfl,(zB rfl),fun t0 H2 nt0 s2 ht0=>⟨(zB rfl),fun bg H3 nb s3 P8=> ?_⟩⟩⟩;have Lj:=(s1.trans s2).trans s3;have nbH:H bg=none:=(s1.trans s2).free nb;have is0:Is (nw H H3) (.l ((bP d k 0).map stD)) (.ref bg):=aB (by rw[bY nbH];exact P8) (ak (bd (by rw[bY (s1.free nt0)];exact s3 _ _ ht0) (ak (aB (vs:=[]) (by rw[bY ne0];exact s3 _ _ (s2 _ _ he0)) ao) (ak bq ao))) ao);refine⟨_,rfl,_,_,rfl,rfl,_,_,rfl,⟨by decide,by decide,by lia,by lia⟩, ?_⟩;rw[show((d:Int)+1-1).toNat=d by lia];refine cu (lo:=1) (n:=d) (fun f σ H4=>∃bg,(∃v3 v4 v5 v6,σ=[some (.int d),some (.int k),some (.ref bg),v3,v4,v5,v6])/\ae H H4/\Is (nw H H4) (.l ((bP d k f).map stD)) (.ref bg)) ⟨bg,⟨none,none,none,none,rfl⟩,Lj,is0⟩ ?_ ?_
 .clear is0 Lj nbH P8;rintro f σ H4 hf ⟨bg,⟨v3,v4,v5,v6,rfl⟩,s4,P8⟩;obtain⟨K8,KS⟩:=gA f hf;refine⟨AL _,fun lo H5 nlo s5 hlo=> ?_⟩;have hbg4:=P8.mono bu;obtain⟨_,bvs,e,P9,hbi⟩:=az hbg4;cases e;have P':bvs.length=(bP d k f).length:=by rw[hbi.length,A1]
  refine⟨_,rfl,bg,rfl,⟨_,SqL.of (s5 _ _ P9)⟩,aY (xs:=bvs) (fun j σ H6=>(∃v5 v6,σ=[some (.int d),some (.int k),some (.ref bg),some (.int (1+(f:Int))),some (.ref lo),v5,v6])/\ae H4 H6/\Acc H4 H6 lo ((((bP d k f).take j).flatMap fun x=>dQ d (f+1) x.1 x.2).map stD)) ⟨⟨_,_,rfl⟩,s5,Acc.start hlo⟩ (fun j σ H6 _ h=>SqL.of (h.2.1 _ _ P9)) ?_ ?_⟩
  .rintro j y σ H6 hj ⟨⟨v5,v6,rfl⟩,s6,vs6,M6,hi6⟩;obtain⟨x,K4,hy⟩:=aH hbi hj;obtain⟨t,u,rfl,ht,hu⟩:=wz (hy.mono s6);have e1:(1+(f:Int))=((f+1:Nat):Int):=by lia
   have tk:(((bP d k f).take (j+1)).flatMap fun x=>dQ d (f+1) x.1 x.2)=(((bP d k f).take j).flatMap fun x=>dQ d (f+1) x.1 x.2)++dQ d (f+1) x.1 x.2:=by
    rw[AK,K4,Au];simp
   have vl:vs6.length+(dQ d (f+1) x.1 x.2).length<=900:=by
    rw[hi6.length,A1];have hjl:j<(bP d k f).length:=(A8.mp K4).1;have:(((bP d k f).take (j+1)).flatMap fun x=>dQ d (f+1) x.1 x.2).length<=(bP d k (f+1)).length:=by
     show _<=((bP d k f).flatMap fun x=>dQ d (f+1) x.1 x.2).length
     conv=>rhs;rw[<-Bw (j+1) (bP d k f)]
     rw[Au,AA];lia
    rw[tk,AA] at this;lia
   refine⟨t,_,rfl,SqT.of ht,rfl,_,_,rfl,_,_,rfl,rfl, ?_⟩;refine⟨_,rfl, .inl ⟨rfl,_,SqL.of M6⟩,_,rfl,_,rfl,_,rfl,_,rfl,d,f,u,x,by rw[e1];rfl,hf,d15.2,hu,K8 x (AH K4),fun wl H7 s7 nwl hwl=> ?_⟩;obtain⟨_,us,e,hwl',hwi⟩:=az hwl;cases e;have ul:us.length=(dQ d (f+1) x.1 x.2).length:=by rw[hwi.length,A1]
   refine⟨lo,wl,vs6,us,rfl,rfl,s7 _ _ M6,bu _ _ hwl',Ad (ay (by lia)),⟨_,_,rfl⟩,(s6.trans s7).put nlo, ?_⟩;rw[tk,A6];exact Acc.adds s6 s7 M6 hi6 hwi
  .rintro σ H6 ⟨⟨v5,v6,rfl⟩,s6,KR⟩;rw[P',AF] at KR;exact⟨_,rfl,lo,⟨_,_,_,_,rfl⟩,s4.trans s6,(KR.is nlo).mono (ia s4)⟩
 .clear is0 Lj nbH P8;rintro σ H4 ⟨bg,⟨v3,v4,v5,v6,rfl⟩,s4,P8⟩;obtain⟨_,bvs,e,P9,hbi⟩:=az P8;cases e;have hb4':=bu _ _ P9;have P':bvs.length=(bP d k d).length:=by rw[hbi.length,A1]
  refine⟨_,rfl,bg,rfl,⟨_,SqL.of hb4'⟩,fun acc na=> ?_⟩;refine dP (xs:=bvs) (own:=2) (js:=[]) (fun j H5=>ae H4 H5/\∃vs,H5 acc=some (.lst vs)/\Iss (nw H H4) (((((bP d k d).take j).filter fun x=>decide (x.2=0)).map (·.1)).map lfs) vs) ⟨ae.new na,[],al,ao⟩ (fun j H5 _ h=>SqL.of (h.1 _ _ hb4')) ?_ ?_ mm ?_ ?_
  .rintro j y H5 hj ⟨s5,vs,KR,hi⟩;obtain⟨x,K4,hy⟩:=aH hbi hj;obtain⟨t,u,rfl,ht,hu⟩:=wz hy;have vl:vs.length<=900:=by
    rw[hi.length,A1,A1];refine B9 (Bl _ _) ?_;rw[AS];obtain⟨d',rfl⟩:∃d',d=d'+1:=⟨d-1,by lia⟩;have:=(gA d' (by lia)).2;lia
   refine⟨t,_,rfl,SqT.of (s5 _ _ (bu _ _ ht)),rfl,_,_,rfl,_,_,rfl,rfl, ?_⟩;refine⟨_,rfl,rfl,_,rfl,de (fun c=> ?_) (fun c=> ?_)⟩
   .refine⟨_,rfl,acc,vs,_,rfl,rfl,KR,ay (by lia),s5.put na,_,al, ?_⟩;rw[AK,K4,Ba];have ef:(Option.toList (some x)).filter (fun x=>decide (x.2=0))=[x]:=by simp[c]
    rw[ef,A6,A6];exact hi.append (ak hu ao)
   .refine⟨s5,vs,KR, ?_⟩;rw[AK,K4,Ba];have ef:(Option.toList (some x)).filter (fun x=>decide (x.2=0))=[]:=by simp[c]
    rw[ef,B5];exact hi
  .rintro H5 ⟨s5,vs,KR,hi⟩;rw[P',AF] at hi;have hi:Iss (nw H H4) ((cO d k).map lfs) vs:=hi;have Oq:=s4.trans s5;have N5:Iss H5 ((cO d k).map lfs) vs:=(hi.mono bu).mono s5;have Mc:vs.length=(cO d k).length:=by rw[hi.length,A1]
   refine⟨acc,vs,rfl,SqL.of KR,by lia,fun r Ln=> ?_,fun x hx y hy=> ?_,fun p q pp nq=> ?_⟩
   .obtain⟨i,hi,rfl⟩:=B6.mp Ln;obtain⟨w,_,hy⟩:=aH N5 (A2 hi);obtain⟨a,ys,e1,e2,_⟩:=az hy;exact⟨a,ys,e1,SqL.of e2⟩
   .obtain⟨i,hi,rfl⟩:=B6.mp hx;obtain⟨j,hj,rfl⟩:=B6.mp hy;obtain⟨w1,_,K4⟩:=aH N5 (A2 hi);obtain⟨w2,_,LQ⟩:=aH N5 (A2 hj);exact⟨_,GV K4 LQ⟩
   .have MI:∀i∈p,i<(cO d k).length:=fun i hi=>by
     have:=Aa.mp (pp.mem_iff.mp hi);lia
    refine kk (p.map fun i=>(cO d k).getD i []) q _ ?_ (Oq.put (Oq.free nq)) (Oq.free nq) ?_
    .have:=pp.map fun i=>(cO d k).getD i [];have er:(List.range vs.length).map (fun i=>(cO d k).getD i [])=cO d k:=by
      rw[Mc];refine Ck (by simp) fun i h1 h2=> ?_;simp[List.getD,h2]
     rw[er] at this;exact this
    .exact aB (by rw[bY (Oq.free nq)];exact al) ((wy hi p MI).mono (e9 (s5.trans (ae.new nq))))
  .rintro σ H R R' k' ⟨v1,e1,e2,b,e3,h⟩;exact⟨v1,e1,e2,b,e3,k' _ _ h⟩
  .rintro σ H R R' k' ⟨v1,e1,h⟩;exact⟨v1,e1,k' _ _ h⟩
theorem JI:OKQ T.X30 P w base 5 spSou:=by
 refine FbO T.X30 Gx fun _ _ _ _ H vs Q E hr h=> ?_;obtain⟨n,dv,ps,rfl,n1,n5,hd,hs,kk⟩:=h;refine⟨_,(aj (ap (fP iI (bm (Du rfl) (by rfl) T.n_min boot_min (ab (pcq (qj T) hr T.X29 (ab (pv 0) (ab (pv 1) af))) af)) ag (aI _)))), ?_⟩;refine⟨_,rfl,_,rfl,n,dv,ps,rfl,n1,n5,hd,hs.okl,fun l H1 s1 nl hl=> ?_⟩;refine⟨l,_,rfl,SqL.of hl,by rw[kx n ps hs.okl];lia,_,_,rfl,rfl, ?_⟩;show Q (.bl (decide (0<=iV (bC n ps)))) H1;rw[At (IV hs.ends)];exact kk H1 s1
theorem JJ:OKQ T.X40 P w base 6 spNeS:=by
 refine FbO T.X40 GB fun _ _ _ _ H vs Q E hr h=> ?_;obtain⟨n,dv,ps,rfl,n1,n5,hd,hs,kk⟩:=h;refine⟨_,(ai (aO (pcq (iB T) hr T.X4 (ab (pv 0) af)))
  (aj (aW (gx (fK (pcq (JI T) hr T.X30 (ab (pv 0) (ab (pv 1) af))))) (aj jH) aX))), ?_⟩
 exact⟨_,rfl,n,rfl,by lia,by lia,_,rfl,_,rfl,n,dv,ps,rfl,n1,n5,hd,hs,fun H1 s1=>⟨true,rfl,bM (kk H1 s1)⟩⟩
theorem JK:OKQ T.X41 P w base 5 spEnM:=by
 refine FbO T.X41 kj fun _ _ _ _ H vs Q E hr h=> ?_;obtain⟨n,dv,ps,rfl,n1,n5,hd,hs,KS,kk⟩:=h;refine⟨_,(ai (pSA (i:=2) kj.nd (aM af))
  (ai (aA AD rfl (md (by rfl) T.n_enumerate (pcq (qj T) hr T.X29 (ab (pv 0) (ab (pv 1) af)))) (cH rfl (aT (pGA (i:=3) kj.nd) (aT (pGA (i:=4) kj.nd) cj))) (aj (aO (bG AU CI CH iL (pv 2) (ab (ah iU (aM (ab (bf (ab (ah aG (pv 3) ag) (ab (ah aG (pv 0) ag) (ab ag af)))) af)) (pv 4)) af)))))
  (aj (ap (pv 2))))), ?_⟩
 refine⟨AL _,fun fo H1 nf s1 Lk=> ?_⟩;refine⟨_,rfl,_,rfl,n,dv,ps,rfl,n1,n5,hd.mono s1,hs.okl,fun e H2 s2 ne he=> ?_⟩;have el:=kx n ps hs.okl;have efo:e≠fo:=by rintro rfl;rw[Lk] at ne;cases ne
 refine⟨e,rfl,⟨_,SqL.of he⟩,rK (xs:=(bC n ps).map V.int) (fun i σ H3=>(∃v3 v4,σ=[some (.int n),some dv,some (.ref fo),v3,v4])/\ae H H3/\H3 e=some (.lst ((bC n ps).map V.int))/\∃vs,H3 fo=some (.lst vs)/\Iss H3 (((List.range i).flatMap (fG n (bC n ps))).map lf) vs)
  ⟨⟨none,none,rfl⟩,s1.trans s2,he,[],s2 _ _ Lk,ao⟩ (fun i σ H3 _ h=>SqL.of h.2.2.1) ?_ ?_⟩
 .rintro i x σ H3 p hx ⟨⟨v3,v4,rfl⟩,s3,he3,vs,MR,N6⟩ np;rw[AC] at hx;obtain⟨x,K4,rfl⟩:=AR.mp hx;have hi:i<n:=by have:=(A8.mp K4).1;lia
  have ex:(bC n ps).getD i 0=x:=by rw[List.getD,K4];rfl
  have x0:0<=x:=by rw[<-ex];exact hs.ends i
  have pre:((List.range i).flatMap (fG n (bC n ps))).length+x.toNat<=20:=by
   have:=kC (fG n (bC n ps)) hi;have e2:(fG n (bC n ps) i).length=x.toNat:=by unfold fG;rw[Bk,ex]
   unfold fc at KS;lia
  refine⟨p,_,rfl,SqT.of al,rfl,_,_,rfl,_,_,rfl,rfl, ?_⟩;have s4:ae H3 (upd H3 p (.tup [.int i, .int x])):=ae.new np;generalize upd H3 p (.tup [.int i, .int x])=H4 at s4⊢;refine⟨_,rfl, .inl ⟨rfl,_,SqL.of (s4 _ _ MR)⟩,_,rfl,_,_,rfl,rfl,_,rfl,_,_,rfl,rfl,(zB rfl),fun t H5 nt s5 ht=>⟨(zB rfl),fun l1 H6 n6 s6 h6=> ?_⟩⟩;have htl:Is H6 (lf (1+(i:Int),(n:Int)+1,1)) (.ref t):=jh (s6 _ _ (by rw[ht];show some (HO.tup [V.int ((i:Int)+1),_,_])=_;rw[Int.add_comm]));refine⟨_,rfl,lf (1+(i:Int),(n:Int)+1,1),x,aB h6 (ak htl ao),rfl,by lia,by lia,Ad (ay (by lia)),fun l2 H7 n7 s7 h7=> ?_⟩;obtain⟨_,us,e2,Ly,Mt⟩:=az h7;cases e2;have s47:ae H3 H7:=((s4.trans s5).trans s6).trans s7;have Pb:=s47 _ _ MR;have ul:us.length=x.toNat:=by rw[Mt.length,Bk]
  have vl:=N6.length;rw[A1] at vl;refine⟨fo,l2,vs,us,rfl,rfl,Pb,Ly,Ad (ay (by lia)),⟨_,_,rfl⟩,(s3.trans s47).put nf,by rw[ar efo];exact s47 _ _ he3,_,al, ?_⟩;rw[gj,A6];refine(wA s47 MR N6).append (wA (ae.refl H7) Pb ?_);have:(fG n (bC n ps) i).map lf=List.replicate x.toNat (lf (1+(i:Int),(n:Int)+1,1)):=by unfold fG;rw[ex,Cw]
  rw[this];exact Mt
 .rintro σ H3 ⟨⟨v3,v4,rfl⟩,s3,he3,vs,MR,N6⟩;rw[A1,el] at N6;exact⟨_,rfl,kk fo H3 s3 nf (aB MR N6)⟩
theorem qk:OKQ T.X5 P w base 1 spCho:=by
 refine FbO T.X5 fC fun _ _ _ _ H vs Q E hr h=> ?_;obtain⟨n,k,rfl,h1,h2,kk⟩:=h;refine⟨_,(ai (aW (fL (aQ fN (pv 1) ag (aI _)) (gw (aQ fO (pv 1) (pv 0) (aI _)))).pt (aj (ap ag)) aX)
  (ai (pSA (i:=2) fC.nd ag)
  (ai (aA AD rfl (eS (by rfl) T.n_range (ab (pv 1) af)) (pGA (i:=3) fC.nd) (aj (pSA (i:=2) fC.nd (ah gz (ah aU (pv 2) (ah aC (pv 0) (pv 3))) (ah aG (pv 3) ag)))))
  (aj (ap (pv 2)))))), ?_⟩
 refine⟨_,rfl,_,_,rfl,rfl,_,rfl,bz (fun h=>absurd h (by lia)) (fun _=> ?_)⟩;refine⟨_,rfl,_,rfl,_,_,rfl,rfl,_,rfl,bz (fun h=>absurd h (by lia)) (fun _=> ?_)⟩;refine⟨_,rfl,(k:Int),rfl,by lia,by lia,cu (lo:=0) (n:=(k:Int).toNat) (fun i σ H2=>(∃v3,σ=[some (.int n),some (.int k),some (.int (chF n i)),v3])/\H2=H) ⟨⟨none,rfl⟩,rfl⟩ ?_ ?_⟩
 .rintro i σ H2 hi ⟨⟨v3,rfl⟩,rfl⟩;refine⟨_,rfl,_,rfl,_,rfl,_,_,rfl,rfl,_,_,rfl,rfl, .inr ⟨by lia,by lia⟩,_,rfl,_,_,rfl,rfl,_,_,rfl,rfl,⟨by lia,by lia⟩,⟨some (.int (0+(i:Int))), ?_⟩,rfl⟩;rw[show chF n (i+1)=chF n i*(n-(0+(i:Int)))/((0+(i:Int))+1) by rw[D7];rfl];rfl
 .rintro σ H2 ⟨⟨v3,rfl⟩,rfl⟩;rw[Az];exact⟨_,rfl,kk⟩
theorem jB:OKQ T.X38 P w base 1 spWm:=by
 refine FbO T.X38 GA fun _ _ _ _ H vs Q E hr h=> ?_;obtain⟨v,t,p,m,rfl,hv,hp,hl,kk⟩:=h;refine⟨_,(aj (ap (ah mO (ah mO (dZ tT (pv 0) eT (dN (pv 1))) (bf (ab (ah aG (ax aN (pv 0) (pv 1) (fun _ _=>rfl)) (pv 2)) af))) (dZ tT (pv 0) (dN (ah aG (pv 1) ag)) eT)))), ?_⟩;have KS:∀vs:Qt V,vs.length=(t.map D.i).length->vs.length=t.length:=fun vs e=>by rw[e,A1]
 refine⟨_,rfl,_,rfl,(p:Int),rfl,t.map .i,(t.take p).map .i,hv,I0,fun vs e h=> ?_,fun u1 H1 s1 LA=> ?_⟩
 .have e:=KS vs e;rw[HT.sIx_nat] at h;lia
 refine⟨_,rfl,_,rfl,t.map .i,(p:Int), .i (t.getD p 0),hv.mono s1,rfl, ?_,fun u hu=> ?_⟩
 .refine fY (j:=p) rfl ?_;rw[AC,A2 hp];simp[List.getD,hp]
 rw[aE hu];refine⟨_,rfl,_,_,rfl,rfl,(zB rfl),fun q2 H2 n2 s2 h2=> ?_⟩;have Me:Is H2 (.t [.i (t.getD p 0+m)]) (.ref q2):=bd h2 (ak bq ao);refine⟨_,_,LA.mono s2,Me,Ad (ay (by rw[A1,AS];show _+1<=1000;lia)),fun u3 H3 s3 hu3=> ?_⟩;refine⟨_,rfl,_,rfl,_,_,rfl,rfl,(p:Int)+1,rfl,t.map .i,(t.drop (p+1)).map .i,((hv.mono s1).mono s2).mono s3, ?_,fun vs e h=> ?_,fun u4 H4 s4 hu4=> ?_⟩
 .rw [show((p:Int)+1)=((p+1:Nat):Int) by lia];exact I8 (by lia)
 .have e:=KS vs e;rw[show((p:Int)+1)=((p+1:Nat):Int) by lia,HT.sIx_nat] at h;lia
 refine⟨_,_,hu3.mono s4,hu4,Ad (ay (by rw[AA,A1,A1,AS,Bs];show _+1+_<=1000;lia)),fun u5 H5 s5 hu5=> ?_⟩;refine kk u5 H5 ((((s1.trans s2).trans s3).trans s4).trans s5) ?_;have e:(t.take p).map D.i++[D.i (t.getD p 0+m)]++(t.drop (p+1)).map D.i=(wmF t p m).map D.i:=by
  unfold wmF;rw[<-G5 hp,A6,A6];rfl
 rw[e] at hu5;exact hu5
theorem w6:∀n:Nat,FnOk P w K mg base CX0 (n+2) T.f42 T.d42 ["numbers","first","last","alike"] (spPB n K)
 |0=>⟨fun vs H Q E h=>(by obtain⟨_,_,_,_,_,_,_,h,_⟩:=h;exact absurd h (Nat.not_lt_zero _)),fun A outer s H args us vs Q E _ _ _ _ h=>(by obtain⟨_,_,_,_,_,_,_,h,_⟩:=h;exact absurd h (Nat.not_lt_zero _))⟩
 |n+1=>by
  have ih:=w6 n;refine T.X42.F.ok g6 (fun vs H Q E h=> ?_) (fun Lb A outer s H vs Q E hr h=> ?_)
  .obtain⟨_,_,_,_,_,rfl,_⟩:=h;rfl
  .obtain⟨v,t,p,g,a,rfl,hv,hg,hn,hp,⟨kl,kn,ks⟩,kk⟩:=h;refine⟨_,(ai (aW (aQ cI (pv 1) (pv 2) (aI _)) (aj (ap (aM (ab (bf (ab (pcq (jB T) hr T.X38 (ab (pv 0) (ab (pv 1) (ab (pv 3) af))) (by lia)) (ab (pcq (qk T) hr T.X5 (ab (ah aG (ax aN (pv 0) (pv 1) (fun _ _=>rfl)) (pv 3)) (ab (pv 3) af)) (by lia)) af))) af)))) aX)
   (ai (pSA (i:=4) g6.nd (aM af))
   (ai (aA AD rfl (eS (by rfl) T.n_range (ab (ah aG (pv 3) ag) af)) (pGA (i:=5) g6.nd) (ai (pSA (i:=6) g6.nd (pcq (qk T) hr T.X5 (ab (ah aG (ax aN (pv 0) (pv 1) (fun _ _=>rfl)) (pv 5)) (ab (pv 5) af)) (by lia)))
   (aj (aA AD rfl (aP (fu ih hr (by rfl) T.X42.m T.X42.F.kp T.X42.B .nil fx (ab (pcq (jB T) hr T.X38 (ab (pv 0) (ab (pv 1) (ab (pv 5) af))) (by lia)) (ab (ah aG (pv 1) ag) (ab (pv 2) (ab (ah aC (pv 3) (pv 5)) af)))))) (cH rfl (aT (pGA (i:=7) g6.nd) (aT (pGA (i:=8) g6.nd) cj))) (aj (aO (bG AU Ah Ag ck (pv 4) (ab (bf (ab (pv 7) (ab (ah aU (pv 6) (pv 8)) af))) af))))))))
   (aj (ap (pv 4)))))), ?_⟩
   have kp:=(ic kn).2 p;have kp0:=kn p;have at_p:∀{H':Hp},ae H H'->∀{v':V},Is H' (tI t) v'->atI (t.map D.i) (p:Int)=some (.i (t.getD p 0)):=fun _ _ _=>by
    refine fY (j:=p) rfl ?_;rw[AC,A2 (by lia)];simp[List.getD,show p<t.length by lia]
   refine⟨_,rfl,_,rfl,rfl,_,rfl,de (fun e=> ?_) (fun e=> ?_)⟩
   .have hg0:g=0:=by lia
    subst hg0;refine⟨_,rfl,_,rfl,_,rfl,v,t,p,a,rfl,hv,by lia,kl,fun u1 H1 s1 LA=> ?_⟩;refine⟨_,rfl,_,rfl,t.map .i,(p:Int),_,hv.mono s1,rfl,at_p s1 (hv.mono s1),fun u hu=> ?_⟩;rw[aE hu];refine⟨_,rfl,_,_,rfl,rfl,_,rfl,t.getD p 0+a,a,rfl,by lia,by lia, ?_⟩;refine⟨(zB rfl),fun q2 H2 n2 s2 h2=>⟨(zB rfl),fun q3 H3 n3 s3 h3=> ?_⟩⟩;have Mk:=s1.trans s2;refine kk q3 H3 (Mk.trans s3) (Mk.free n3) (aB h3 (ak ((qc (x:=(wmF t p (a:Int),chF (t.getD p 0+(a:Int)) a)) h2 (LA.mono s2)).mono s3) ao))
   .obtain⟨g,rfl⟩:∃g',g=g'+1:=⟨g-1,by lia⟩;refine⟨AL _,fun fo H1 nf s1 Lk=> ?_⟩;have big:=I9 (g:=g+1) (t:=t) (p:=p) (a:=a) (by lia) (by have:=(ic kn).1;lia);have a15:(a:Int)<=15:=by have:=(ic kn).1;lia
    refine⟨_,rfl,_,_,rfl,rfl,_,rfl,by lia,by lia, ?_⟩;rw[show((a:Int)+1).toNat=a+1 by lia];refine cu (lo:=0) (n:=a+1) (fun h σ H2=>(∃v5 v6 v7 v8,σ=[some v,some (.int p),some (.int ((p:Int)+((g+1:Nat):Int))),some (.int a),some (.ref fo),v5,v6,v7,v8])/\ae H H2/\∃vs,H2 fo=some (.lst vs)/\Iss H2 (((List.range h).flatMap fun h:Nat=>(pbF g (wmF t p (h:Int)) (p+1) (a-h)).map fun x=>(x.1,chF (t.getD p 0+(h:Int)) h*x.2)).map prD) vs) ⟨⟨none,none,none,none,rfl⟩,s1,[],Lk,ao⟩ ?_ ?_
    .rintro h σ H2 hh ⟨⟨v5,v6,v7,v8,rfl⟩,s2,OH,M7,Mt⟩;rw[D7];have hb:∀j,j<=(pbF g (wmF t p (h:Int)) (p+1) (a-h)).length->((List.range h).flatMap fun h:Nat=>(pbF g (wmF t p (h:Int)) (p+1) (a-h)).map fun x=>(x.1,chF (t.getD p 0+(h:Int)) h*x.2)).length+j<=1048576:=fun j hj=>by
      have:=kC (fun h:Nat=>(pbF g (wmF t p (h:Int)) (p+1) (a-h)).map fun x=>(x.1,chF (t.getD p 0+(h:Int)) h*x.2)) hh;rw[A1] at this;unfold pbF at big;lia
     rw[gj];generalize ((List.range h).flatMap fun h:Nat=>(pbF g (wmF t p (h:Int)) (p+1) (a-h)).map fun x=>(x.1,chF (t.getD p 0+(h:Int)) h*x.2))=pr at Mt hb⊢;obtain⟨c1,c2⟩:=uR (n:=t.getD p 0+(h:Int)) (k:=h) (by lia) (by lia);refine⟨_,rfl,_,rfl,t.map .i,(p:Int),_,hv.mono s2,rfl,at_p s2 (hv.mono s2),fun u hu=> ?_⟩;rw[aE hu];refine⟨_,rfl,_,_,rfl,rfl,_,rfl,t.getD p 0+(h:Int),h,rfl,by lia,by lia, ?_⟩;refine⟨_,rfl,_,rfl,_,rfl,v,t,p,(h:Int),rfl,hv.mono s2,by lia,kl,fun u3 H3 s3 hu3=> ?_⟩;refine⟨_,rfl,_,_,rfl,rfl,_,rfl,_,rfl,_,rfl,_,_,rfl,rfl,u3,wmF t p (h:Int),p+1,g,a-h, ?_,hu3,by lia,by lia,by rw[eE];lia,⟨by rw[eE];exact kl,fun i=> ?_, ?_⟩,fun rl H4 s4 Mn MQ=> ?_⟩
     .have e1:((p:Int)+1)=((p+1:Nat):Int):=by lia
      have e2:(p:Int)+((g+1:Nat):Int)=((p+1:Nat):Int)+(g:Int):=by lia
      have e3:(a:Int)-(h:Int)=((a-h:Nat):Int):=by lia
      show [u3,V.int ((p:Int)+1),V.int ((p:Int)+((g+1:Nat):Int)),V.int ((a:Int)-(h:Int))]=_;rw[e1,e2,e3]
     .rw [kE (by lia)];have:=kn i;split<;>lia
     .rw [kF (by lia)];lia
     obtain⟨_,LC,e,MP,LR⟩:=az MQ;cases e;generalize pbF g (wmF t p (h:Int)) (p+1) (a-h)=O at LR hb⊢;have Ld:LC.length=O.length:=by rw[LR.length,A1]
     have s24:=s3.trans s4;have hf4:=s24 _ _ M7;have M3:rl≠fo:=by rintro rfl;rw[s3 _ _ M7] at Mn;cases Mn
     refine⟨rl,rfl,⟨_,SqL.of MP⟩,aY (xs:=LC) (fun j σ H5=>(∃v7 v8,σ=[some v,some (.int p),some (.int ((p:Int)+((g+1:Nat):Int))),some (.int a),some (.ref fo),some (.int h),some (.int (chF (t.getD p 0+(h:Int)) h)),v7,v8])/\ae H H5/\H5 rl=some (.lst LC)/\av H4 H5/\∃vs,H5 fo=some (.lst vs)/\Iss H5 ((pr++(O.take j).map fun x=>(x.1,chF (t.getD p 0+(h:Int)) h*x.2)).map prD) vs) ⟨⟨_,_,rfl⟩,s2.trans s24,MP,av.of_same (ae.refl H4),OH,hf4,by simpa using Mt.mono s24⟩ (fun j σ H5 _ h=>SqL.of h.2.2.1) ?_ ?_⟩
     .rintro j y σ H5 hj ⟨⟨v7,v8,rfl⟩,s5,M8,t5,NB,Pd,Nr⟩;obtain⟨x,K4,hy⟩:=aH LR hj;have hjl:j<O.length:=(A8.mp K4).1;obtain⟨q,u6,rfl,hq,hu6⟩:=qe (lz t5 hy);have vl:=Nr.length;rw[A1,AA,A1,AS] at vl;have hbj:=hb (j+1) (by lia);refine⟨q,_,rfl,SqT.of hq,rfl,_,_,rfl,_,_,rfl,rfl, ?_⟩;refine⟨_,rfl, .inl ⟨rfl,_,SqL.of Pd⟩,_,rfl,_,rfl,_,rfl,_,_,rfl,rfl, .inl ⟨by lia,by lia⟩,(zB rfl),fun q6 H6 n6 s6 h6=> ?_⟩;refine⟨fo,NB,_,rfl,rfl,s6 _ _ Pd,lx (by lia),⟨_,_,rfl⟩,(s5.trans s6).put nf,by rw[ar M3];exact s6 _ _ M8,(t5.trans (av.of_same s6)).trans (av.upd (s6 _ _ Pd)),_,al, ?_⟩;have ez:(pr++(O.take (j+1)).map fun x=>(x.1,chF (t.getD p 0+(h:Int)) h*x.2))=(pr++(O.take j).map fun x=>(x.1,chF (t.getD p 0+(h:Int)) h*x.2))++[(x.1,chF (t.getD p 0+(h:Int)) h*x.2)]:=by
       rw[AK,K4,Option.toList_some,A6,BP];rfl
      rw[ez,A6];refine(wD ((av.of_same s6).trans (av.upd (s6 _ _ Pd))) Nr).append ?_;exact ak (lz (av.upd (s6 _ _ Pd)) (qc (x:=(x.1,chF (t.getD p 0+(h:Int)) h*x.2)) h6 (hu6.mono s6))) ao
     .rintro σ H5 ⟨⟨v7,v8,rfl⟩,s5,M8,t5,NB,Pd,Nr⟩;rw[Ld,AF] at Nr;exact⟨⟨_,_,_,_,rfl⟩,s5,NB,Pd,Nr⟩
    .rintro σ H2 ⟨⟨v5,v6,v7,v8,rfl⟩,s2,OH,M7,Mt⟩;exact⟨_,rfl,kk fo H2 s2 nf (aB M7 Mt)⟩
theorem JL:OKQ T.X43 P w base 9 spHMO:=by
 refine FbO T.X43 fD fun _ _ _ _ H vs Q E hr h=> ?_;obtain⟨d,v,mk,rfl,d1,d5,hv,⟨mok,N7⟩,PV,kk⟩:=h;refine⟨_,(ai (pSA (i:=2) fD.nd (EY (bx hr) (iJ rR (by rfl) T.n_tuple boot_tuple (ab (ah iU (aM (ab ag af)) (pv 0)) af)) ag))
  (ai (aA AD rfl (aP (EL (EG hr) hr.hd (by rfl) T.n_sorted (by rfl) T.n_set (ab (pv 1) af))) (pGA (i:=3) fD.nd) (ai (pSA (i:=4) fD.nd zC)
  (ai (aA AD rfl (EV (pv 2)) (pGA (i:=5) fD.nd) (aj (aA AD rfl (aP (pcq (w6 T 6) hr T.X42 (ab (pv 5) (ab (ah aC (ax aN (pv 3) ag (fun _ _=>rfl)) ag) (ab (ah aC (ax aN (pv 3) ag (fun _ _=>rfl)) ag) (ab (bG AU PySem.F.slot_list_count PySem.F.type_list_count (Ei hr) (pv 1) (ab (pv 3) af)) af)))))) (cH rfl (aT (pGA (i:=6) fD.nd) (aT (pGA (i:=7) fD.nd) cj))) (aj (fU (bx hr) (pv 4) (pv 6) (ah aG (lV (bx hr) (pv 4) (pv 6) ag ⟨rfl,rfl,rfl,rfl⟩) (ah aU (db (bx hr) (pv 2) (pv 5) (fun _ _=>rfl)) (pv 7))) rfl)))))
  (aj (pSA (i:=2) fD.nd (pv 4))))))
  (aj (ap (E1 rfl (by rfl) T.n_sum (pv 2)))))), ?_⟩
 obtain⟨wa,OG,rfl,hwa,hwi⟩:=az hv;have wlen:OG.length=mk.length:=by rw[hwi.length,A1]
 refine fun kd nkd=> ?_;have s0:ae H (upd H kd (.dT [])):=ae.new nkd;have Qa:upd H kd (.dT []) kd=some (.dT []):=al;generalize upd H kd (.dT [])=H0 at s0 Qa⊢;refine⟨(zB rfl),fun l1 H1 n1 s1 h1=> ?_⟩;refine⟨_,rfl, .i 0,d,aB h1 (ak bq ao),rfl,by lia,by lia,Ad (ay (by lia)),fun l2 H2 n2 s2 h2=> ?_⟩;refine⟨.ref l2,_,rfl,h2,fun t3 H3 n3 s3 h3=> ?_⟩;have Lj:=(s1.trans s2).trans s3;have hkd3:=Lj _ _ Qa;rw[Az] at h3;have Pe:H3 t3=some (.tup ((bD (List.replicate d 0)).map kV)):=by
  rw[<-Cw] at h3;obtain⟨a,e,ha⟩:=bO (xs:=List.replicate d 0) h3;cases e;rw[kG];exact ha
 refine⟨hkd3,bD (List.replicate d 0),t3,rfl,Pe, ?_⟩;have e0:aR ([]:Qt (Qt Key×V)) (bD (List.replicate d 0)) (.int 1)=bj [(List.replicate d 0,1)]:=vb [] _ _;rw[e0];have sH:ae H (upd H3 kd (.dT (bj [(List.replicate d 0,1)]))):=(s0.trans Lj).put nkd;have Ol:upd H3 kd (.dT (bj [(List.replicate d 0,1)])) kd=some (.dT (bj [(List.replicate d 0,1)])):=al;generalize upd H3 kd (.dT (bj [(List.replicate d 0,1)]))=H4 at sH Ol⊢;clear h1 h2 h3 Pe hkd3 Lj s1 s2 s3 n1 n2 n3 Qa s0 e0 H0 H1 H2 H3;have tab0:TabOk d 0 [(List.replicate d 0,(1:Int))]:=by
  refine⟨by simp,fun x hx=> ?_⟩;rw[Ab.mp hx];refine⟨by simp,by simp,fun i=> ?_⟩;rw[A9,List.getElem?_replicate];split<;>simp
 refine⟨_,rfl, .ref wa,mk.map bX,3,rfl,by rw[<-uF];exact hv.mono sH,by decide,IT,PV,fun L9 l0 H5 nd mem so O8 s5 hq=> ?_⟩;have ey:=G3 nd mem so;subst ey;rw[<-uF] at hq;clear nd mem so;have hhm:bB [(List.replicate d 0,(1:Int))] (TF (fun m=>mk.count m) (dm mk))=hmF d mk:=by
  simp[bB,hmF]
 have hS:∀m∈dm mk,m∈mk:=fun m hm=>oW.mp hm;have hSn:=Jd mk;generalize hcn:(fun m=>mk.count m)=cnt at hhm;generalize hmF d mk=tot at hhm kk;generalize dm mk=S at hq hhm hS hSn;obtain⟨_,Lh,e,Nt,Mj⟩:=az hq;cases e;have LH:Lh.length=S.length:=by rw[Mj.length,A1]
 refine⟨l0,rfl,⟨_,SqL.of Nt⟩,aY (xs:=Lh) (fun i σ H6=>(∃kd D n,(∃v3 v4 v5 v6 v7,σ=[some (.int d),some (.ref wa),some (.ref kd),v3,v4,v5,v6,v7])/\H6 kd=some (.dT (bj D))/\TabOk d n D/\n=((S.take i).map cnt).sum/\bB D (TF cnt (S.drop i))=tot/\H kd=none)/\ae H H6/\H6 l0=some (.lst Lh)/\av H5 H6) ⟨⟨kd,_,0,⟨none,none,none,none,none,rfl⟩,s5 _ _ Ol,tab0,rfl,hhm,nkd⟩,sH.trans s5,Nt,av.of_same (ae.refl H5)⟩ (fun i σ H6 _ h=>SqL.of h.2.2.1) ?_ ?_⟩
 .rintro i y σ H6 hi ⟨⟨kd,D,n,⟨v3,v4,v5,v6,v7,rfl⟩,N8,tab,hn,Nu,nkd⟩,s6,OZ,t6⟩;obtain⟨x,K4,hy⟩:=aH Mj hi;have O6:i<S.length:=(A8.mp K4).1;have exi:S[i]=x:=(A8.mp K4).2;obtain⟨ya,rfl,O'⟩:=fE hy;obtain⟨o1,o2,o3⟩:=mok x (hS x (AH K4));have OU:((S.take (i+1)).map cnt).sum=n+cnt x:=by
   rw[AK,K4,A6,CA,<-hn];simp
  have hn15:n+cnt x<=15:=by
   have:=vd mk (S.take (i+1)) (hSn.sublist (List.take_sublist _ _));rw[hcn,OU] at this;lia
  rw[Ai O6,exi,Je] at Nu;obtain⟨p,hp⟩:∃p:Nat,x.1-1=(p:Int):=⟨(x.1-1).toNat,by lia⟩;obtain⟨g,hg⟩:∃g:Nat,x.2.1-x.1-1=(g:Int):=⟨(x.2.1-x.1-1).toNat,by lia⟩;rw[hp,hg,Az,Az] at Nu;have rok:oZ p d n (n+cnt x) (spR g (cnt x)):=fun r hr=>by
   obtain⟨e1,e2⟩:=oY hr;exact⟨by lia,by lia⟩
  obtain⟨tab',sum'⟩:=o6 rok (TF cnt (S.drop (i+1))) tab.key (acc:=[]) ⟨by simp,fun x hx=>nomatch hx⟩;refine fun f nf=> ?_;have s7:ae H6 (upd H6 f (.dT [])):=ae.new nf;have Pb:upd H6 f (.dT []) f=some (.dT (bj [])):=al;have Ni:H f=none:=s6.free nf;have fkd:f≠kd:=by rintro rfl;rw[N8] at nf;cases nf
  generalize upd H6 f (.dT [])=H7 at s7 Pb⊢;refine⟨_,rfl,kd,bj D,rfl, .inl (s7 _ _ N8),fun o H8 hk8 N9=> ?_⟩;have l8:LTS H7 H8:=LTS.rd (.inl (s7 _ _ N8)) N9;have s8:ae H H8:=fun b u e=>by rw[N9 b (by rintro rfl;rw[nkd] at e;cases e)];exact s7 _ _ (s6 _ _ e)
  refine EW (fun j σ H9=>(∃v5 v6 v7,σ=[some (.int d),some (.ref wa),some (.ref kd),some (.ref ya),some (.ref f),v5,v6,v7])/\ae H H9/\H9 kd=some (.frz o (.dT (bj D)))/\H9 l0=some (.lst Lh)/\av H5 H9/\H9 f=some (.dT (bj (stP p (spR g (cnt x)) (D.take j) [])))) ⟨⟨_,_,_,rfl⟩,s8,hk8,l8.1 _ _ (s7 _ _ OZ),(t6.trans (av.of_same s7)).trans l8.2,by rw[N9 f fkd];exact Pb⟩ (fun j σ H9 _ h=>h.2.2.1) ?_ ?_
  .rintro j k c b σ H9 hj ⟨⟨v5,v6,v7,rfl⟩,s9,hk9,hl9,t9,Pf⟩ hb;unfold bj at hj;rw[AC] at hj;obtain⟨⟨t,cv⟩,hD,ekc⟩:=AR.mp hj;simp only[DD] at ekc;obtain⟨rfl,rfl⟩:=ekc;rw[kG] at hb;have hDm:(t,cv)∈D:=AH hD;obtain⟨k1,k2,k3⟩:t.length=d/\t.sum=(n:Int)/\∀i:Nat,0<=t.getD i 0:=tab.key _ hDm;have hx9:Is H9 (lf x) (.ref ya):=jh (t9 _ _ O');have hw9:=hwi.mono s9;rw[Jf hD];have Pg:=(o6 rok (fun _=>0) (xs:=D.take j) (fun y hy=>tab.key y (Cb hy)) (acc:=[]) ⟨by simp,fun x hx=>nomatch hx⟩).1;generalize stP p (spR g (cnt x)) (D.take j) []=ac at Pf Pg⊢;refine⟨_,rfl,_,rfl,_,0,_,hx9,rfl,rfl,fun u1 LA=> ?_⟩;rw[aE LA];refine⟨_,_,rfl,rfl,_,rfl,_,1,_,hx9,rfl,rfl,fun u2 Me=> ?_⟩;rw[aE Me];refine⟨_,_,rfl,rfl,_,rfl, .inl ⟨rfl,_,SqL.of (s9 _ _ hwa)⟩,_,rfl,wa,OG, .ref ya,1,_,rfl,rfl,SqL.of (s9 _ _ hwa),Jc hw9 hx9, ?_⟩;rw[wlen,Hj];refine⟨.ref b,t,p,g,cnt x, ?_,eX hb,by lia,by decide,by lia,⟨by lia,k3,by lia⟩,fun rl H10 OI Mn MQ=> ?_⟩
   .show [V.ref b,V.int (x.1-1),V.int (x.2.1-2),V.int (mk.count x:Nat)]=_;rw[hp,show x.2.1-2=(p:Int)+(g:Int) by lia,<-hcn]
   rw[uU (by lia),BA] at MQ;obtain⟨_,LC,e,Ph,LR⟩:=az MQ;cases e;have PU:∀r∈spR g (cnt x),r.length=g+1/\r.sum=cnt x:=fun r hr=>oY hr;generalize spR g (cnt x)=rs at LR rok PU⊢;have Ld:LC.length=rs.length:=by rw[LR.length,A1]
   have hk10:=OI _ _ hk9;have hf10:=OI _ _ Pf;have rlf:rl≠f:=by rintro rfl;rw[Pf] at Mn;cases Mn
   have l0f:l0≠f:=by rintro rfl;rw[hl9] at Pf;cases Pf
   refine⟨rl,rfl,⟨_,SqL.of Ph⟩,aY (xs:=LC) (fun m σ H11=>(∃v6 v7,σ=[some (.int d),some (.ref wa),some (.ref kd),some (.ref ya),some (.ref f),some (.ref b),v6,v7])/\ae H H11/\H11 kd=some (.frz o (.dT (bj D)))/\H11 l0=some (.lst Lh)/\av H10 H11/\H11 rl=some (.lst LC)/\H11 f=some (.dT (bj (inP t cv p (rs.take m) ac)))) ⟨⟨_,_,rfl⟩,s9.trans OI,hk10,OI _ _ hl9,av.of_same (ae.refl H10),Ph,hf10⟩ (fun m σ H11 _ h=>SqL.of h.2.2.2.2.2.1) ?_ ?_⟩
   .rintro m z σ H11 hm ⟨⟨v6,v7,rfl⟩,Qb,OJ,Qc,t11,Pi,M9⟩;obtain⟨r,Ln,hz⟩:=aH LR hm;obtain⟨q,u6,rfl,hq,hu6⟩:=qe (lz t11 hz);obtain⟨ua,rfl,hua⟩:=bO hu6;obtain⟨r1,r2⟩:=PU r (AH Ln);have hua':H11 ua=some (.tup ((bD (cn t p r)).map kV)):=by rw[kG];exact hua
    have hb11:H11 b=some (.tup ((bD t).map kV)):=by rw[kG];exact t11 _ _ (OI _ _ hb)
    have tabm:=(o0 (v:=cv) ⟨k1,k2,k3⟩ (fun _=>0) (rs:=rs.take m) (fun r hr=>rok r (Cb hr)) Pg).1;refine⟨q,_,rfl,SqT.of hq,rfl,_,_,rfl,_,_,rfl,rfl, ?_⟩;refine⟨_,rfl,f,rfl, .inr ⟨_, .inl M9⟩,_,rfl,_,cJ.t M9 hua', ?_⟩;rw[Hg];refine⟨_,rfl,_,rfl,kd, .int cv,rfl, .inr ⟨bj D,bD t,b, .inr ⟨o,OJ⟩,rfl,hb11,(Hh tab.nd hDm).symm⟩,_,rfl,_,_,rfl,rfl, .inr (Jb k3 (by lia) (by lia)),_,_,rfl,rfl,_,rfl,_,rfl,f,_,rfl,cS.t M9 hua' ?_, ?_⟩
    .rw [va];exact lx (tabm.size d5 hn15)
    .rw [show inP t cv p (rs.take (m+1)) ac=ie (inP t cv p (rs.take m) ac) (cn t p r) (cv*cf t p r) from wE _ _ rs m r Ln];rw[vb];exact⟨⟨_,_,rfl⟩,Qb.put Ni,by rw[ar fkd.symm];exact OJ,by rw[ar l0f];exact Qc,t11.trans (Jg M9),by rw[ar rlf];exact Pi,al⟩
   .rintro σ H11 ⟨⟨v6,v7,rfl⟩,Qb,OJ,Qc,t11,Pi,M9⟩;rw[Ld,AF] at M9;exact⟨⟨_,_,_,rfl⟩,Qb,OJ,Qc,(t9.trans (av.of_same OI)).trans t11,M9⟩
  .rintro σ H9 ⟨⟨v5,v6,v7,rfl⟩,s9,hk9,hl9,t9,Pf⟩;rw[va,AF] at Pf;refine⟨_,rfl,⟨f,_,n+cnt x,⟨_,_,_,_,_,rfl⟩,Pf,tab',OU.symm, ?_,Ni⟩,s9,hl9,t9⟩;rw[sum',Nu];simp[bB]
 .rintro σ H6 ⟨⟨kd,D,n,⟨v3,v4,v5,v6,v7,rfl⟩,N8,tab,hn,Nu,nkd⟩,s6,OZ,t6⟩;refine⟨_,rfl,kd,bj D,D.map (·.2),rfl, .inl N8,Hi D, ?_⟩;rw[LH,List.drop_length] at Nu;have:(D.map (·.2)).sum=tot:=by rw[<-G',<-Nu];rfl
  rw[this];exact kk H6 s6
theorem JM:OKQ T.X44 P w base 10 spHM:=by
 refine FbO T.X44 GC fun _ _ _ _ H vs Q E hr h=> ?_;obtain⟨d,dv,ps,rfl,d1,d5,hd,hs,PV,kk⟩:=h;refine⟨_,(ai (aO (pcq (JJ T) hr T.X40 (ab (pv 0) (ab (pv 1) af))))
  (aj (ap (pcq (JL T) hr T.X43 (ab (pv 0) (ab (ah df (pv 1) (pcq (JK T) hr T.X41 (ab (pv 0) (ab (pv 1) af)))) af)))))), ?_⟩
 obtain⟨hM,PV⟩:=IZ PV;have pl:=hM.2;rw[AA] at pl;refine⟨_,rfl,_,rfl,d,dv,ps,rfl,d1,d5,hd,hs,fun H1 s1=> ?_⟩;refine⟨_,rfl,_,rfl,_,rfl,_,rfl,d,dv,ps,rfl,d1,d5,hd.mono s1,hs,by lia,fun l2 H2 s2 n2 h2=> ?_⟩;refine⟨_,_,(hd.mono s1).mono s2,h2,Ad (ay (by rw[A1,A1];lia)),fun l3 H3 n3 s3 h3=> ?_⟩;rw[<-A6] at h3;refine⟨d, .ref l3,_,rfl,d1,d5,h3,hM,PV,fun H4 s4=>kk H4 (((s1.trans s2).trans s3).trans s4)⟩
theorem JN:OKQ T.X37 P w base 1 spWorth:=by
 refine FbO T.X37 kh fun _ _ _ _ H vs Q E hr h=> ?_;obtain⟨dv,ps,d,rfl,hd,hok,kk⟩:=h;refine⟨_,(ai (pSA (i:=1) kh.nd ag)
  (ai (aA AD rfl (aP (pv 0)) (pGA (i:=2) kh.nd) (aj (fM (i:=1) kh.nd rfl (by trivial) (ah iH (ax aN (pv 2) ag (fun _ _=>rfl)) ag) jV)))
  (aj (ap (pv 1))))), ?_⟩
 obtain⟨da,K6,rfl,L4,Md⟩:=az hd;have Nq:K6.length=ps.length:=by rw[Md.length,A1]
 refine⟨_,rfl,da,rfl,⟨_,SqL.of L4⟩,aY (xs:=K6) (fun i σ H2=>(∃v2,σ=[some (.ref da),some (.int (fH (ps.take i))),v2])/\H2=H) ⟨⟨none,rfl⟩,rfl⟩ (fun i σ H2 _ h=>by rw[h.2];exact SqL.of L4) ?_ ?_⟩
 .rintro i x σ H2 hi ⟨⟨v2,rfl⟩,rfl⟩;obtain⟨p,Lp,hy⟩:=aH Md hi;obtain⟨_,w1,w2⟩:=hok p (AH Lp);have b1:p.2.2.natAbs<2^64:=by lia
  have b2:p.2.2^(2:Int).toNat<2^64:=by
   show p.2.2^2<2^64;have:p.2.2*p.2.2<=2^20*2^20:=D8 w2 w2 (by lia) (by decide);rw[Int.pow_succ,Int.pow_succ,Int.pow_zero,Int.one_mul];lia
  have b3: -(2^64)<p.2.2^(2:Int).toNat:=by
   show _<p.2.2^2;have h0:0<=p.2.2*p.2.2:=CN (by lia) (by lia);have h1:p.2.2^2=p.2.2*p.2.2:=by rw[Int.pow_succ,Int.pow_succ,Int.pow_zero,Int.one_mul]
   rw[h1];lia
  refine⟨_,rfl,_,rfl,_,2,_,hy,rfl,rfl,fun u hu=> ?_⟩;rw[aE hu];refine⟨_,_,rfl,rfl,⟨by decide,by decide,b1⟩,_,_,rfl,rfl, .inr ⟨b3,b2⟩,⟨some x, ?_⟩,rfl⟩;rw[AK,Lp];unfold fH;rw[Bi];rfl
 .rintro σ H2 ⟨⟨v2,rfl⟩,rfl⟩;rw[Nq,AF];exact⟨_,rfl,kk⟩
theorem JO:OKQ T.X8 P w base 1 spGath:=by
 refine FbO T.X8 cx fun _ _ _ _ H vs Q E hr h=> ?_;obtain⟨ta,pw,d,ps,rfl,M0,hpv,d5,hok,kk⟩:=h;refine⟨_,(ai (pSA (i:=2) cx.nd jQ)
  (ai (aA AD rfl (aP (pv 0)) (pGA (i:=3) cx.nd) (aj (fU (bx hr) (pv 2) (pv 3) (pv 3) rfl)))
  (ai (aA AD rfl (aP (pv 1)) (cH rfl (aT (pGA (i:=4) cx.nd) (aT (pGA (i:=5) cx.nd) cj))) (ai (pSA (i:=6) cx.nd (db (bx hr) (pv 2) (pv 4) (fun _ _=>rfl)))
  (ai (pSA (i:=7) cx.nd (db (bx hr) (pv 2) (pv 5) (fun _ _=>rfl)))
  (aj (aA AD rfl (aP (pv 0)) (pGA (i:=3) cx.nd) (aj (aW (aQ cI (db (bx hr) (pv 2) (pv 3) (fun _ _=>rfl)) (pv 7) (aI _)) (aj (fU (bx hr) (pv 2) (pv 3) (pv 6) rfl)) aX)))))))
  (aj (ap (pv 2)))))), ?_⟩
 obtain⟨pa,MF,rfl,Pj,Pk⟩:=gI hpv;have plen:MF.length=ps.length:=by rw[Pk.length,A1]
 intro st NC;have tst:ta≠st:=fun z=>by rw[z,NC] at M0;cases M0
 have Ld:(bW 1 d).length=d:=by unfold bW;simp
 refine⟨_,rfl,ta,rfl,⟨_,SqL.of (by rw[ar tst];exact M0)⟩,aY (xs:=bW 1 d) (fun i σ H2=>(∃v3 v4 v5 v6 v7,σ=[some (.ref ta),some (.ref pa),some (.ref st),v3,v4,v5,v6,v7])/\ae H H2/\H2 st=some (.dK (bS i fun t=>1+(t:Int))))
  ⟨⟨none,none,none,none,none,rfl⟩,ae.new NC,al⟩ (fun i σ H2 _ h=>SqL.of (h.2.1 _ _ M0)) ?_ ?_⟩
 .rintro i x σ H2 hi ⟨⟨v3,v4,v5,v6,v7,rfl⟩,s2,K8⟩;obtain⟨hid,rfl⟩:=qi hi;have dp:=cS.k (k:=Sum.inl (1+(i:Int))) (v:= .int (1+(i:Int))) K8 (ay (by rw[wO];lia));rw[Jo (L:=fun t=>1+(t:Int)) i] at dp;exact⟨_,rfl,_,rfl,_,rfl,st,_,rfl,dp,⟨_,_,_,_,_,rfl⟩,s2.put NC,al⟩
 .rintro σ H2 ⟨⟨v3,v4,v5,v6,v7,rfl⟩,s2,K8⟩;rw[Ld] at K8;refine⟨_,rfl,pa,rfl,⟨_,SqL.of (s2 _ _ Pj)⟩,aY (xs:=MF) (fun i σ H3=>(∃v3 v4 v5 v6 v7,σ=[some (.ref ta),some (.ref pa),some (.ref st),v3,v4,v5,v6,v7])/\ae H H3/\H3 st=some (.dK (bS d ((ps.take i).foldl gh fun t=>1+(t:Int)))))
   ⟨⟨_,_,_,_,_,rfl⟩,s2,K8⟩ (fun i σ H3 _ h=>SqL.of (h.2.1 _ _ Pj)) ?_ ?_⟩
  .rintro i x σ H3 hi ⟨⟨v3,v4,v5,v6,v7,rfl⟩,s3,M'⟩;obtain⟨p,Lp,hy⟩:=aH Pk hi;obtain⟨t,rfl,hta'⟩:=fA hy;obtain⟨o1,o2,o3,o4⟩:=hok p (AH Lp);have en:(ps.take (i+1)).foldl gh (fun t=>1+(t:Int))=gh ((ps.take i).foldl gh fun t=>1+(t:Int)) p:=by
    rw[AK,Lp,Bi];rfl
   rw[en];generalize (ps.take i).foldl gh (fun t=>1+(t:Int))=L at M'⊢;obtain⟨x,y⟩:=p;dsimp only at o1 o2 o3 o4 hta';obtain⟨m,rfl,hm,em⟩:=wP o1 o2;obtain⟨n,rfl,hn,en⟩:=wP o3 o4;refine⟨t,_,rfl,SqT.of (s3 _ _ hta'),rfl,_,_,rfl,_,_,rfl,rfl, ?_⟩;refine⟨_,rfl,_,rfl,st,_,rfl,lB M' hm,_,rfl,_,rfl,st,_,rfl,lB M' hn, ?_⟩;refine⟨_,rfl,ta,rfl,⟨_,SqL.of (s3 _ _ M0)⟩,aY (xs:=bW 1 d) (fun j σ H4=>(∃v3,σ=[some (.ref ta),some (.ref pa),some (.ref st),v3,some (.int (1+(m:Int))),some (.int (1+(n:Int))),some (.int (L m)),some (.int (L n))])/\ae H H4/\H4 st=some (.dK (bS d fun t=>if t<j/\L t=L n then L m else L t)))
    ⟨⟨_,rfl⟩,s3,by rw[M'];exact lA fun t _=>by rw[A5 (by lia)]⟩ (fun i σ H4 _ h=>SqL.of (h.2.1 _ _ M0)) ?_ ?_⟩
   .rintro j x σ H4 hj ⟨⟨v3,rfl⟩,s4,Nv⟩;obtain⟨hjd,rfl⟩:=qi hj;refine⟨_,rfl,_,rfl,st,_,rfl,lB Nv hjd,_,rfl,rfl,_,rfl, ?_⟩;rw[A5 (show¬(j<j/\L j=L n) by lia)];refine de (fun e=> ?_) (fun e=> ?_)
    .refine⟨_,rfl,_,rfl,_,rfl,st,_,rfl,Jp Nv hjd d5,⟨_,rfl⟩,s4.put NC, ?_⟩;rw[al];refine lA fun t _=> ?_;by_cases c:t=j
     .subst c;rw[A7 rfl,A7 ⟨by lia,e⟩]
     .rw [A5 c];by_cases c2:t<j/\L t=L n
      .rw [A7 c2,A7 ⟨by lia,c2.2⟩]
      .rw [A5 c2,A5 (fun z=>c2 ⟨by lia,z.2⟩)]
    .refine⟨⟨_,rfl⟩,s4, ?_⟩;rw[Nv];refine lA fun t _=> ?_;by_cases c2:t<j/\L t=L n
     .rw [A7 c2,A7 ⟨by lia,c2.2⟩]
     .rw [A5 c2,A5 (fun z=>c2 ⟨by
       rcases Bo t j with q|q
       .exact q
       .exact absurd (by rw[show j=t by lia];exact z.2) e,z.2⟩)]
   .rintro σ H4 ⟨⟨v3,rfl⟩,s4,Nv⟩;rw[Ld] at Nv;refine⟨⟨_,_,_,_,_,rfl⟩,s4, ?_⟩;rw[Nv];refine lA fun t ht=> ?_;unfold gh;dsimp only;rw[em,en];by_cases c:L t=L n
    .rw [A7 ⟨ht,c⟩,A7 c]
    .rw [A5 (fun z=>c z.2),A5 c]
  .rintro σ H3 ⟨⟨v3,v4,v5,v6,v7,rfl⟩,s3,M'⟩;rw[plen,AF] at M';exact⟨_,rfl,kk st H3 s3 NC M'⟩
theorem JP:OKQ T.X9 P w base 2 spMany:=by
 refine FbO T.X9 j7 fun _ _ _ _ H vs Q E hr h=> ?_;obtain⟨ta,pw,d,ps,rfl,M0,hpv,d5,hok,kk⟩:=h;refine⟨_,(ai (pSA (i:=2) j7.nd (pcq (JO T) hr T.X8 (ab (pv 0) (ab (pv 1) af))))
  (aj (ap (bm iK (by rfl) T.n_len DL (ab (cV (XN:=["things","pairs","standing"]) (sc:=am iX) (N:=["thing","standing"]) (own:=1) (js:=[2]) rfl (by ac_nf) rfl rfl (aP (pv 0)) (fun _ _ _ _=>(bK (i:=0) (show List.Nodup (["thing","standing"]:Qt Str) by ac_nf) rfl (Or.inl rfl) (.inr rfl))) (cU (by decide)) (fun _ _ _ _=>(iP (aQ cI (db (bx hr) (pv 1) (pv 0) (fun _ _=>rfl)) (pv 0) (aI _)))) (fun _ _ _ _=>(pv 0))) af))))), ?_⟩
 refine⟨_,rfl,_,rfl,ta,pw,d,ps,rfl,M0,hpv,d5,hok,fun st H2 s2 NC K8=> ?_⟩;have Ld:(bW 1 d).length=d:=by unfold bW;simp
 refine⟨_,rfl,ta,rfl,⟨_,SqL.of (s2 _ _ M0)⟩,fun acc na=> ?_⟩;refine dP (xs:=bW 1 d) (own:=1) (js:=[2]) (fun i H3=>ae H2 H3/\H3 acc=some (.lst (((List.range i).filter fun t=>decide (hU ps t=1+(t:Int))).map fun t:Nat=>V.int (1+(t:Int))))) ⟨ae.new na,al⟩ (fun i H3 _ h=>SqL.of (h.1 _ _ (s2 _ _ M0))) ?_ ?_ cW ?_ ?_
 .rintro i x H3 hi ⟨s3,KR⟩;obtain⟨hid,rfl⟩:=qi hi;refine⟨_,rfl,_,rfl,st,_,rfl,lB (s3 _ _ K8) hid,_,rfl,rfl,_,rfl, ?_⟩;refine de (fun e=> ?_) (fun e=> ?_)
  .refine⟨_,rfl,acc,_,_,rfl,rfl,KR,ay ?_,s3.put na, ?_⟩
   .rw [A1];have:=Bl (fun t:Nat=>decide (hU ps t=1+(t:Int))) (List.range i);rw[BJ] at this;lia
   .rw [al,Ax,Ba,A6];simp[By,e]
  .refine⟨s3, ?_⟩;rw[KR,Ax,Ba,A6];simp[By,e]
 .rintro H3 ⟨s3,KR⟩;rw[Ld] at KR;refine⟨acc,_,rfl, .inl (SqL.of KR), ?_⟩;rw[A1];exact kk H3 (s2.trans s3)
 .rintro σ H R R' k ⟨v1,e1,v2,e2,a,v,e3,g,v4,e4,e5,b,e6,h⟩;exact⟨v1,e1,v2,e2,a,v,e3,g,v4,e4,e5,b,e6,k _ _ h⟩
 .rintro σ H R R' k ⟨v1,e1,h⟩;exact⟨v1,e1,k _ _ h⟩
theorem JQ:OKQ T.X36 P w base 4 spParts:=by
 refine FbO T.X36 Gz fun _ _ _ _ H vs Q E hr h=> ?_;obtain⟨d,dv,ps,rfl,hd,d1,d5,hl,hok,kk⟩:=h;refine⟨_,(ai (aO (pcq (iB T) hr T.X4 (ab (pv 0) af)))
  (aj (ap (pcq (JP T) hr T.X9 (ab (Dw rfl (by rfl) T.n_list (by rfl) T.n_range (ab ag (ab (ah aG (pv 0) ag) af))) (ab (cV (XN:=["d","drawing"]) (sc:=am kg) (N:=["lift"]) (own:=1) (js:=[]) rfl (by ac_nf) rfl rfl (aP (pv 1)) (fun _ _ _ _=>(bK (i:=0) (show List.Nodup (["lift"]:Qt Str) by ac_nf) rfl (Or.inl rfl) (.inr rfl))) (cU (by decide)) (fun _ _ _ _=>dz) (fun _ _ _ _=>(bf (ab (ax aN (pv 0) ag (fun _ _=>rfl)) (ab (ax aN (pv 0) ag (fun _ _=>rfl)) af))))) af)))))), ?_⟩
 refine⟨_,rfl,(d:Int),rfl,by lia,by lia, ?_⟩;obtain⟨da,K6,rfl,L4,Md⟩:=az hd;have Nq:K6.length=ps.length:=by rw[Md.length,A1]
 refine⟨_,rfl,_,_,rfl,rfl,1,_,rfl,⟨by lia,by lia,by lia,by lia⟩,by lia,fun ta nta=> ?_⟩;have e1:((d:Int)+1-1).toNat=d:=by lia
 rw[e1];have s1:ae H (upd H ta (.lst (bW 1 d))):=ae.new nta;have M0:upd H ta (.lst (bW 1 d)) ta=some (.lst (bW 1 d)):=al;generalize upd H ta (.lst (bW 1 d))=H1 at s1 M0⊢;refine⟨_,rfl,da,rfl,⟨_,SqL.of (s1 _ _ L4)⟩,fun acc na=> ?_⟩;refine dP (xs:=K6) (own:=1) (js:=[]) (fun i H3=>ae H1 H3/\bV H3 acc (((ps.take i).map fun p:Lf=>((p.1,p.2.1):Pt)).map pt)) ⟨ae.new na,bV.start⟩ (fun i H3 _ h=>SqL.of (h.1 _ _ (s1 _ _ L4))) ?_ ?_ cW dB ?_
 .rintro i x H3 hi ⟨s3,vs,KR,Lq⟩;obtain⟨p,Lp,hy⟩:=aH Md hi;have O6:i<ps.length:=(A8.mp Lp).1;have O7:Is H3 (lf p) x:=hy.mono (s1.trans s3);refine eV ?_;refine⟨_,rfl,_,0,_,O7,rfl,rfl,fun u hu=>⟨_,rfl,_,1,_,O7,rfl,rfl,fun u' OB=>⟨(zB rfl),fun q H4 nq s4 hq=> ?_⟩⟩⟩;rw[aE hu,aE OB] at hq;refine⟨acc,vs,_,rfl,rfl,s4 _ _ KR,ay (by rw[Lq.length];simp;lia),(s3.trans s4).put na, ?_⟩;rw[AK,Lp,A6,A6];exact gJ (Lq.mono (cZ s4)) (eW (p:=(p.1,p.2.1)) (by rw[dC (bw KR nq).symm];exact hq))
 .rintro H3 ⟨s3,g⟩;rw[Nq,AF] at g;exact⟨ta,_,d,kz ps,rfl,s3 _ _ M0,g.is,d5,GQ hok,fun H4 s4=>kk H4 ((s1.trans s3).trans s4)⟩
 .rintro σ H R R' k ⟨v1,e1,xs,i,d,h1,e2,e3,h⟩;refine⟨v1,e1,xs,i,d,h1,e2,e3,fun u hu=> ?_⟩;obtain⟨v1,e1,xs,i,d,h1,e2,e3,h⟩:=h u hu;refine⟨v1,e1,xs,i,d,h1,e2,e3,fun u hu=> ?_⟩;obtain⟨z,h⟩:=h u hu;exact⟨z,fun p H2 np s2 hp=>k _ _ (h p H2 np s2 hp)⟩
theorem JR:OKQ T.X45 P w base 12 spWFl:=by
 refine FbO T.X45 uA fun _ _ _ _ H vs Q E hr h=> ?_;obtain⟨d,k,rfl,hN,kk⟩:=h;refine⟨_,(ai (aO (pcq (lD T) hr T.X3 (ab (pv 0) (ab (pv 1) af))))
  (ai (l' (i:=2) uA.nd rfl (by trivial) (.inl rfl) (XN:=["d","k","whole"]) (sc:=am i9) (N:=["drawing","d"]) (own:=1) (js:=[0]) rfl (by ac_nf) rfl rfl (aP (pcq (JH T) hr T.X35 (ab (pv 0) (ab (pv 1) af)))) (fun _ _ _ _=>(bK (i:=0) (show List.Nodup (["drawing","d"]:Qt Str) by ac_nf) rfl (Or.inl rfl) (.inr rfl))) (cU (by decide)) (fun _ _ _ _=>(iP (aQ cI (pcq (JQ T) hr T.X36 (ab (pv 1) (ab (pv 0) af))) ag (aI _)))) (fun _ _ _ _=>(pv 0)))
  (aj (ap (bm (iS rfl) (by rfl) T.n_sum boot_sum (ab (cV (XN:=["d","k","whole"]) (sc:=am i9) (N:=["drawing","d"]) (own:=1) (js:=[0]) rfl (by ac_nf) rfl rfl (aP (pv 2)) (fun _ _ _ _=>(bK (i:=0) (show List.Nodup (["drawing","d"]:Qt Str) by ac_nf) rfl (Or.inl rfl) (.inr rfl))) (cU (by decide)) (fun _ _ _ _=>dz) (fun _ _ _ _=>(ah aU (pcq (JN T) hr T.X37 (ab (pv 0) af)) (pcq (JM T) hr T.X44 (ab (pv 1) (ab (pv 0) af)))))) af)))))), ?_⟩
 obtain⟨g1,g4,g5⟩:=IH hN;have hW:Wide d k:=by unfold NoH at hN;unfold Wide;lia
 have d15:1<=d/\d<=5:=by unfold Wide at hW;lia
 refine⟨_,rfl,_,rfl,d,k,rfl,hW, ?_⟩;refine⟨_,rfl,_,rfl,d,k,rfl,hW,⟨g1,g5⟩,fun L l H1 pL s1 nl hl=> ?_⟩;have g4:∀x∈L,jk d x=true/\mkB d x=true:=fun x hx=>g4 x (pL.mem_iff.mp hx);have g5:L.length<=1000:=by have:=pL.length_eq;lia
 rw[show gs d k=((L.filter (isW d)).map (kJ d)).sum from(pY (kJ d) (pL.filter (isW d))).symm] at kk;clear pL;have hl:=hl.mono bu;obtain⟨_,Lh,e,Mv,Mj⟩:=az hl;cases e;have LH:Lh.length=L.length:=by rw[Mj.length,A1]
 refine⟨l,rfl,⟨_,SqL.of Mv⟩,fun acc na=> ?_⟩;refine dP (xs:=Lh) (own:=1) (js:=[0]) (fun i H3=>ae H1 H3/\∃vs,H3 acc=some (.lst vs)/\Iss H1 (((L.take i).filter (isW d)).map lfs) vs) ⟨ae.new na,[],al,ao⟩ (fun i H3 _ h=>SqL.of (h.1 _ _ Mv)) ?_ ?_ cW ?_ ?_
 .rintro i y H3 hi ⟨s3,vs,KR,Lq⟩;obtain⟨x,hx,hy⟩:=aH Mj hi;have il:i<L.length:=(A8.mp hx).1;obtain⟨o1,o2,o3,_,_⟩:=vf (g4 x (AH hx)).1;have PN:=hy.mono s3;have nx:(L.take (i+1)).filter (isW d)=(L.take i).filter (isW d)++if isW d x=true then [x] else []:=by
   rw[AK,hx,Ba];simp only[Option.toList_some,By,List.filter_nil]
  refine⟨_,rfl,_,rfl,d,y,x,rfl,PN,d15.1,d15.2,o3,o1.okl,fun H4 s4=> ?_⟩;rw[nx];refine⟨rfl,_,rfl,de (fun e=> ?_) (fun e=> ?_)⟩
  .have e':isW d x=true:=by unfold isW o8;exact At (by lia)
   have vl:vs.length<=1000:=by
    rw[Lq.length,A1];have:=Bl (isW d) (L.take i);rw[AS] at this;lia
   refine⟨_,rfl,acc,vs,_,rfl,rfl,s4 _ _ KR,ay vl,(s3.trans s4).put na,_,al, ?_⟩;rw[A7 e',A6];exact Lq.append (ak hy ao)
  .have e':isW d x=false:=by unfold isW o8;exact Ae (by lia)
   refine⟨s3.trans s4,vs,s4 _ _ KR, ?_⟩;rw[e',A5 AV,B5];exact Lq
 .rintro H3 ⟨s3,vs,KR,Lq⟩;rw[LH,AF] at Lq;have Np:∀x∈L.filter (isW d),x∈L:=fun x hx=>(Cr.mp hx).1;have fl:(L.filter (isW d)).length<=1000:=B9 (Bl _ _) g5;generalize L.filter (isW d)=M at Lq Np fl kk;have Mc:vs.length=M.length:=by rw[Lq.length,A1]
  refine⟨_,rfl,acc,rfl,⟨_,SqL.of KR⟩,fun P7 Pa=> ?_⟩;refine dP (xs:=vs) (own:=1) (js:=[0]) (fun i H4=>ae H3 H4/\H4 P7=some (.lst (((M.take i).map (kJ d)).map V.int))) ⟨ae.new Pa,al⟩ (fun i H4 _ h=>SqL.of (h.1 _ _ KR)) ?_ ?_ cW dB ?_
  .rintro i y H4 hi ⟨s4,hac⟩;obtain⟨x,hx,hy⟩:=aH Lq hi;have il:i<M.length:=(A8.mp hx).1;obtain⟨g41,g42⟩:=g4 x (Np x (AH hx));obtain⟨o1,o2,o3,o4,o5⟩:=vf g41;have hy4:=(hy.mono s3).mono s4;refine eV ?_;refine⟨_,rfl,y,x,d,rfl,hy4,(fun p hp=>⟨trivial,(o2 p hp).2⟩),_,rfl,_,rfl,d,y,x,rfl,d15.1,d15.2,hy4,o1,g42,fun H5 s5=> ?_⟩;refine⟨_,_,rfl,rfl, .inl ⟨by lia,by lia⟩,P7,_,_,rfl,rfl,s5 _ _ hac,ay (by rw[A1,A1,AS];lia),(s4.trans s5).put Pa, ?_⟩;rw[al,AK,hx,A6,A6];rfl
  .rintro H4 ⟨s4,hac⟩;rw[Mc,AF] at hac;exact⟨P7,_,rfl,SqL.of hac,kk H4 ((s1.trans s3).trans s4)⟩
  .rintro σ H R R' k' ⟨v1,e1,dv,ps,d',e2,i1,o1,v2,e3,v3,e4,n,dv2,ps2,e5,a1,a2,i2,sn,sb,kk2⟩;exact⟨v1,e1,dv,ps,d',e2,i1,o1,v2,e3,v3,e4,n,dv2,ps2,e5,a1,a2,i2,sn,sb,fun H' s'=>let ⟨i,j,x1,x2,x3,x4⟩:=kk2 H' s';⟨i,j,x1,x2,x3,k' _ _ x4⟩⟩
 .rintro σ H R R' k' ⟨v1,e1,v2,e2,n,dv,ps,e3,i1,a1,a2,a3,a4,kk2⟩;exact⟨v1,e1,v2,e2,n,dv,ps,e3,i1,a1,a2,a3,a4,fun H' s'=>let ⟨x1,b,x2,x3⟩:=kk2 H' s';⟨x1,b,x2,k' _ _ x3⟩⟩
 .rintro σ H R R' k' ⟨v1,e1,h⟩;exact⟨v1,e1,k' _ _ h⟩
theorem JS:OKQ T.X68 P w base 1 spGreat:=by
 refine FbO T.X68 hJ fun _ _ _ _ H vs Q E hr h=> ?_;obtain⟨x,rfl,kk⟩:=h;refine⟨_,(ai (aW (aQ iI (pv 0) (ah iH ag ag) (aI _)) (aj (ap (ah aC (pv 0) (ah iH ag ag)))) aX)
  (ai (aW (aQ gC (pv 0) (ah aC ag (ah iH ag ag)) (aI _)) (aj (ap (ah aC (ah aC ag (pv 0)) (ah iH ag ag)))) aX)
  (ai (pSA (i:=1) hJ.nd (ah aG (ah jM (pv 0) ag) ag))
  (ai (pSA (i:=2) hJ.nd ag)
  (ai (aA AD rfl (eS (by rfl) T.n_range (ab ag af)) (pGA (i:=3) hJ.nd) (ai (pSA (i:=1) hJ.nd (ah jM (ah aG (ah aG (ah aG (ah aU (pv 1) ag) (ah aU (ah aU ag (pv 3)) (pv 3))) (ah gz (pv 1) ag)) ag) ag))
  (aj (pSA (i:=2) hJ.nd (ah aG (ah aU (pv 2) ag) (ah jM (ah aU (pv 1) ag) ag))))))
  (aj (ap (pv 2)))))))), ?_⟩
 have e18:(10:Int)^(18:Int).toNat=10^18:=rfl;refine⟨_,rfl,10,18,rfl,rfl,⟨by decide,by decide,by decide⟩,_,_,rfl,rfl,_,rfl,bz (fun h=> ?_) (fun h=> ?_)⟩
 .exact⟨_,rfl,10,18,rfl,rfl,⟨by decide,by decide,by decide⟩,_,_,rfl,rfl,kk _ (by lia)⟩
 .refine⟨_,rfl,10,18,rfl,rfl,⟨by decide,by decide,by decide⟩,_,_,rfl,rfl,_,_,rfl,rfl,_,rfl,bz (fun h2=> ?_) (fun h2=> ?_)⟩
  .exact⟨_,rfl,_,_,rfl,rfl,10,18,rfl,rfl,⟨by decide,by decide,by decide⟩,_,_,rfl,rfl,kk _ (by lia)⟩
  .refine⟨_,rfl,_,_,rfl,rfl,(show(0:Int)<2147483629 by decide),_,_,rfl,rfl, ?_⟩;refine⟨8,rfl,by decide,by decide,cu (n:=8) (fun i σ H2=>(∃(y f:Int) (v3:Qw V),σ=[some (.int x),some (.int y),some (.int f),v3]/\0<=y/\0<=f)/\H2=H) ⟨⟨_,0,none,rfl,by lia,by decide⟩,rfl⟩ ?_ ?_⟩
   .rintro i σ H2 hi ⟨⟨y,f,v3,rfl,y0,f0⟩,rfl⟩;refine⟨_,rfl,_,_,rfl,rfl, .inr ⟨by decide,by decide⟩,_,rfl,_,_,rfl,rfl, .inl ⟨by decide,by decide⟩,_,rfl,_,_,rfl,rfl, .inr ⟨by lia,by lia⟩,_,_,rfl,rfl,_,rfl,_,_,rfl,rfl,⟨by decide,by decide⟩,_,_,rfl,rfl,_,_,rfl,rfl,_,_,rfl,rfl,(show(0:Int)<2147483647 by decide), ?_⟩;refine⟨_,rfl,_,_,rfl,rfl, .inr ⟨by decide,by decide⟩,_,rfl,_,_,rfl,rfl, .inr ⟨by decide,by decide⟩,_,_,rfl,rfl,(show(0:Int)<2147483629 by decide),_,_,rfl,rfl, ?_⟩;exact⟨⟨_,_,_,rfl,Int.emod_nonneg _ (by decide),Int.add_nonneg (CN f0 (by decide)) (Int.emod_nonneg _ (by decide))⟩,rfl⟩
   .rintro σ H2 ⟨⟨y,f,v3,rfl,y0,f0⟩,rfl⟩;exact⟨_,rfl,kk _ f0⟩
theorem JT:OKQ T.X69 P w base 1 spDig:=by
 refine FbO T.X69 uD fun _ _ _ _ H vs Q E hr h=> ?_;obtain⟨b,m,z,rfl,hb,z0,m0,m1,kk⟩:=h;refine⟨_,(ai (pSA (i:=2) uD.nd (ah jM (ax ee (pv 0) ag (fun _ _=>rfl)) (pv 1)))
  (ai (yj (ah zR (ax ee (pv 0) ag (fun _ _=>rfl)) (pv 1)) (yi (pv 0) ag lQ))
  (aj (ap (pv 2))))), ?_⟩
 refine⟨_,rfl,b,_,_,_,rfl,rfl,SqL.of hb,by rfl,_,rfl,_,_,rfl,rfl,m0, ?_⟩;refine⟨_,rfl,b,_,_,_,rfl,rfl,SqL.of hb,by rfl,_,rfl,_,_,rfl,rfl,IR m0 m1,_,rfl,b,_,_,0,rfl,rfl,hb,by rfl, ?_⟩;exact⟨_,rfl,kk _ _ (Int.emod_nonneg _ (by lia)) (Int.emod_lt_of_pos _ m0) (Int.fdiv_nonneg z0 (by lia))⟩
theorem w8:OKQ T.X46 P w base 2 spIsR:=by
 refine FbO T.X46 uB fun Lb A outer s H vs Q E hr h=> ?_;obtain⟨v,t,rfl,hv,⟨tn,tl,tt⟩,kk⟩:=h;refine⟨_,(ai (aW (gx (fK (bm lW (by rfl) T.n_isinstance boot_isinstance (ab (pv 0) (ab (lH (v:= .ty "list") (by rfl) T.n_list boot_list (by rfl)) af))))) (aj (ap jE)) aX)
  (ai (aA AD rfl (aP (pv 0)) (pGA (i:=1) uB.nd) (aj (aW (fL (gx (fK (pcq (wY T) hr T.X0 (ab (pv 1) af)))) (gw (aQ fN (pv 1) ag (aI _)))).pt (aj (ap jE)) aX)))
  (aj (ap (qA (Gj (pv 0)) (jG (fP fO (ax ee (pv 0) (fq ft ag) (fun _ _=>rfl)) ag (aI _)))))))), ?_⟩
 obtain⟨a,rfl,ha⟩:=iw hv;refine⟨_,rfl,_,"list",_,true,rfl, .lst ha,IS,true,rfl,bM ?_⟩;refine⟨_,rfl,a,rfl,⟨_,SqL.of ha⟩,aY (xs:=t.map V.int) (fun i σ H2=>(∃v1,σ=[some (.ref a),v1])/\H2=H) ⟨⟨none,rfl⟩,rfl⟩ (fun i σ H2 _ h=>by rw[h.2];exact SqL.of ha) ?_ ?_⟩
 .rintro i y σ H2 hi ⟨⟨v1,rfl⟩,rfl⟩;rw[AC] at hi;obtain⟨x,hx,rfl⟩:=AR.mp hi;have x0:0<=x:=by
   have:=tn i;rw[A9,hx] at this;exact this
  refine⟨_,rfl,_,rfl, .inl ⟨_,rfl⟩,true,rfl,bM ⟨_,rfl,_,_,rfl,rfl,_,rfl,bz (fun h=>absurd h (by lia)) (fun _=>⟨⟨_,rfl⟩,rfl⟩)⟩⟩
 .rintro σ H2 ⟨⟨v1,rfl⟩,rfl⟩;refine⟨_,rfl,a,_,rfl,SqL.of ha,_,rfl, ?_⟩;rcases tt with rfl|⟨s,x,rfl,x0⟩
  .exact dy kk
  .have e0:((s++[x]).map V.int).isEmpty=false:=by
    cases s<;>rfl
   rw[e0];refine bM ⟨_,rfl,1,rfl,a,_,-1, .int x,rfl,rfl,SqL.of ha, ?_,_,_,rfl,rfl, ?_⟩
   .unfold atI ixN;rw[A1,AA,A5 (by decide),A7 (by simp;lia)];show((s++[x]).map V.int)[((-1:Int)+((s.length+1:Nat):Int)).toNat]? =_;rw[show((-1:Int)+((s.length+1:Nat):Int)).toNat=s.length by lia,AC,BO (A' _),Nat.sub_self];rfl
   .show Q (.bl (decide (0<x))) H2;rw[At x0];exact kk
theorem w9 {t:Qt Int}{x:Int} (h:t[i]? =some x):((List.range (i+1)).map fun j:Nat=>((j:Int)+1)*t.getD j 0)=((List.range i).map fun j:Nat=>((j:Int)+1)*t.getD j 0)++[((i:Int)+1)*x]:=by
 rw[Ax,A6,AE,List.map_nil,A9,h];rfl
theorem xa (t:Qt Int):((List.range t.length).map fun j:Nat=>((j:Int)+1)*t.getD j 0).sum=wtF t:=by
 have go:∀(t:Qt Int) (i:Int),((List.range t.length).map fun j:Nat=>((j:Int)+i)*t.getD j 0).sum=wtG i t:=fun t=>by
  induction t with
  |nil=>intro i;rfl
  |cons x t ih=>
   intro i;rw[AT,List.range_succ_eq_map,AE,BA,Aw];unfold wtG;rw[<-ih (i+1)];congr 1
   .simp
   .refine BU List.sum (Aq fun j _=> ?_);show(((j+1:Nat):Int)+i)*t.getD j 0=_;rw[show((j+1:Nat):Int)+i=(j:Int)+(i+1) by lia]
 exact go t 1
theorem xb:OKQ T.X47 P w base 1 spRwL:=by
 refine FbO T.X47 uC fun _ _ _ _ H vs Q E hr h=> ?_;obtain⟨v,t,rfl,hv,tl,kk⟩:=h;refine⟨_,(aj (ap (bm (iS rfl) (by rfl) T.n_sum boot_sum (ab (cV (XN:=["row"]) (sc:=am ja) (N:=["place","number"]) (own:=2) (js:=[]) rfl (by ac_nf) rfl rfl (md (by rfl) T.n_enumerate (pv 0)) (fun _ _ _ _=>(mn (K:=K) rfl rfl (aT (bK (i:=0) (show List.Nodup (["place","number"]:Qt Str) by ac_nf) rfl (Or.inl rfl) (.inr rfl)) (aT (bK (i:=1) (show List.Nodup (["place","number"]:Qt Str) by ac_nf) rfl (Or.inl rfl) (.inr rfl)) cj)))) ml (fun _ _ _ _=>dz) (fun _ _ _ _=>(ah aU (ah aG (pv 0) ag) (pv 1)))) af)))), ?_⟩;obtain⟨a,rfl,ha⟩:=iw hv;refine⟨_,rfl,a,rfl,⟨_,SqL.of ha⟩,fun acc na=> ?_⟩;refine Ga (xs:=t.map V.int) (own:=2) (js:=[]) (fun i H2=>ae H H2/\H2 acc=some (.lst (((List.range i).map fun j:Nat=>((j:Int)+1)*t.getD j 0).map V.int))) ⟨ae.new na,al⟩ (fun i H2 _ h=>SqL.of (h.1 _ _ ha)) ?_ ?_ mm dB ?_
 .rintro i y H2 p hi ⟨s2,KR⟩ np;rw[AC] at hi;obtain⟨x,hx,rfl⟩:=AR.mp hi;have il:i<t.length:=(A8.mp hx).1;have s3:ae H2 (upd H2 p (.tup [.int i, .int x])):=ae.new np;refine⟨p,_,rfl,SqT.of al,rfl,_,_,rfl,_,_,rfl,rfl, ?_⟩;refine⟨_,rfl,_,_,rfl,rfl,_,rfl,_,_,rfl,rfl, .inl ⟨by lia,by lia⟩,acc,_,_,rfl,rfl,s3 _ _ KR,ay (by rw[A1,A1,BJ];lia),(s2.trans s3).put na, ?_⟩;rw[al,w9 hx,A6];rfl
 .rintro H2 ⟨s2,KR⟩;rw[A1] at KR;refine⟨acc,_,rfl,SqL.of KR, ?_⟩;rw[xa];exact kk H2 s2
 .rintro σ H R R' k ⟨v1,e1,i1,i2,e2,e3,v2,e4,i3,i4,e5,e6,c,h⟩;exact⟨v1,e1,i1,i2,e2,e3,v2,e4,i3,i4,e5,e6,c,k _ _ h⟩
theorem xc:OKQ T.X47 P w base 1 spRwT:=by
 refine FbO T.X47 uC fun _ _ _ _ H vs Q E hr h=> ?_;obtain⟨v,t,rfl,hv,tl,kk⟩:=h;refine⟨_,(aj (ap (bm (iS rfl) (by rfl) T.n_sum boot_sum (ab (cV (XN:=["row"]) (sc:=am ja) (N:=["place","number"]) (own:=2) (js:=[]) rfl (by ac_nf) rfl rfl (m4 (by rfl) T.n_enumerate (pv 0)) (fun _ _ _ _=>(mn (K:=K) rfl rfl (aT (bK (i:=0) (show List.Nodup (["place","number"]:Qt Str) by ac_nf) rfl (Or.inl rfl) (.inr rfl)) (aT (bK (i:=1) (show List.Nodup (["place","number"]:Qt Str) by ac_nf) rfl (Or.inl rfl) (.inr rfl)) cj)))) ml (fun _ _ _ _=>dz) (fun _ _ _ _=>(ah aU (ah aG (pv 0) ag) (pv 1)))) af)))), ?_⟩;obtain⟨a,rfl,ha⟩:=bO hv;refine⟨_,rfl,a,rfl,⟨_,SqT.of ha⟩,fun acc na=> ?_⟩;refine F' (xs:=t.map V.int) (own:=2) (js:=[]) (fun i H2=>ae H H2/\H2 acc=some (.lst (((List.range i).map fun j:Nat=>((j:Int)+1)*t.getD j 0).map V.int))) ⟨ae.new na,al⟩ (fun i H2 _ h=>SqT.of (h.1 _ _ ha)) ?_ ?_ mm dB ?_
 .rintro i y H2 p hi ⟨s2,KR⟩ np;rw[AC] at hi;obtain⟨x,hx,rfl⟩:=AR.mp hi;have il:i<t.length:=(A8.mp hx).1;have s3:ae H2 (upd H2 p (.tup [.int i, .int x])):=ae.new np;refine⟨p,_,rfl,SqT.of al,rfl,_,_,rfl,_,_,rfl,rfl, ?_⟩;refine⟨_,rfl,_,_,rfl,rfl,_,rfl,_,_,rfl,rfl, .inl ⟨by lia,by lia⟩,acc,_,_,rfl,rfl,s3 _ _ KR,ay (by rw[A1,A1,BJ];lia),(s2.trans s3).put na, ?_⟩;rw[al,w9 hx,A6];rfl
 .rintro H2 ⟨s2,KR⟩;rw[A1] at KR;refine⟨acc,_,rfl,SqL.of KR, ?_⟩;rw[xa];exact kk H2 s2
 .rintro σ H R R' k ⟨v1,e1,i1,i2,e2,e3,v2,e4,i3,i4,e5,e6,c,h⟩;exact⟨v1,e1,i1,i2,e2,e3,v2,e4,i3,i4,e5,e6,c,k _ _ h⟩
theorem JU:OKQ T.X48 P w base 3 spNeR:=by
 refine FbO T.X48 GD fun _ _ _ _ H vs Q E hr h=> ?_;obtain⟨d,v1,v2,a,b,rfl,h1,h2,r1,r2,e,kk⟩:=h;refine⟨_,(ai (aW (fL (gx (fK (pcq (w8 T) hr T.X46 (ab (pv 1) af)))) (gw (gx (fK (pcq (w8 T) hr T.X46 (ab (pv 2) af)))))).pt (aj jH) aX)
  (aj (aW (aQ lL (ah aG (pcq (xb T) hr T.X47 (ab (pv 1) af)) (pcq (xb T) hr T.X47 (ab (pv 2) af))) (pv 0) (aI _)) (aj jH) aX))), ?_⟩
 refine⟨_,rfl,v1,a,rfl,h1,r1,true,rfl,bM ⟨_,rfl,v2,b,rfl,h2,r2,true,rfl,bM ?_⟩⟩;refine⟨_,rfl,v1,a,rfl,h1,r1.2.1,fun H1 s1=>⟨_,rfl,v2,b,rfl,h2.mono s1,r2.2.1,fun H2 s2=> ?_⟩⟩;exact⟨_,_,rfl,rfl,_,rfl,rfl,_,rfl,zJ (fun hz=>absurd e hz) fun _=>kk H2 (s1.trans s2)⟩
theorem JV:OKQ T.X39 P w base 1 spPrd:=by
 refine FbO T.X39 ki fun _ _ _ _ H vs Q E hr h=> ?_;obtain⟨v,ws,rfl,hv,hw,kk⟩:=h;refine⟨_,(ai (pSA (i:=1) ki.nd ag)
  (ai (aA AD rfl (aP (pv 0)) (pGA (i:=2) ki.nd) (aj (fM (i:=1) ki.nd rfl (by trivial) (pv 2) jV)))
  (aj (ap (pv 1))))), ?_⟩
 obtain⟨a,rfl,ha⟩:=iw hv;refine⟨_,rfl,a,rfl,⟨_,SqL.of ha⟩,aY (xs:=ws.map V.int) (fun i σ H2=>(∃v2,σ=[some (.ref a),some (.int (cA (ws.take i))),v2])/\H2=H) ⟨⟨none,rfl⟩,rfl⟩ (fun i σ H2 _ h=>by rw[h.2];exact SqL.of ha) ?_ ?_⟩
 .rintro i y σ H2 hi ⟨⟨v2,rfl⟩,rfl⟩;rw[AC] at hi;obtain⟨x,hx,rfl⟩:=AR.mp hi;obtain⟨x1,x5⟩:=hw x (AH hx);refine⟨_,rfl,_,rfl,_,_,rfl,rfl, .inr ⟨by lia,by lia⟩,⟨some (.int x), ?_⟩,rfl⟩;have e:cA (ws.take (i+1))=cA (ws.take i)*x:=by
   rw[AK,hx];unfold cA;rw[Bi];rfl
  rw[e];rfl
 .rintro σ H2 ⟨⟨v2,rfl⟩,rfl⟩;rw[A1,AF];exact⟨_,rfl,kk⟩
theorem xf:OKQ T.X49 P w base 1 spFil:=by
 refine FbO T.X49 GE fun _ _ _ _ H vs Q E hr h=> ?_;obtain⟨v,t,n,rfl,hv,tn,n5,kk⟩:=h;refine⟨_,(aj (ap (iJ rR (by rfl) T.n_tuple boot_tuple (ab (ah df (pv 0) (ah iU (aM (ab ag af)) (ah aC (pv 1) (bm iK (by rfl) T.n_len DL (ab (pv 0) af))))) af)))), ?_⟩;obtain⟨a,rfl,ha⟩:=iw hv;refine⟨_,rfl,(zB rfl),fun l1 H1 n1 s1 h1=> ?_⟩;refine⟨_,rfl,_,rfl,a,_,rfl, .inl (SqL.of (s1 _ _ ha)),_,_,rfl,rfl, .i 0,_,aB h1 (ak bq ao),rfl, ?_, ?_, ?_,fun l2 H2 n2 s2 h2=> ?_⟩
 .rw [A1];lia
 .rw [A1];lia
 .exact Ad (ay (by rw[A1];lia))
 refine⟨_,_,hv.mono (s1.trans s2),h2,Ad (ay (by rw[A1,Bk,A1];lia)),fun l3 H3 n3 s3 h3=> ?_⟩;refine⟨_,_,rfl,h3,fun l4 H4 n4 s4 h4=>kk _ H4 (((s1.trans s2).trans s3).trans s4) ?_⟩;have e:t.map D.i++List.replicate (((n:Int))-(((t.map V.int).length:Nat):Int)).toNat (D.i 0)=(bZ n t).map D.i:=by
  unfold bZ;rw[A1,A6,Cw,show((n:Int)-(t.length:Int)).toNat=n-t.length by lia]
 rw[e] at h4;exact h4
theorem JW:OKQ T.X50 P w base 1 spRwn:=by
 refine FbO T.X50 g7 fun _ _ _ _ H vs Q E hr h=> ?_;obtain⟨v,t,rfl,hv,tn,ts,tl,kk⟩:=h;refine⟨_,(ai (pSA (i:=1) g7.nd (aM (ab (bf af) af)))
  (ai (aA AD rfl (qF (pv 0)) (pGA (i:=2) g7.nd) (ai (pSA (i:=3) g7.nd (aM af))
  (ai (aA AD rfl (aP (pv 1)) (pGA (i:=4) g7.nd) (aj (aO (bG AU CI CH iL (pv 3) (ab (cV (XN:=["row","found","number","longer","begun"]) (sc:=am km) (N:=["here","begun"]) (own:=1) (js:=[4]) rfl (by ac_nf) rfl rfl (eS (by rfl) T.n_range (ab (ah aG (pv 2) ag) af)) (fun _ _ _ _=>(bK (i:=0) (show List.Nodup (["here","begun"]:Qt Str) by ac_nf) rfl (Or.inl rfl) (.inr rfl))) (cU (by decide)) (fun _ _ _ _=>dz) (fun _ _ _ _=>(ah mO (pv 1) (bf (ab (pv 0) af))))) af)))))
  (aj (pSA (i:=1) g7.nd (pv 3))))))
  (aj (ap (pv 1))))), ?_⟩
 obtain⟨a,rfl,ha⟩:=bO hv;refine⟨AL _,fun e0 H1 ne0 s1 he0=>⟨(zB rfl),fun f0 H2 nf0 s2 hf0=> ?_⟩⟩;have Mk:=s1.trans s2;refine⟨_,rfl,a,rfl,⟨_,SqT.of (Mk _ _ ha)⟩,qH (xs:=t.map V.int) (fun i σ H3=>(∃fo v2 v3 v4,σ=[some (.ref a),some (.ref fo),v2,v3,v4]/\H fo=none/\Is H3 (.l ((rwF (t.take i)).map tI)) (.ref fo))/\ae H H3) ⟨⟨f0,none,none,none,rfl,s1.free nf0,aB hf0 (ak (eX (xs:=[]) (s2 _ _ he0)) ao)⟩,Mk⟩ (fun i σ H3 _ h=>SqT.of (h.2 _ _ ha)) ?_ ?_⟩
 .rintro i y σ H3 hi ⟨⟨fo,v2,v3,v4,rfl,LI,Lk⟩,s3⟩;rw[AC] at hi;obtain⟨x,hx,rfl⟩:=AR.mp hi;have il:i<t.length:=(A8.mp hx).1;have x0:0<=x:=by
   have:=tn i;rw[A9,hx] at this;exact this
  have nx:rwF (t.take (i+1))=rwS (rwF (t.take i)) x:=by
   rw[AK,hx];unfold rwF;rw[Bi];rfl
  have big:(rwS (rwF (t.take i)) x).length<=32:=by rw[<-nx];exact pd tn ts (i+1)
  have hFl:∀b∈rwF (t.take i),b.length<=5:=fun b hb=>by
   have:=(o9 (Hn tn i) hb).len;rw[AS] at this;lia
  rw[nx];generalize rwF (t.take i)=F at Lk big hFl;obtain⟨_,LS,e,K0,hfi⟩:=az Lk;cases e;have flen:LS.length=F.length:=by rw[hfi.length,A1]
  refine⟨AL _,fun lo H4 nlo s4 hlo=> ?_⟩;have nloH:H lo=none:=s3.free nlo;have fl:fo≠lo:=by rintro rfl;rw[K0] at nlo;cases nlo
  have part:∀j,(rwS (F.take j) x).length<=32:=fun j=>by
   rw[vg] at big⊢;refine B9 (Nat.mul_le_mul_right _ ?_) big;rw[AS];lia
  refine⟨_,rfl,fo,rfl,⟨_,SqL.of (s4 _ _ K0)⟩,aY (xs:=LS) (fun j σ H5=>(∃v4,σ=[some (.ref a),some (.ref fo),some (.int x),some (.ref lo),v4])/\ae H H5/\H5 fo=some (.lst LS)/\av H4 H5/\∃Lh,H5 lo=some (.lst Lh)/\Iss H5 ((rwS (F.take j) x).map tI) Lh) ⟨⟨_,rfl⟩,s3.trans s4,s4 _ _ K0,av.of_same (ae.refl _),[],hlo,ao⟩ (fun j σ H5 _ h=>SqL.of h.2.2.1) ?_ ?_⟩
  .rintro j b σ H5 hj ⟨⟨v4,rfl⟩,s5,K7,t5,Lh,OK,hl5⟩;obtain⟨bb,hbb,hb⟩:=aH hfi hj;have hb5:Is H5 (tI bb) b:=fk t5 (hb.mono s4);have nx2:rwS (F.take (j+1)) x=rwS (F.take j) x++(List.range (x+1).toNat).map fun h:Nat=>bb++[(h:Int)]:=by
    unfold rwS;rw[AK,hbb,Au];simp
   have pj:=part (j+1);rw[nx2] at pj⊢;rw[AA,A1,BJ] at pj;have ll:Lh.length=(rwS (F.take j) x).length:=by rw[hl5.length,A1]
   generalize rwS (F.take j) x=R at hl5 pj ll;refine⟨_,rfl, .inl ⟨rfl,_,SqL.of OK⟩,_,rfl,_,_,rfl,rfl,_,rfl,by lia,by lia,fun acc na=> ?_⟩;have naH:H acc=none:=s5.free na;refine jT (lo:=0) (n:=(x+1).toNat) (own:=1) (js:=[4]) (fun m H6=>ae H5 H6/\∃zs,H6 acc=some (.lst zs)/\Iss H6 (((List.range m).map fun h:Nat=>bb++[(h:Int)]).map tI) zs) ⟨ae.new na,[],al,ao⟩ ?_ ?_ cW dB ?_
   .rintro m H6 hm ⟨s6,zs,KR,hz⟩;rw[D7];refine⟨_,rfl,_,rfl,(zB rfl),fun q H7 nq s7 hq=> ?_⟩;have ME:=s6.trans s7;refine⟨bb.map .i,[.i (m:Int)],hb5.mono ME,bd hq (ak bq ao),Ad (ay (by have:=hFl bb (AH hbb);rw[A1];show _+1<=1000;lia)),fun u H8 s8 hu=> ?_⟩;have Pl:=s8 _ _ (s7 _ _ KR);have zl:zs.length=m:=by rw[hz.length,A1,A1,BJ]
    refine⟨acc,zs,_,rfl,rfl,Pl,ay (by lia),(ME.trans s8).put na,_,al, ?_⟩;have tu:av H8 (upd H8 acc (.lst (zs++[u]))):=av.upd Pl;rw[Ax,A6,A6];refine(gu tu ((hz.mono s7).mono s8)).append (ak (fk tu ?_) ao);show Is H8 (.t ((bb++[(m:Int)]).map .i)) u;rw[A6];exact hu
   .rintro H6 ⟨s6,zs,KR,hz⟩;have zl:zs.length=(x+1).toNat:=by rw[hz.length,A1,A1,BJ]
    have M6:=s6 _ _ OK;refine⟨lo,acc,Lh,zs,rfl,rfl,M6,KR,Ad (ay (by lia)),⟨_,rfl⟩,(s5.trans s6).put nloH,by rw[ar fl];exact s6 _ _ K7,(t5.trans (av.of_same s6)).trans (av.upd M6),_,al, ?_⟩;have tu:av H6 (upd H6 lo (.lst (Lh++zs))):=av.upd M6;rw[A6];exact(gu tu (hl5.mono s6)).append (gu tu hz)
   .rintro σ H R R' k ⟨v1,e1,v2,e2,e3,h⟩;refine⟨v1,e1,v2,e2,e3,fun q H7 nq s7 hq=> ?_⟩;obtain⟨xs,ys,a1,a2,a3,a4⟩:=h q H7 nq s7 hq;exact⟨xs,ys,a1,a2,a3,fun u H8 s8 hu=>k _ _ (a4 u H8 s8 hu)⟩
  .rintro σ H5 ⟨⟨v4,rfl⟩,s5,K7,t5,Lh,OK,hl5⟩;rw[flen,AF] at hl5;exact⟨_,rfl,⟨lo,_,_,_,rfl,nloH,aB OK hl5⟩,s5⟩
 .rintro σ H3 ⟨⟨fo,v2,v3,v4,rfl,LI,Lk⟩,s3⟩;rw[A1,AF] at Lk;exact⟨_,rfl,kk fo H3 s3 LI Lk⟩
theorem JX {t:Qt Int}{p:Nat} (h:p<t.length):atI (t.map D.i) (p:Int)=some (.i (t.getD p 0)):=by
 refine fY (j:=p) rfl ?_;rw[AC,A2 h,A9,A2 h];rfl
theorem JY {L:Nat}{D M:Int} (hM:(if D<(L:Int) then D else(L:Int))=M) (hl:L<=5) (hD: -2000<=D):M<=5/\-2000<=M/\(M-(fi:Int)).toNat=min L D.toNat-fi:=by
 subst hM;split<;>lia
theorem JZ {L:Nat}{D:Int} (hi:i<min L D.toNat-fi) (hl:L<=5) (hm:D.toNat+1<=n+1):fi+i<L/\(D-(1+((fi+i:Nat):Int))).toNat+1<=n/\fi+i<=5/\1+((fi+i:Nat):Int)<=D:=by lia
theorem xg:∀n:Nat,FnOk P w K mg base CX0 (n+2) T.f51 T.d51 ["row","weight","first"] (spRby n K)
 |0=>⟨fun vs H Q E h=>(by obtain⟨_,_,_,_,_,_,_,_,h,_⟩:=h;lia),fun A outer s H args us vs Q E _ _ _ _ h=>(by obtain⟨_,_,_,_,_,_,_,_,h,_⟩:=h;lia)⟩
 |n+1=>by
  have ih:=xg n;refine T.X51.F.ok ko (fun vs H Q E h=> ?_) (fun Lb A outer s H vs Q E hr h=> ?_)
  .obtain⟨_,_,_,_,rfl,_⟩:=h;rfl
  .obtain⟨v,t,wt,fi,rfl,hv,tn,tl,hm,n8,b1,b2,b3,b4,f5,kk⟩:=h;refine⟨_,(ai (pSA (i:=3) ko.nd (ah aC (pv 1) (pcq (xc T) hr T.X47 (ab (pv 0) af) (by lia))))
   (ai (aW (aQ cI (pv 3) ag (aI _)) (aj (ap (aM (ab (pv 0) af)))) aX)
   (ai (pSA (i:=4) ko.nd (aM af))
   (ai (aA AD rfl (dJ (by rfl) T.n_range (ab (pv 2) (ab (bm (yI rfl) (by rfl) T.n_min boot_min (ab (bm gK (by rfl) T.n_len DL (ab (pv 0) af)) (ab (pv 3) af))) af))) (pGA (i:=5) ko.nd) (aj (aO (bG AU CI CH iL (pv 4) (ab (fu ih hr (by rfl) T.X51.m T.X51.F.kp T.X51.B .nil fx (ab (pcq (jB T) hr T.X38 (ab (pv 0) (ab (pv 5) (ab ag af))) (by lia)) (ab (pv 1) (ab (pv 5) af)))) af)))))
   (aj (ap (pv 4))))))), ?_⟩
   refine⟨_,rfl,_,rfl,v,t,rfl,hv,tl,fun H1 s1=>⟨_,_,rfl,rfl, ?_⟩⟩;unfold rbF at kk;refine⟨_,rfl,rfl,_,rfl,de (fun e=> ?_) (fun e=> ?_)⟩
   .rw [A7 (show wt-wtF t=0 by lia)] at kk;refine⟨_,rfl,(zB rfl),fun l H2 nl s2 hl=> ?_⟩;exact kk l H2 (s1.trans s2) (s1.free nl) (aB hl (ak (hv.mono (s1.trans s2)) ao))
   .have e:¬wt-wtF t=0:=by lia
    rw[A5 e] at kk;refine⟨AL _,fun fo H2 LI s2 Lk=> ?_⟩;have Mk:=s1.trans s2;have nfoH:H fo=none:=s1.free LI;refine⟨_,rfl,_,rfl,_,_,rfl, .inr (hv.mono Mk),_,rfl,_,_,rfl, ?_⟩;generalize hM:(if wt-wtF t<(((t.map D.i).length:Nat):Int) then wt-wtF t else(((t.map D.i).length:Nat):Int))=M;rw[A1] at hM;have eM:=JY (fi:=fi) hM tl (by lia);refine⟨_,_,rfl,⟨by lia,by lia,by lia,by lia⟩, ?_⟩;rw[eM.2.2];have len5:∀i,i<=5->((List.range i).flatMap fun j=>rbF n (wmF t (fi+j) 1) wt (fi+j)).length<=i*5^n:=by
     intro i;induction i with
     |zero=>intro _;exact AL _
     |succ i ih2=>
      intro hi;rw[Ax,Au,AA,Ci,BV,List.flatMap_nil,B5];have:=ih2 (by lia);have:=pe (n:=n) (wt:=wt) (row:=wmF t (fi+i) 1) (first:=fi+i) (by rw[eE];exact tl);lia
    have p5:5^n<=5^7:=CG (by decide) (by lia);refine cu (lo:=(fi:Int)) (n:=min t.length (wt-wtF t).toNat-fi) (fun i σ H3=>(∃v5,σ=[some v,some (.int wt),some (.int fi),some (.int (wt-wtF t)),some (.ref fo),v5])/\ae H H3/\∃zs,H3 fo=some (.lst zs)/\Iss H3 (((List.range i).flatMap fun j=>rbF n (wmF t (fi+j) 1) wt (fi+j)).map tI) zs) ⟨⟨none,rfl⟩,Mk,[],Lk,ao⟩ ?_ ?_
    .rintro i σ H3 hi ⟨⟨v5,rfl⟩,s3,zs,K0,hz⟩;obtain⟨hp,q1,q2,q3⟩:=JZ hi tl hm;have ew:wtF (wmF t (fi+i) 1)=wtF t+(1+((fi+i:Nat):Int)):=by rw[<-Int.mul_one (1+((fi+i:Nat):Int))];exact kK hp
     have ed:wt-(wtF t+(1+((fi+i:Nat):Int)))=wt-wtF t-(1+((fi+i:Nat):Int)):=by rw[Int.sub_sub]
     rw[show(fi:Int)+(i:Int)=((fi+i:Nat):Int) by lia];refine⟨_,rfl, .inl ⟨rfl,_,SqL.of K0⟩,_,rfl,_,rfl,v,t,fi+i,1,rfl,hv.mono s3,hp,tl,fun u H4 s4 hu=> ?_⟩;refine⟨_,rfl,_,rfl,u,wmF t (fi+i) 1,wt,fi+i,rfl,hu,kL hp tn (by have:=tn (fi+i);lia),by rw[eE];exact tl,by rw[ew,ed];exact q1,by lia,b1,b2,by rw[ew];clear ew ed;lia,by rw[ew];clear ew ed;lia,q2,fun rl H5 s5 Mn MQ=> ?_⟩;obtain⟨_,LC,e,M8,LR⟩:=az MQ;cases e;have Os:=s4.trans s5;have K7:=Os _ _ K0;have l1:=len5 (i+1) (by lia);have nx:((List.range (i+1)).flatMap fun j=>rbF n (wmF t (fi+j) 1) wt (fi+j))=((List.range i).flatMap fun j=>rbF n (wmF t (fi+j) 1) wt (fi+j))++rbF n (wmF t (fi+i) 1) wt (fi+i):=by
      rw[Ax,Au,BV,List.flatMap_nil,B5]
     rw[nx] at l1⊢;rw[AA] at l1;have l5:(i+1)*5^n<=5*5^7:=Nat.mul_le_mul (by lia) p5;have d5:5*5^7=390625:=by decide
     have zl:=hz.length;have rl':=LR.length;rw[A1] at zl rl';generalize ((List.range i).flatMap fun j=>rbF n (wmF t (fi+j) 1) wt (fi+j))=R at hz l1 zl;generalize rbF n (wmF t (fi+i) 1) wt (fi+i)=R2 at LR l1 rl';refine⟨fo,rl,zs,LC,rfl,rfl,K7,M8,Ad (lx (by clear ew ed q1 q3 hp hi eM hm b1 b2 b3 b4;lia)),⟨_,rfl⟩,(s3.trans Os).put nfoH,_,al, ?_⟩;have tu:av H5 (upd H5 fo (.lst (zs++LC))):=av.upd K7;rw[A6];exact(gu tu (hz.mono Os)).append (gu tu LR)
    .rintro σ H3 ⟨⟨v5,rfl⟩,s3,zs,K0,hz⟩;exact⟨_,rfl,kk fo H3 s3 nfoH (aB K0 hz)⟩
theorem J0 {a b:Qt Int} (h:Le a b):∀{i:Nat}{x y:Int},b[i]? =some x->a[i]? =some y->cz (b.take (i+1)) (a.take (i+1))=cz (b.take i) (a.take i)*chF x y.toNat:=by
 induction a generalizing b with
 |nil=>intro i x y _ hy;simp at hy
 |cons z a ih=>
  cases b with
  |nil=>exact h.elim
  |cons u b=>
   intro i x y hx hy;cases i with
   |zero=>
    have e1:u=x:=by simpa using hx
    have e2:z=y:=by simpa using hy
    subst e1 e2;simp[cz]
   |succ i=>
    rw[BH,BH,BH,BH];show chF u z.toNat*cz (b.take (i+1)) (a.take (i+1))=chF u z.toNat*cz (b.take i) (a.take i)*_;rw[ih h.2.2 (by simpa using hx) (by simpa using hy),Int.mul_assoc]
theorem xh {a b:Qt Int} (h:Le a b):∀{i:Nat}{x y:Int},b[i]? =some x->a[i]? =some y->0<=y/\y<=x:=by
 induction a generalizing b with
 |nil=>intro i x y _ hy;simp at hy
 |cons z a ih=>
  cases b with
  |nil=>exact h.elim
  |cons u b=>
   intro i x y hx hy;cases i with
   |zero=>
    have e1:u=x:=by simpa using hx
    have e2:z=y:=by simpa using hy
    subst e1 e2;exact⟨h.1,h.2.1⟩
   |succ i=>exact ih h.2.2 (by simpa using hx) (by simpa using hy)
theorem xk {b:Qt Int}{x:Int} (h:Nn b) (hx:b[i]? =some x):x<=b.sum:=by
 induction b generalizing i with
 |nil=>simp at hx
 |cons y b ih=>
  obtain⟨p,q⟩:=Nn.cons.mp h;have s0:=(dF (i:=1) (by decide) q).1;rw[Aw];cases i with
  |zero=>
   have e1:y=x:=by simpa using hx
   lia
  |succ i=>
   have:=ih q (by simpa using hx);lia
theorem xm:OKQ T.X52 P w base 2 spChs:=by
 refine FbO T.X52 jb fun _ _ _ _ H vs Q E hr h=> ?_;obtain⟨v1,v2,b,a,rfl,Pm,MG,le,bs,kk⟩:=h;refine⟨_,(ai (pSA (i:=2) jb.nd ag)
  (ai (aA AD rfl (Gg (by rfl) T.n_zip (ab (pv 0) (ab (pv 1) af))) (cH rfl (aT (pGA (i:=3) jb.nd) (aT (pGA (i:=4) jb.nd) cj))) (aj (fM (i:=2) jb.nd rfl (by trivial) (pcq (qk T) hr T.X5 (ab (pv 3) (ab (pv 4) af))) jV)))
  (aj (ap (pv 2))))), ?_⟩
 obtain⟨ba,rfl,hb⟩:=bO Pm;obtain⟨aa,rfl,ha⟩:=bO MG;have ll:=le.len;refine⟨_,rfl,_,rfl,ba,aa,rfl,⟨_,SqT.of hb⟩,⟨_,SqT.of ha⟩,Gh (xs:=b.map V.int) (ys:=a.map V.int) (by rw[A1,A1,ll]) (fun i σ H2=>(∃v3 v4,σ=[some (.ref ba),some (.ref aa),some (.int (cz (b.take i) (a.take i))),v3,v4])/\ae H H2) ⟨⟨none,none,rfl⟩,ae.refl _⟩ (fun i σ H2 _ h=>⟨SqT.of (h.2 _ _ hb),SqT.of (h.2 _ _ ha)⟩) ?_ ?_⟩
 .rintro i x y σ H2 p hx hy ⟨⟨v3,v4,rfl⟩,s2⟩ np;rw[AC] at hx hy;obtain⟨x,hx1,rfl⟩:=AR.mp hx;obtain⟨y,hy1,rfl⟩:=AR.mp hy;have hx:=hx1;have hy:=hy1;obtain⟨y0,yx⟩:=xh le hx hy;have x5:=xk (Le.nn le).2 hx;have s3:ae H2 (upd H2 p (.tup [.int x, .int y])):=ae.new np;refine⟨p,_,rfl,SqT.of al,rfl,_,_,rfl,_,_,rfl,rfl, ?_⟩;obtain⟨c0,c1⟩:=vj y0 yx (by lia);have c2:(2:Int)^x.toNat<=2^5:=by
   have:x.toNat=0\/x.toNat=1\/x.toNat=2\/x.toNat=3\/x.toNat=4\/x.toNat=5:=by lia
   rcases this with e|e|e|e|e|e<;>rw[e]<;>decide
  have d5:(2:Int)^5=32:=by decide
  refine⟨_,rfl,_,rfl,_,rfl,x,y.toNat, ?_,by lia,by lia, ?_⟩
  .show [V.int x,V.int y]=[V.int x,V.int ((y.toNat:Nat):Int)];rw[show((y.toNat:Nat):Int)=y by lia]
  refine⟨_,_,rfl,rfl, .inr ⟨by lia,by lia⟩,⟨some (.int x),some (.int y), ?_⟩,s2.trans s3⟩;rw[J0 le hx hy];rfl
 .rintro σ H2 ⟨⟨v3,v4,rfl⟩,s2⟩;rw[A1,AF,<-ll,AF];exact⟨_,rfl,kk H2 s2⟩
theorem xn:∀{a b:Qt Int},Le a b->∀{k:Int}{i:Nat}{x y:Int},a[i]? =some x->b[i]? =some y->wgG k (a.take (i+1)) (b.take (i+1))=wgG k (a.take i) (b.take i)++List.replicate (y-x).toNat (k+i)
 |[],_,_,k,i,x,y,hx,_=>by simp at hx
 |z::a,[],h,_,_,_,_,_,_=>h.elim
 |z::a,u::b,h,k,i,x,y,hx,hy=>by
  cases i with
  |zero=>
   have e1:z=x:=by simpa using hx
   have e2:u=y:=by simpa using hy
   subst e1 e2;simp[wgG]
  |succ i=>
   rw[BH,BH,BH,BH];show _++wgG (k+1) (a.take (i+1)) (b.take (i+1))=_++wgG (k+1) (a.take i) (b.take i)++_;rw[xn h.2.2 (by simpa using hx) (by simpa using hy),BP,show k+1+(i:Int)=k+((i+1:Nat):Int) by lia]
theorem ql:∀{a b:Qt Int} (i:Nat),Le a b->Le (a.take i) (b.take i)
 |[],[],i,_=>by rw[List.take_nil];exact trivial
 |x::a,y::b,0,_=>trivial
 |x::a,y::b,i+1,h=>⟨h.1,h.2.1,ql i h.2.2⟩
theorem J1:OKQ T.X53 P w base 1 spWgn:=by
 refine FbO T.X53 kr fun _ _ _ _ H vs Q E hr h=> ?_;obtain⟨v1,v2,f,fr,rfl,Pm,MG,le,fl5,fs5,kk⟩:=h;refine⟨_,(ai (pSA (i:=2) kr.nd (aM af))
  (ai (aA AD rfl (m4 (by rfl) T.n_enumerate (pv 0)) (cH rfl (aT (pGA (i:=3) kr.nd) (aT (pGA (i:=4) kr.nd) cj))) (aj (aO (bG AU CI CH iL (pv 2) (ab (ah iU (aM (ab (ah aG (pv 3) ag) af)) (ah aC (ax aN (pv 1) (pv 3) (fun _ _=>rfl)) (pv 4))) af)))))
  (aj (ap (pv 2))))), ?_⟩
 obtain⟨fa,rfl,hf⟩:=bO Pm;have ll:=le.len;refine⟨AL _,fun fo H1 LI s1 Lk=> ?_⟩;refine⟨_,rfl,fa,rfl,⟨_,SqT.of (s1 _ _ hf)⟩,uu (xs:=f.map V.int) (fun i σ H2=>(∃v3 v4,σ=[some (.ref fa),some v2,some (.ref fo),v3,v4])/\ae H H2/\H2 fo=some (.lst ((wgG 1 (f.take i) (fr.take i)).map V.int))) ⟨⟨none,none,rfl⟩,s1,Lk⟩ (fun i σ H2 _ h=>SqT.of (h.2.1 _ _ hf)) ?_ ?_⟩
 .rintro i y σ H2 p hi ⟨⟨v3,v4,rfl⟩,s2,Lc⟩ np;rw[AC] at hi;obtain⟨x,hx,rfl⟩:=AR.mp hi;have il:i<f.length:=(A8.mp hx).1;have s3:ae H2 (upd H2 p (.tup [.int i, .int x])):=ae.new np;have hy:fr[i]? =some (fr.getD i 0):=by
   rw[A9,A2 (by lia)];rfl
  obtain⟨x0,xy⟩:=xh le hy hx;have y5:=xk (Le.nn le).2 hy;have lb:(wgG 1 (f.take i) (fr.take i)).length<=1000:=by
   have l1:=qg (k:=1) (ql i le);have l2:=(dF (i:=1) (by decide) (Le.nn (ql i le)).1).1;have l3:(fr.take i).sum<=fr.sum:=by
    have e:(fr.take i).sum+(fr.drop i).sum=fr.sum:=by rw[<-CA,Bw]
    have nd:Nn (fr.drop i):=fun j=>by
     rw[A9,List.getElem?_drop];have:=(Le.nn le).2 (i+j);rwa [A9] at this
    have:=(dF (i:=1) (by decide) nd).1;lia
   lia
  refine⟨p,_,rfl,SqT.of al,rfl,_,_,rfl,_,_,rfl,rfl, ?_⟩;have K0:=s3 _ _ Lc;have Lj:=s2.trans s3;generalize upd H2 p (.tup [.int i, .int x])=H3 at s3 K0 Lj;refine⟨_,rfl, .inl ⟨rfl,_,SqL.of K0⟩,_,rfl,_,_,rfl,rfl,(zB rfl),fun l1 H4 n1 s4 h1=> ?_⟩;refine⟨_,rfl,_,rfl,fr.map .i,(i:Int),_,(MG.mono Lj).mono s4,rfl,JX (by lia),fun u hu=> ?_⟩;rw[aE hu];refine⟨_,rfl,_,_,rfl,rfl, .i ((i:Int)+1),_,aB h1 (ak bq ao),rfl,by lia,by lia,Ad (ay (by lia)),fun l2 H5 n2 s5 h2=> ?_⟩;rw[<-Cw] at h2;obtain⟨_,e,Ly⟩:=iw h2;cases e;have K7:=s5 _ _ (s4 _ _ K0);refine⟨fo,l2,_,_,rfl,rfl,K7,Ly,Ad (lx (by rw[A1,A1,Bk];lia)),⟨_,_,rfl⟩,((Lj.trans s4).trans s5).put LI, ?_⟩;rw[al,xn le hx hy,A6,Int.add_comm 1 (i:Int)]
 .rintro σ H2 ⟨⟨v3,v4,rfl⟩,s2,Lc⟩;rw[A1,AF,ll,AF] at Lc;exact⟨_,rfl,kk fo H2 s2 LI (jy Lc)⟩
theorem J2:OKQ T.X54 P w base 2 (spOne ii):=by
 refine FbO T.X54 jc fun _ _ _ _ H vs Q E hr h=> ?_;obtain⟨v1,v2,q,L,rfl,Pm,MG,aq,d2,kk⟩:=h;refine⟨_,(ai (pSA (i:=4) jc.nd (aM af))
  (ai (aA AD rfl (m4 (by rfl) T.n_enumerate (pv 3)) (cH rfl (aT (pGA (i:=5) jc.nd) (aT (pGA (i:=6) jc.nd) cj))) (aj (aW (aQ fO (pv 6) ag (aI _)) (ai (pSA (i:=7) jc.nd (bf (ab (pv 0) (ab (pv 1) (ab (pcq (jB T) hr T.X38 (ab (pv 2) (ab (pv 5) (ab ag af)))) (ab (pcq (jB T) hr T.X38 (ab (pv 3) (ab (pv 5) (ab (fq ft ag) af)))) af))))))
  (aj (aO (bG AU Ah Ag ck (pv 4) (ab (bf (ab ag (ab (aM (ab (ah aG (pv 5) ag) af)) (ab (pv 7) af)))) af))))) aX)))
  (aj (ap (pv 4))))), ?_⟩
 obtain⟨fa,rfl,hf⟩:=bO MG;have hl:=aq.hl;have fl:=aq.fl;have L5:=aq.L5;refine⟨AL _,fun fo H1 LI s1 Lk=> ?_⟩;refine⟨_,rfl,fa,rfl,⟨_,SqT.of (s1 _ _ hf)⟩,uu (xs:=q.f.map V.int) (fun i σ H2=>(∃v5 v6 v7,σ=[some (.int q.d),some (.int q.k),some v1,some (.ref fa),some (.ref fo),v5,v6,v7])/\ae H H2/\Acc H H2 fo (((List.range i).flatMap (dR q)).map smD)/\((List.range i).flatMap (dR q)).length<=i) ⟨⟨none,none,none,rfl⟩,s1,Acc.start Lk,A' _⟩ (fun i σ H2 _ h=>SqT.of (h.2.1 _ _ hf)) ?_ ?_⟩
 .rintro i y σ H2 p hi ⟨⟨v5,v6,v7,rfl⟩,s2,⟨zs,Lc,hz⟩,pl⟩ np;rw[AC] at hi;obtain⟨x,hx,rfl⟩:=AR.mp hi;have il:i<q.f.length:=(A8.mp hx).1;have ex:q.f.getD i 0=x:=by rw[A9,hx];rfl
  have s3:ae H2 (upd H2 p (.tup [.int i, .int x])):=ae.new np;have nx:(List.range (i+1)).flatMap (dR q)=(List.range i).flatMap (dR q)++dR q i:=by
   rw[Ax,Au,BV,List.flatMap_nil,B5]
  rw[nx];have zl:=hz.length;rw[A1] at zl;generalize (List.range i).flatMap (dR q)=R at hz pl zl;refine⟨p,_,rfl,SqT.of al,rfl,_,_,rfl,_,_,rfl,rfl, ?_⟩;generalize upd H2 p (.tup [.int i, .int x])=H3 at s3;have Lj:=s2.trans s3;refine⟨_,rfl,_,_,rfl,rfl,_,rfl,bz (fun hg=> ?_) (fun hg=> ?_)⟩
  .have hg:x>0:=hg;unfold dR;rw[ex,A7 hg];refine⟨_,rfl,_,rfl,_,rfl,_,rfl,v1,q.h,i,1,rfl,Pm.mono Lj,by lia,by lia,fun u1 H4 s4 LA=> ?_⟩;refine⟨_,rfl,_,rfl,1,rfl, .ref fa,q.f,i,-1,rfl,(MG.mono Lj).mono s4,il,by lia,fun u2 H5 s5 Me=>⟨(zB rfl),fun t6 H6 n6 s6 h6=> ?_⟩⟩;have hq6:Is H6 (qD ⟨q.d,q.k,wmF q.h i 1,wmF q.f i (-1)⟩) (.ref t6):=bd h6 (ak bq (ak bq (ak ((LA.mono s5).mono s6) (ak (Me.mono s6) ao))));have s26:=((s3.trans s4).trans s5).trans s6;refine⟨_,rfl, .inl ⟨rfl,_,SqL.of (s26 _ _ Lc)⟩,_,rfl,_,_,rfl,rfl,(zB rfl),fun l7 H7 n7 s7 h7=>⟨_,rfl,(zB rfl),fun t8 H8 n8 s8 h8=> ?_⟩⟩;have s28:=(s26.trans s7).trans s8;refine⟨fo,zs,_,rfl,rfl,s28 _ _ Lc,ay (by lia),⟨_,_,_,rfl⟩,(s2.trans s28).put LI, ?_,by rw[AA];show _+1<=_;lia⟩;rw[A6];refine Acc.add s2 s28 Lc hz ?_;refine bd (kB s28 h8) (ak bq (ak (wH (s26.free n7) (jy (t:=[(i:Int)+1]) (s8 _ _ h7))) (ak (wI (ir s28) ((hq6.mono s7).mono s8)) ao)))
  .have hg:¬x>0:=hg;unfold dR;rw[ex,A5 hg,B5];exact⟨⟨_,_,_,rfl⟩,Lj,Acc.mono s3 ⟨zs,Lc,hz⟩,by lia⟩
 .rintro σ H2 ⟨⟨v5,v6,v7,rfl⟩,s2,KR,_⟩;rw[A1] at KR;exact⟨_,rfl,kk fo H2 s2 LI (KR.is LI)⟩
theorem xo (h:n<=12600000):n<sizeLine:=by rw[Ay];lia
theorem qm {q:Ask4} (hl:q.f.length<=5):∀(F:Qt (Qt Int)),(F.flatMap (dS q)).length<=F.length*390625
 |[]=>AL _
 |x::F=>by
  rw[BV,AA,AT,Ci];have h1:=qm hl F;have h2:=pe (n:=8) (wt:=q.d-1-wtF x) (row:=q.f) (first:=0) hl;have:(dS q x).length<=390625:=by unfold dS;rw[A1];exact h2
  lia
theorem J':OKQ T.X55 P w base 11 (spOne ik):=by
 refine FbO T.X55 jd fun _ _ _ _ H vs Q E hr h=> ?_;obtain⟨v1,v2,q,L,rfl,Pm,MG,aq,d2,kk⟩:=h;refine⟨_,(ai (pSA (i:=4) jd.nd (aM af))
  (ai (aA AD rfl (aP (pcq (JW T) hr T.X50 (ab (pv 2) af))) (pGA (i:=5) jd.nd) (aj (aA AD rfl (aP (pcq (xg T 8) hr T.X51 (ab (pv 3) (ab (ah aC (ah aC (pv 0) ag) (pcq (xc T) hr T.X47 (ab (pv 5) af))) (ab ag af))))) (pGA (i:=6) jd.nd) (ai (pSA (i:=7) jd.nd (bf (ab (ah aC (pv 0) ag) (ab (ah aG (ah aC (ah aC (ah aG (pv 1) (bm (uv rfl) (by rfl) T.n_sum boot_sum (ab (pv 6) af))) (bm (uv rfl) (by rfl) T.n_sum boot_sum (ab (pv 3) af))) (pv 0)) ag) (ab (pv 5) (ab (pv 6) af))))))
  (aj (aO (bG AU Ah Ag ck (pv 4) (ab (bf (ab (ah aU (pcq (xm T) hr T.X52 (ab (pv 2) (ab (pv 5) af))) (pcq (xm T) hr T.X52 (ab (pv 6) (ab (pv 3) af)))) (ab (pcq (J1 T) hr T.X53 (ab (pv 3) (ab (pv 6) af))) (ab (pv 7) af)))) af))))))))
  (aj (ap (pv 4))))), ?_⟩
 obtain⟨fa,rfl,hf⟩:=bO MG;have hl:=aq.hl;have fl:=aq.fl;have L5:=aq.L5;have sm:=aq.sums;have dL:=aq.dL;have wq:=aq.wt;have wh:=dU (i:=1) (by decide) aq.hn;have wf:=dU (i:=1) (by decide) aq.fn;refine⟨AL _,fun fo H1 LI s1 Lk=> ?_⟩;refine⟨_,rfl,v1,q.h,rfl,Pm.mono s1,aq.hn,by lia,by lia,fun kl H2 s2 nkl hkl=> ?_⟩;have Mk:=s1.trans s2;obtain⟨_,kvs,e,hkl2,hki⟩:=az hkl;cases e;have klen:kvs.length=(rwF q.h).length:=by rw[hki.length,A1]
 have k32:(rwF q.h).length<=32:=by have:=pd aq.hn (by lia) q.h.length;rwa [AF] at this
 have kfo:kl≠fo:=by rintro rfl;rw[Lk] at nkl;cases nkl
 unfold ik at kk;refine⟨kl,rfl,⟨_,SqL.of hkl2⟩,aY (xs:=kvs) (fun i σ H3=>(∃v5 v6 v7,σ=[some (.int q.d),some (.int q.k),some v1,some (.ref fa),some (.ref fo),v5,v6,v7])/\ae H H3/\H3 kl=some (.lst kvs)/\av H2 H3/\Acc H H3 fo ((((rwF q.h).take i).flatMap (dS q)).map smD)) ⟨⟨none,none,none,rfl⟩,Mk,hkl2,av.of_same (ae.refl _),(Acc.start Lk).mono s2⟩ (fun i σ H3 _ h=>SqL.of h.2.2.1) ?_ ?_⟩
 .rintro i y σ H3 hi ⟨⟨v5,v6,v7,rfl⟩,s3,Qd,t3,⟨zs,K0,hz⟩⟩;obtain⟨kp,hkp,hy⟩:=aH hki hi;have il:i<(rwF q.h).length:=(A8.mp hkp).1;have OE:=AH hkp;have lk:=o9 aq.hn OE;have wk0:=dU (i:=1) (by decide) (Le.nn lk).1;have wk1:=lk.wt (i:=1) (by decide);have nx:((rwF q.h).take (i+1)).flatMap (dS q)=((rwF q.h).take i).flatMap (dS q)++dS q kp:=by
   rw[AK,hkp,Au];simp
  have bnd:=qm (q:=q) (by lia) ((rwF q.h).take (i+1));rw[nx] at bnd⊢;rw[AA,AS] at bnd;have zl:=hz.length;rw[A1] at zl;generalize ((rwF q.h).take i).flatMap (dS q)=R at hz bnd zl;have PN:Is H3 (tI kp) y:=fk t3 hy;refine⟨_,rfl,_,rfl,_,_,rfl,rfl,_,rfl,y,kp,rfl,PN,by have:=lk.len;lia,fun H4 s4=>⟨_,_,rfl,rfl, ?_⟩⟩;have M5:=s3.trans s4;unfold dS at bnd⊢;rw[A1] at bnd;have few:∀fr∈rbF 8 q.f (q.d-1-wtF kp) 0,AskOk L ⟨q.d-1,q.k+fr.sum-q.f.sum-q.d+1,kp,fr⟩/\6*(q.d-1)+fr.sum+1<=muF q/\Le kp q.h/\Le q.f fr/\fr.sum<=5:=fun fr hfr=>aq.few d2 OE hfr;refine⟨.ref fa,q.f,q.d-1-wtF kp,0,rfl,MG.mono M5,aq.fn,by lia,by unfold wtF at*;lia,by decide,by unfold wtF at*;lia,by unfold wtF at*;lia,by unfold wtF at*;lia,by unfold wtF at*;lia,by decide,fun rl H5 s5 Mn MQ=> ?_⟩;obtain⟨_,LC,e,M8,LR⟩:=az MQ;cases e;have Ld:LC.length=(rbF 8 q.f (q.d-1-wtF kp) 0).length:=by rw[LR.length,A1]
  have Os:=s4.trans s5;have K7:=Os _ _ K0;have rfo:rl≠fo:=by rintro rfl;rw[s4 _ _ K0] at Mn;cases Mn
  have rkl:kl≠rl:=by rintro rfl;rw[s4 _ _ Qd] at Mn;cases Mn
  generalize rbF 8 q.f (q.d-1-wtF kp) 0=O at LR few Ld bnd;refine⟨rl,rfl,⟨_,SqL.of M8⟩,aY (xs:=LC) (fun j σ H6=>(∃v6 v7,σ=[some (.int q.d),some (.int q.k),some v1,some (.ref fa),some (.ref fo),some y,v6,v7])/\ae H H6/\H6 kl=some (.lst kvs)/\H6 rl=some (.lst LC)/\av H5 H6/\Acc H H6 fo ((R++(O.take j).map (ij q kp)).map smD)) ⟨⟨_,_,rfl⟩,s3.trans Os,Os _ _ Qd,M8,av.of_same (ae.refl _),by simpa using Acc.mono Os ⟨zs,K0,hz⟩⟩ (fun j σ H6 _ h=>SqL.of h.2.2.2.1) ?_ ?_⟩
  .rintro j b σ H6 hj ⟨⟨v6,v7,rfl⟩,s6,Qe,N3,t6,⟨ws,M1,hw⟩⟩;obtain⟨fr,hfr,hb⟩:=aH LR hj;have jl:j<O.length:=(A8.mp hfr).1;obtain⟨f1,f2,f3,f4,f5⟩:=few fr (AH hfr);have hb6:Is H6 (tI fr) b:=fk t6 hb;have hy6:Is H6 (tI kp) y:=fk t6 (PN.mono Os);have wl:=hw.length;rw[A1,AA,A1,AS] at wl;have nx2:(O.take (j+1)).map (ij q kp)=(O.take j).map (ij q kp)++[ij q kp fr]:=by
    rw[AK,hfr,A6];rfl
   rw[nx2,<-BP];obtain⟨ba,rfl,hba⟩:=bO hb6;refine⟨_,rfl,_,_,rfl,rfl,_,rfl,_,rfl,ba,fr,rfl,SqT.of hba,_,_,rfl,rfl,_,rfl,fa,q.f,rfl,SqT.of (s6 _ _ hf),_,_,rfl,rfl,_,rfl,_,_,rfl,rfl,_,_,rfl,rfl,_,rfl,_,rfl,(zB rfl),fun t7 H7 n7 s7 h7=> ?_⟩;have hq7:Is H7 (qD ⟨q.d-1,q.k+fr.sum-q.f.sum-q.d+1,kp,fr⟩) (.ref t7):=bd h7 (ak bq (ak bq (ak (hy6.mono s7) (ak (hb6.mono s7) ao))));have Qf:=s6.trans s7;refine⟨_,rfl, .inl ⟨rfl,_,SqL.of (s7 _ _ M1)⟩,_,rfl,_,rfl,v1,y,q.h,kp,rfl,Pm.mono Qf,hy6.mono s7,f3,by lia,fun H8 s8=> ?_⟩;refine⟨_,rfl,_,rfl, .ref ba, .ref fa,fr,q.f,rfl,(hb6.mono s7).mono s8,(MG.mono Qf).mono s8,f4,f5,fun H9 s9=> ?_⟩;have c1:=kM f3 (by lia);have c2:=kM f4 f5;refine⟨_,_,rfl,rfl, .inl ⟨by lia,by lia⟩,_,rfl,_,rfl, .ref fa, .ref ba,q.f,fr,rfl,((MG.mono Qf).mono s8).mono s9,((hb6.mono s7).mono s8).mono s9,f4,by have:=f4.len;lia,f5,fun l10 H10 OI n10 h10=> ?_⟩;refine⟨_,rfl,(zB rfl),fun t11 H11 n11 Qb h11=> ?_⟩;have s610:=((s7.trans s8).trans s9).trans OI;have Mz:=s610.trans Qb;have n10':H6 l10=none:=((s7.trans s8).trans s9).free n10;refine⟨fo,ws,_,rfl,rfl,Mz _ _ M1,xo (by lia),⟨_,_,rfl⟩,(s6.trans Mz).put LI,by rw[ar kfo];exact Mz _ _ Qe,by rw[ar rfo];exact Mz _ _ N3,(t6.trans (av.of_same Mz)).trans (av.upd (Mz _ _ M1)), ?_⟩;rw[A6];refine Acc.add s6 Mz M1 hw ?_;refine bd (kB Mz h11) (ak bq (ak (wH n10' (h10.mono Qb)) (ak (wI (ir Mz) ((((hq7.mono s8).mono s9).mono OI).mono Qb)) ao)))
  .rintro σ H6 ⟨⟨v6,v7,rfl⟩,s6,Qe,N3,t6,KR⟩;rw[Ld,AF] at KR;exact⟨⟨_,_,_,rfl⟩,s6,Qe,(t3.trans (av.of_same Os)).trans t6,KR⟩
 .rintro σ H3 ⟨⟨v5,v6,v7,rfl⟩,s3,Qd,t3,KR⟩;rw[klen,AF] at KR;exact⟨_,rfl,kk fo H3 s3 LI (KR.is LI)⟩
theorem Ka {L:Nat}(a:AskOk L q):(ii q).length<=5/\(ik q).length<=12500000:=by
 have h5:=a.L5;have fl:=a.fl;have k32:(rwF q.h).length<=32:=by have:=pd a.hn a.sums.2.1 q.h.length;rwa [AF] at this
 refine⟨?_,B9 (qm (by lia) _) (by lia)⟩;unfold ii;refine B9 (jz (m:=1) fun p _=> ?_) (by rw[BJ];lia);unfold dR;split<;>simp
theorem Kb:OKQ T.X56 P w base 12 spSms:=by
 refine FbO T.X56 je fun _ _ _ _ H vs Q E hr h=> ?_;obtain⟨v,q,L,rfl,hv,aq,d2,kk⟩:=h;refine⟨_,(ai (pSA (i:=1) je.nd (ax aN (pv 0) ag (fun _ _=>rfl)))
  (ai (pSA (i:=2) je.nd (ax aN (pv 0) ag (fun _ _=>rfl)))
  (ai (pSA (i:=3) je.nd (ax aN (pv 0) ag (fun _ _=>rfl)))
  (ai (pSA (i:=4) je.nd (ax aN (pv 0) ag (fun _ _=>rfl)))
  (aj (ap (ah jO (pcq (J2 T) hr T.X54 (ab (pv 1) (ab (pv 2) (ab (pv 3) (ab (pv 4) af))))) (pcq (J' T) hr T.X55 (ab (pv 1) (ab (pv 2) (ab (pv 3) (ab (pv 4) af)))))))))))), ?_⟩
 refine⟨_,rfl,_,0,_,hv,rfl,rfl,fun u1 k1=> ?_⟩;rw[aE k1];refine⟨_,rfl,_,1,_,hv,rfl,rfl,fun u2 k2=> ?_⟩;rw[aE k2];refine⟨_,rfl,_,2,_,hv,rfl,rfl,fun u3 k3=> ?_⟩;refine⟨_,rfl,_,3,_,hv,rfl,rfl,fun u4 k4=> ?_⟩;refine⟨_,rfl,_,rfl,_,rfl,_,rfl,u3,u4,q,L,rfl,k3,k4,aq,d2,fun l1 H1 s1 n1 h1=> ?_⟩;refine⟨_,rfl,_,rfl,_,rfl,_,rfl,u3,u4,q,L,rfl,k3.mono s1,k4.mono s1,aq,d2,fun l2 H2 s2 n2 h2=> ?_⟩;obtain⟨_,xs,e,g1,i1⟩:=az h1;cases e;obtain⟨_,zs,e,g2,i2⟩:=az h2;cases e;have Mv:H2 l1=some (.lst xs):=s2 _ _ (bu _ _ g1);have Ly:H2 l2=some (.lst zs):=bu _ _ g2;have sl:=Ka aq;have xl:=i1.length;have zl:=i2.length;rw[A1] at xl zl;refine⟨l1,l2,xs,zs,rfl,rfl,Mv,Ly,Ad (xo (by lia)),fun p np=> ?_⟩;have s3:ae H2 (upd H2 p (.lst (xs++zs))):=ae.new np;have hp:upd H2 p (.lst (xs++zs)) p=some (.lst (xs++zs)):=al;generalize upd H2 p (.lst (xs++zs))=H3 at s3 hp;have npH:H p=none:=(s1.trans s2).free np;refine kk p H3 ((s1.trans s2).trans s3) npH (aB (by rw[bY npH];exact hp) ?_);unfold eJ;rw[A6];exact(i1.mono (e9 (s2.trans s3))).append ((i2.mono (ia s1)).mono (e9 s3))
theorem xp:∀n:Nat,FnOk P w K mg base CX0 (n+13) T.f57 T.d57 ["asked","known"] (spCnt P w n)
 |0=>⟨fun vs H Q E h=>(by obtain⟨_,_,_,_,_,_,_,a,h,_⟩:=h;have:=a.mu;lia),fun A outer s H args us vs Q E _ _ _ _ h=>(by obtain⟨_,_,_,_,_,_,_,a,h,_⟩:=h;have:=a.mu;lia)⟩
 |n+1=>by
  have ih:=xp n;refine T.X57.F.ok g8 (fun vs H Q E h=> ?_) (fun Lb A outer s H vs Q E hr h=> ?_)
  .obtain⟨_,_,_,_,_,rfl,_⟩:=h;rfl
  .obtain⟨v,kn,q,L,R,rfl,hv,aq,hn,hD,hK,kk⟩:=h;refine⟨_,(ai (aW (aQ fN (ax aN (pv 0) ag (fun _ _=>rfl)) ag (aI _)) (aj (ap ag)) aX)
   (ai (aW (aQ cI (ax aN (pv 0) ag (fun _ _=>rfl)) ag (aI _)) (aj (ap (qB (aQ cI (ax aN (pv 0) ag (fun _ _=>rfl)) ag (aI _)) ag ag))) aX)
   (ai (aW (qz (FU (c7 hr) (pv 0) (pv 1)) rfl) (ai (pSA (i:=2) g8.nd ag)
   (ai (aA AD rfl (aP (pcq (Kb T) hr T.X56 (ab (pv 0) af) (by lia))) (cH rfl (aT (pGA (i:=3) g8.nd) (aT (pGA (i:=4) g8.nd) (aT (pGA (i:=5) g8.nd) cj)))) (aj (fM (i:=2) g8.nd rfl (by trivial) (ah aU (ah aU (pv 3) (pcq (JV T) hr T.X39 (ab (pv 4) af) (by lia))) (fu ih hr (by rfl) T.X57.m T.X57.F.kp T.X57.B .nil fx (ab (pv 5) (ab (pv 1) af)))) jJ)))
   (aj (FV (c7 hr) (pv 1) (pv 0) (pv 2) rfl)))) aX)
   (aj (ap (FT (c7 hr) (pv 1) (pv 0) (fun _ _=>rfl))))))), ?_⟩
   refine⟨_,rfl,_,1,_,hv,rfl,rfl,fun u1 k1=> ?_⟩;rw[aE k1];refine⟨_,_,rfl,rfl,_,rfl,bz (fun hz=> ?_) (fun hz=> ?_)⟩
   .have hz:q.k<0:=hz;rw[Hq hz] at kk;exact kk R H (But.of_same (ae.refl _)) hD hK
   have hz:¬q.k<0:=hz;refine⟨_,rfl,_,0,_,hv,rfl,rfl,fun u2 k2=> ?_⟩;rw[aE k2];refine⟨rfl,_,rfl,de (fun h1=> ?_) (fun h1=> ?_)⟩
   .rw [Hr hz h1] at kk;refine⟨_,rfl,_,1,_,hv,rfl,rfl,fun u3 k3=> ?_⟩;rw[aE k3];refine⟨rfl,_,rfl,de (fun h2=> ?_) (fun h2=> ?_)⟩
    .rw [A7 h2] at kk;exact kk R H (But.of_same (ae.refl _)) hD hK
    .rw [A5 h2] at kk;exact kk R H (But.of_same (ae.refl _)) hD hK
   have d2:2<=q.d:=by have:=aq.d1;lia
   have hk:=qf hv;refine⟨_,rfl,_,rfl,kn,tK R,kq q,rfl,hD,hk,_,rfl, ?_⟩;rw[lr];by_cases Np:kq q∈R.map (·.1)
   .rw [A7 Np];exact bM ⟨_,rfl,_,rfl,kn,tK R,kq q, .int (cF q),rfl,hD,hk,by rw[lr,A7 Np,hK.get Np],kk R H (But.of_same (ae.refl _)) hD hK⟩
   .rw [A5 Np];refine dy ?_;refine⟨_,rfl,v,q,L,rfl,hv,aq,d2,fun l0 H2 s2 O8 Nt=> ?_⟩;have hS:∀x∈eJ q,AskOk L x.2.2/\muF x.2.2+1<=muF q/\(0<=x.1/\x.1<=1024)/\(∀w∈x.2.1,1<=w/\w<=5)/\x.2.1.length<=5:=fun x hx=>⟨(aq.less d2 hx).1,(aq.less d2 hx).2,Jl aq d2 hx⟩;have hW:=Hs aq hz h1;generalize eJ q=S at hS hW Nt;obtain⟨_,Lh,e,Qg,hli'⟩:=az Nt;cases e;have Ly:H2 l0=some (.lst Lh):=bu _ _ Qg;have Mj:Iss H2 (S.map smD) Lh:=hli'.mono bu;have LH:Lh.length=S.length:=by rw[Mj.length,A1]
    have MA:=hD.mono s2;have l0kn:l0≠kn:=by
     obtain⟨_,_,xs,_,e⟩:=hD;rintro rfl;rw[e] at O8;cases O8
    refine⟨l0,rfl,⟨_,SqL.of Ly⟩,aY (xs:=Lh) (fun i σ H3=>(∃v3 v4 v5,σ=[some v,some (.ref kn),some (.int (((S.take i).map fun x=>x.1*cA x.2.1*cF x.2.2).sum)),v3,v4,v5])/\But kn H2 H3/\∃R',DM P w H3 kn (tK R')/\KnQ L R') ⟨⟨none,none,none,rfl⟩,But.of_same (ae.refl _),R,MA,hK⟩ (fun i σ H3 _ h=>SqL.of (h.2.1 _ _ Ly l0kn)) ?_ ?_⟩
    .rintro i y σ H3 hi ⟨⟨v3,v4,v5,rfl⟩,Ml,R3,ND,hK3⟩;obtain⟨x,K4,hy⟩:=aH Mj hi;obtain⟨x1,x2,x3,x4,x5⟩:=hS x (AH K4);have hx3:Is H3 (smD x) y:=hy.lts (qh MA Ml);obtain⟨t,Pn,rfl,ht,Mo⟩:=bn hx3;obtain⟨u1,us,rfl,LA,Mo⟩:=aK Mo;obtain⟨u2,us,rfl,Me,Mo⟩:=aK Mo;obtain⟨u3,us,rfl,hu3,Mo⟩:=aK Mo;rw[bi Mo,aE LA] at ht;obtain⟨p0,p1⟩:=wK x4;have p2:(5:Int)^x.2.1.length<=3125:=by
      have:x.2.1.length=0\/x.2.1.length=1\/x.2.1.length=2\/x.2.1.length=3\/x.2.1.length=4\/x.2.1.length=5:=by lia
      rcases this with e|e|e|e|e|e<;>rw[e]<;>decide
     have m0:=CN x3.1 p0;have m1:=D8 x3.2 (Int.le_trans p1 p2) p0 (by decide);refine⟨t,_,rfl,SqT.of ht,rfl,_,_,rfl,_,_,rfl,_,_,rfl,rfl, ?_⟩;refine⟨_,rfl,_,rfl,_,rfl,u2,x.2.1,rfl,Me,x4,_,_,rfl,rfl, .inl ⟨by lia,by lia⟩,_,rfl,_,rfl,u3,kn,x.2.2,L,R3,rfl,hu3,x1,by lia,ND,hK3,fun R4 H4 Nw MS hK4=> ?_⟩;refine⟨_,_,rfl,rfl, .inl ⟨by lia,by lia⟩,_,_,rfl,rfl,⟨some (.int x.1),some u2,some u3, ?_⟩,Ml.trans Nw,R4,MS,hK4⟩;rw[AK,K4,A6,CA];simp
    .rintro σ H3 ⟨⟨v3,v4,v5,rfl⟩,Ml,R3,ND,hK3⟩;rw[LH,AF,<-hW];have but03:But kn H H3:=(But.of_same s2).trans Ml;have hv3:Is H3 (qD q) v:=(hv.mono s2).lts (qh MA Ml);have MD:=hK3.len aq.L5;refine⟨_,rfl,_,rfl,_,rfl,kn,tK R3,kq q,rfl,ND,qf hv3,by rw[IP,Ay];lia,fun H4 MS k4=> ?_⟩;rw[wx hK3.1] at MS;have Nw:But kn H3 H4:=fun c o e n=>by rw[k4 c n];exact e
     have Qh:=hv3.lts (qh ND Nw);obtain⟨g1,g2⟩:=wG (k:=kq q) (v:=cF q) (R:=R3);exact⟨_,rfl,_,rfl,kn,_,kq q, .int (cF q),rfl,MS,qf Qh,by rw[lr,A7 g2,g1],kk _ H4 (but03.trans Nw) MS (hK3.put aq (by lia))⟩
theorem xq {a:Qt Int}(h:Nn a) (hl:a.length<=n):(bZ n a).length=n/\Nn (bZ n a)/\wtF (bZ n a)=wtF a:=by
 have nr:∀(m:Nat) {t:Qt Int},Nn t->Nn (t++List.replicate m 0):=fun m=>by
  induction m with
  |zero=>intro t h;simpa using h
  |succ m ih=>intro t h;rw[List.replicate_succ',<-BP];exact Hl (ih h) (by decide)
 refine⟨?_,nr _ h,Ht⟩;unfold bZ;rw[AA,Bk];lia
theorem Kc {k:Nat}{a b:Qt Int} (hw:Wide d k) (ra:eP a) (rb:eP b) (e:wtF a+wtF b=d) (la:a.length<=d) (lb:b.length<=d):AskOk d ⟨d,k,bZ d a,bZ d b⟩:=by
 obtain⟨a1,a2,a3⟩:=xq ra.1 la;obtain⟨b1,b2,b3⟩:=xq rb.1 lb;unfold Wide at hw;exact⟨a1,b1,a2,b2,by rw[a3,b3];exact e,by show(1:Int)<=(d:Int);lia,DH _,by lia,by show(k:Int)<=6;lia⟩
theorem Kd:OKQ T.X58 P w base 4 spAsk:=by
 refine FbO T.X58 GF fun _ _ _ _ H vs Q E hr h=> ?_;obtain⟨d,k,v1,v2,a,b,rfl,hw,h1,h2,ra,rb,e,la,lb,kk⟩:=h;refine⟨_,(ai (aO (pcq (lD T) hr T.X3 (ab (pv 0) (ab (pv 1) af))))
  (ai (aO (pcq (JU T) hr T.X48 (ab (pv 0) (ab (pv 2) (ab (pv 3) af)))))
  (aj (ap (bf (ab (pv 0) (ab (pv 1) (ab (pcq (xf T) hr T.X49 (ab (pv 2) (ab (pv 0) af))) (ab (pcq (xf T) hr T.X49 (ab (pv 3) (ab (pv 0) af))) af))))))))), ?_⟩
 have d5:d<=5:=by unfold Wide at hw;lia
 refine⟨_,rfl,_,rfl,d,k,rfl,hw, ?_⟩;refine⟨_,rfl,_,rfl,_,rfl,d,v1,v2,a,b,rfl,h1,h2,ra,rb,e,fun H1 s1=> ?_⟩;refine⟨_,rfl,_,rfl,_,rfl,_,rfl,v1,a,d,rfl,h1.mono s1,la,d5,fun u1 H2 s2 LA=> ?_⟩;refine⟨_,rfl,_,rfl,v2,b,d,rfl,(h2.mono s1).mono s2,lb,d5,fun u2 H3 s3 Me=> ?_⟩;refine⟨(zB rfl),fun t H4 nt s4 ht=>kk _ H4 (((s1.trans s2).trans s3).trans s4) ?_⟩;exact bd ht (ak bq (ak bq (ak ((LA.mono s3).mono s4) (ak (Me.mono s4) ao))))
theorem Ke:OKQ T.X59 P w base 54 spByE:=by
 refine FbO T.X59 GG fun _ _ _ _ H vs Q E hr h=> ?_;obtain⟨d,k,v1,v2,a,b,rfl,hw,h1,h2,ra,rb,e,la,lb,kk⟩:=h;refine⟨_,(aj (ap (pcq (xp T 40) hr T.X57 (ab (pcq (Kd T) hr T.X58 (ab (pv 0) (ab (pv 1) (ab (pv 2) (ab (pv 3) af))))) (ab FW af))))), ?_⟩;have aq:=Kc hw ra rb e la lb;refine⟨_,rfl,_,rfl,_,rfl,_,rfl,d,k,v1,v2,a,b,rfl,hw,h1,h2,ra,rb,e,la,lb,fun u H1 s1 hu=> ?_⟩;intro kn H2 nkn hD k2;have s2:ae H1 H2:=fun b o e=>by rw[k2 b (by rintro rfl;rw[nkn] at e;cases e)];exact e
 have nknH:H kn=none:=s1.free nkn;refine⟨u,kn,_,d,[],rfl,hu.mono s2,aq,by have:=aq.mu;lia,hD,⟨by simp,fun x hx=>nomatch hx⟩,fun R' H3 Ml ND hK3=>kk H3 ?_⟩;exact But.same (s1.trans s2) nknH Ml
theorem jC {xs:Qt (Qt Int)}{x:Qt Int} (h:xs[j]? =some x):r∈xs.take (j+1)↔r∈xs.take j\/r=x:=by
 rw[AK,h,BM];simp
theorem Kf:OKQ T.X63 P w base 1 spBy:=by
 refine FbO T.X63 g9 fun Lb A outer s H vs Q E hr h=> ?_;obtain⟨v,q,n,g,F,L,rfl,hv,O4,PR,hq,hgn,kk⟩:=h;refine⟨_,(ai (pSA (i:=2) g9.nd jQ)
  (ai (aA AD rfl (dJ (by rfl) T.n_range (ab ag (ab (ah aG (pv 1) ag) af))) (pGA (i:=3) g9.nd) (aj (fU (bx hr) (pv 2) (pv 3) jQ rfl)))
  (ai (aA AD rfl (aP (pv 0)) (cH rfl (aT (pGA (i:=3) g9.nd) (aT (pGA (i:=4) g9.nd) (aT (pGA (i:=5) g9.nd) cj)))) (aj (aW (aQ gC (pv 3) (pv 1) (aI _)) (aj (fU (bx hr) (db (bx hr) (pv 2) (pv 3) (fun _ _=>rfl)) (pv 4) (pv 5) rfl)) aX)))
  (aj (ap (pv 2)))))), ?_⟩
 obtain⟨la,Lh,rfl,hla,Mj⟩:=az hv;have LH:Lh.length=L.length:=by rw[Mj.length,A1]
 have hn4:=hq.2.2;refine fun f nf=>⟨_,rfl,_,_,rfl,rfl,1,_,rfl,⟨by decide,by decide,by lia,by lia⟩, ?_⟩;rw[show((g:Int)+1-1).toNat=g by lia];refine cu (lo:=1) (n:=g) (fun i σ H2=>(∃v3 v4 v5,σ=[some (.ref la),some (.int g),some (.ref f),v3,v4,v5])/\ae H H2/\∃b:Nat->Qo,H2 f=some (.dK (aS b i))/\(∀d,1<=d->d<=i->H2 (b d)=some (.dK (dI []))/\H (b d)=none/\b d≠f)/\∀d e,1<=d->d<=i->1<=e->e<=i->b d=b e->d=e) ⟨⟨none,none,none,rfl⟩,ae.new nf,fun _=>f,al,fun d h1 h2=>absurd h1 (by lia),fun d e h1 h2=>absurd h1 (by lia)⟩ ?_ ?_
 .rintro i σ H2 hi ⟨⟨v3,v4,v5,rfl⟩,s2,b,hf,hb,inj⟩;rw[show(1:Int)+(i:Int)=((i+1:Nat):Int) by lia];refine fun p np=> ?_;have pf:f≠p:=by rintro rfl;rw[hf] at np;cases np
  have pb:∀d,1<=d->d<=i->b d≠p:=fun d h1 h2 e=>by rw[<-e,(hb d h1 h2).1] at np;cases np
  refine⟨_,rfl,_,rfl,f,_,rfl,cS.k (H:=upd H2 p (.dK [])) (kvs:=aS b i) (k:= .inl ((i+1:Nat):Int)) (by rw[ar pf];exact hf) ?_, ?_⟩
  .rw [kP];exact ay (by lia)
  rw[vG];refine⟨⟨_,_,_,rfl⟩,(s2.trans (ae.new np)).put nf,_,al,fun d h1 h2=> ?_,fun d e h1 h2 h3 h4 h5=> ?_⟩
  .by_cases e:d=i+1
   .rw [A7 e,ar (BG pf),al];exact⟨rfl,s2.free np,BG pf⟩
   .obtain⟨b1,b2,b3⟩:=hb d h1 (by lia);rw[A5 e,ar b3,ar (pb d h1 (by lia))];exact⟨b1,b2,b3⟩
  .by_cases e1:d=i+1
   .by_cases e2:e=i+1
    .lia
    .rw [A7 e1,A5 e2] at h5;exact absurd h5.symm (pb e h3 (by lia))
   .by_cases e2:e=i+1
    .rw [A5 e1,A7 e2] at h5;exact absurd h5 (pb d h1 (by lia))
    .rw [A5 e1,A5 e2] at h5;exact inj d e h1 (by lia) h3 (by lia) h5
 .rintro σ H2 ⟨⟨v3,v4,v5,rfl⟩,s2,b,hf,hb,inj⟩;refine⟨_,rfl,la,rfl,⟨_,SqL.of (s2 _ _ hla)⟩,aY (xs:=Lh) (fun j σ H3=>(∃v3 v4 v5,σ=[some (.ref la),some (.int g),some (.ref f),v3,v4,v5])/\ae H H3/\H3 f=some (.dK (aS b g))/\∃X:Nat->Qt (Nat×Int),∀d,1<=d->d<=g->H3 (b d)=some (.dK (dI (X d)))/\bI (q*d) (X d)/\∀s,vF (X d) s=if bE d s (F d s)∈L.take j then F d s else 0) ⟨⟨_,_,_,rfl⟩,s2,hf,fun _=>[],fun d h1 h2=>⟨(hb d h1 h2).1,bI.nil _,fun s=>by simp[vF]⟩⟩ (fun j σ H3 _ h=>SqL.of (h.2.1 _ _ hla)) ?_ ?_⟩
  .rintro j y σ H3 hj ⟨⟨v3,v4,v5,rfl⟩,s3,MR,X,hX⟩;obtain⟨r,Ln,hy⟩:=aH Mj hj;obtain⟨d,s,rfl,d1,dg,s1,sq⟩:=O4 _ (AH Ln);have dn:d<=n:=by lia
   obtain⟨ya,rfl,O'⟩:=bO hy;obtain⟨x1,x2,x3⟩:=hX d d1 dg;refine⟨ya,_,rfl,SqT.of (s3 _ _ O'),rfl,_,_,rfl,_,_,rfl,_,_,rfl,rfl, ?_⟩;refine⟨_,rfl,_,rfl,_,_,rfl,rfl,_,rfl,bz (fun _=> ?_) (fun c=>absurd c (by lia))⟩;refine⟨_,rfl,_,rfl,_,rfl,f, .ref (b d),rfl,im (.inl MR) d1 dg,_,rfl,b d,_,rfl,cS.k (k:= .inl (s:Int)) x1 ?_, ?_⟩
   .rw [kR];have:=x2.len;have:=hq.le dn;exact ay (by lia)
   rw[vz];refine⟨⟨_,_,_,rfl⟩,s3.put (hb d d1 dg).2.1,by rw[ar (BG (hb d d1 dg).2.2)];exact MR,fun e=>if e=d then eK (X d) s (F d s) else X e,fun e e1 eg=> ?_⟩;by_cases ed:e=d
   .subst ed;dsimp only;rw[A7 rfl];refine⟨al,x2.put s1 sq,fun s'=> ?_⟩;rw[vD];by_cases es:s'=s
    .subst es;rw[A7 rfl,A7 ((jC Ln).mpr (.inr rfl))]
    .rw [A5 es,x3];by_cases hm:bE e s' (F e s')∈L.take j
     .rw [A7 hm,A7 ((jC Ln).mpr (.inl hm))]
     .rw [A5 hm,A5 fun z=>((jC Ln).mp z).elim hm fun z=>es (pA z).2.1]
   .obtain⟨y1,y2,y3⟩:=hX e e1 eg;dsimp only;rw[A5 ed,ar fun z=>ed (inj e d e1 eg d1 dg z)];refine⟨y1,y2,fun s'=> ?_⟩;rw[y3];by_cases hm:bE e s' (F e s')∈L.take j
    .rw [A7 hm,A7 ((jC Ln).mpr (.inl hm))]
    .rw [A5 hm,A5 fun z=>((jC Ln).mp z).elim hm fun z=>ed (pA z).1]
  .rintro σ H3 ⟨⟨v3,v4,v5,rfl⟩,s3,MR,X,hX⟩;refine⟨_,rfl,kk f b X H3 s3 ⟨.inl MR,fun d h1 h2=>⟨.inl (hX d h1 h2).1,(hX d h1 h2).2.1⟩⟩ ?_⟩
   funext d s
   unfold cg;by_cases hd:1<=d/\d<=g
   .rw [A7 hd,(hX d hd.1 hd.2).2.2 s,LH,AF];by_cases e:F d s=0
    .rw [e];split<;>rfl
    .rw [A7 (PR d s e)]
   .rw [A5 hd];refine Classical.byContradiction fun e=> ?_;obtain⟨d',s',er,d1,dg,_⟩:=O4 _ (PR d s (BG e));obtain⟨rfl,_⟩:=pA er;exact hd ⟨d1,dg⟩
theorem xr:OKQ T.X60 P w base 1 spPt:=by
 refine FbO T.X60 GH fun _ _ _ _ H vs Q E hr h=> ?_;obtain⟨d,k,rfl,d1,d5,kk⟩:=h;refine⟨_,(aj (ap (ah aC (ah gz (ah aU (pv 0) (ah aG (pv 0) ag)) ag) (pv 1)))), ?_⟩;rw[<-Ju d5] at kk;exact⟨_,rfl,_,rfl,_,_,rfl,rfl,_,_,rfl,rfl, .inr ⟨by lia,by lia⟩,_,_,rfl,rfl,⟨by decide,by decide⟩,_,rfl,_,_,rfl,rfl,kk⟩
theorem xt:OKQ T.X61 P w base 55 spCR:=by
 refine FbO T.X61 GI fun _ _ _ _ H vs Q E hr h=> ?_;obtain⟨d,k,rfl,hW,kk⟩:=h;refine⟨_,(aj (ap (bf (ab (pv 0) (ab (pcq (xr T) hr T.X60 (ab (pv 0) (ab (pv 1) af))) (ab (pcq (Ke T) hr T.X59 (ab (pv 0) (ab (pv 1) (ab (aM af) (ab (aM (ab (pv 0) af)) af))))) af)))))), ?_⟩;have d1:1<=d:=hW.1;have d5:d<=5:=by unfold Wide at hW;lia
 refine⟨_,rfl,_,rfl,_,rfl,d,k,rfl,d1,by lia,_,rfl,_,rfl,AL _,fun l1 H1 n1 s1 h1=>⟨_,rfl,(zB rfl),fun l2 H2 n2 s2 h2=> ?_⟩⟩;have r1:Is H2 (rwL []) (.ref l1):=jy (s2 _ _ h1);have r2:Is H2 (rwL [(d:Int)]) (.ref l2):=jy h2;have ro:eP [(d:Int)]:=⟨fun i=>by cases i<;>simp,by simp, .inr ⟨[],d,rfl,by lia⟩⟩
 refine⟨d,k,_,_,[],[(d:Int)],rfl,hW,r1,r2,⟨fun i=>by simp,by simp, .inl rfl⟩,ro,by simp[wtF,wtG],by simp,by simpa using d1,fun H3 s3=> ?_⟩;rw[HJ hW];exact⟨(zB rfl),fun t H4 n4 s4 h4=>kk _ H4 (((s1.trans s2).trans s3).trans s4) (eX h4)⟩
theorem Kg:OKQ T.X62 P w base 56 spRU:=by
 refine FbO T.X62 kt fun _ _ _ _ H vs Q E hr h=> ?_;obtain⟨d,rfl,d4,kk⟩:=h;refine⟨_,(ai (pSA (i:=1) kt.nd (aM af))
  (ai (aA AD rfl (dJ (by rfl) T.n_range (ab ag (ab (ah aG (pv 0) ag) af))) (pGA (i:=2) kt.nd) (aj (aA AD rfl (eS (by rfl) T.n_range (ab (ah aG (ah gz (ah aU (pv 2) (ah aC (pv 2) ag)) ag) ag) af)) (pGA (i:=3) kt.nd) (aj (aO (bG AU Ah Ag ck (pv 1) (ab (pcq (xt T) hr T.X61 (ab (pv 2) (ab (pv 3) af))) af)))))))
  (aj (ap (pv 1))))), ?_⟩
 refine⟨AL _,fun f H1 nf s1 hf=> ?_⟩;refine⟨_,rfl,_,_,rfl,rfl,1,_,rfl,⟨by decide,by decide,by lia,by lia⟩, ?_⟩;rw[show((d:Int)+1-1).toNat=d by lia];refine cu (lo:=1) (n:=d) (fun i σ H2=>(∃v2 v3,σ=[some (.int d),some (.ref f),v2,v3])/\ae H H2/\∃vs,H2 f=some (.lst vs)/\Iss H2 ((c8 i).map tI) vs) ⟨⟨none,none,rfl⟩,s1,[],hf,ao⟩ ?_ ?_
 .rintro i σ H2 hi ⟨⟨v2,v3,rfl⟩,s2,OH,M7,Mt⟩;rw[show(1:Int)+(i:Int)=((i+1:Nat):Int) by lia];have hh:=IU (d:=i+1) (by lia) (by lia);have tl:=Jw (d:=i+1) (by lia);have ul:=wT (i:=i) (by lia);have pl:=Jv (d:=i+1) (by lia);refine⟨_,rfl,_,rfl,_,_,rfl,rfl,_,_,rfl,rfl, .inr ⟨by lia,by lia⟩,_,_,rfl,rfl,⟨by decide,by decide⟩,_,_,rfl,rfl,_,rfl,by rw[hh];lia,by rw[hh];lia, ?_⟩;rw[hh,show(((i+1)*(i+1-1)/2:Nat):Int)+1=(((i+1)*i/2+1:Nat):Int) by rw[Nat.add_sub_cancel];lia,Az];rw[Nat.add_sub_cancel] at tl pl;refine cu (lo:=0) (n:=(i+1)*i/2+1) (fun j σ H3=>(∃v3,σ=[some (.int d),some (.ref f),some (.int ((i+1:Nat):Int)),v3])/\ae H H3/\∃vs,H3 f=some (.lst vs)/\Iss H3 ((c8 i++(List.range j).map fun k=>bE (i+1) (ptF (i+1)-k) (cT (i+1) k)).map tI) vs) ⟨⟨_,rfl⟩,s2,OH,M7,by simpa using Mt⟩ ?_ ?_
  .rintro j σ H3 hj ⟨⟨v3,rfl⟩,s3,N0,MR,N6⟩;rw[D7];have vl:=N6.length;rw[A1,AA,A1,BJ] at vl;refine⟨_,rfl, .inl ⟨rfl,_,SqL.of MR⟩,_,rfl,_,rfl,i+1,j,rfl,⟨by lia, .inl ⟨by lia,by lia⟩⟩,fun v H4 s4 hv=> ?_⟩;refine⟨f,N0,_,rfl,rfl,s4 _ _ MR,ay (by lia),⟨_,rfl⟩,(s3.trans s4).put nf,_,al, ?_⟩;have er:(c8 i++(List.range (j+1)).map fun k=>bE (i+1) (ptF (i+1)-k) (cT (i+1) k))=(c8 i++(List.range j).map fun k=>bE (i+1) (ptF (i+1)-k) (cT (i+1) k))++[bE (i+1) (ptF (i+1)-j) (cT (i+1) j)]:=by
    rw[Ax,A6,<-BP];rfl
   rw[er,A6];have t5:=av.upd (s4 _ _ MR) (ys:=N0++[v]);refine(gu ((av.of_same s4).trans t5) N6).append (ak (fk t5 ?_) ao);rw[show bE (i+1) (ptF (i+1)-j) (cT (i+1) j)=[((i+1:Nat):Int),((ptF (i+1):Nat):Int)-(j:Int),cT (i+1) j] by unfold bE;rw[Int.natCast_sub (by lia)]];exact hv
  .rintro σ H3 ⟨⟨v3,rfl⟩,s3,N0,MR,N6⟩;refine⟨⟨_,_,rfl⟩,s3,N0,MR, ?_⟩;unfold c8;rw[gj];exact N6
 .rintro σ H2 ⟨⟨v2,v3,rfl⟩,s2,OH,M7,Mt⟩;exact⟨_,rfl,kk f H2 s2 nf (aB M7 Mt)⟩
theorem qo:OKQ T.X5 P w base 1 spCh:=by
 refine FbO T.X5 fC fun _ _ _ _ H vs Q E hr h=> ?_;obtain⟨n,k,rfl,n0,n1,kk⟩:=h;refine⟨_,(ai (aW (fL (aQ fN (pv 1) ag (aI _)) (gw (aQ fO (pv 1) (pv 0) (aI _)))).pt (aj (ap ag)) aX)
  (ai (pSA (i:=2) fC.nd ag)
  (ai (aA AD rfl (eS (by rfl) T.n_range (ab (pv 1) af)) (pGA (i:=3) fC.nd) (aj (pSA (i:=2) fC.nd (ah gz (ah aU (pv 2) (ah aC (pv 0) (pv 3))) (ah aG (pv 3) ag)))))
  (aj (ap (pv 2)))))), ?_⟩
 refine⟨_,rfl,_,_,rfl,rfl,_,rfl,bz (fun h=>dy ?_) (fun h=> ?_)⟩
 .rw [show cho n k=0 from A7 (.inl h)] at kk;exact kk
 .refine⟨_,rfl,_,rfl,_,_,rfl,rfl,_,rfl,bz (fun h2=> ?_) (fun h2=> ?_)⟩
  .rw [show cho n k=0 from A7 (.inr h2)] at kk;exact kk
  .rw [show cho n k=chG n k.toNat from A5 (by lia)] at kk;refine⟨_,rfl,_,rfl,by lia,by lia,cu (n:=k.toNat) (fun i σ H2=>(∃v3,σ=[some (.int n),some (.int k),some (.int (chG n i)),v3])/\H2=H) ⟨⟨none,rfl⟩,rfl⟩ ?_ ?_⟩
   .rintro i σ H2 hi ⟨⟨v3,rfl⟩,rfl⟩;exact⟨_,rfl,_,rfl,_,rfl,_,_,rfl,rfl,_,_,rfl,rfl, .inr ⟨by lia,by lia⟩,_,rfl,_,_,rfl,rfl,_,_,rfl,rfl,⟨by lia,by lia⟩,⟨_,rfl⟩,rfl⟩
   .rintro σ H2 ⟨⟨v3,rfl⟩,rfl⟩;exact⟨_,rfl,kk⟩
theorem Kh:OKQ T.X64 P w base 2 spAdd:=by
 refine FbO T.X64 jf fun Lb A outer s H vs Q E hr h=> ?_;obtain⟨t,wa,c,ts,ws,cs,m,k,sg,rfl,hsg,ht,ots,hw,ows,hc,ocs,hmk,tw,tc,wc,hb,kk⟩:=h;refine⟨_,(aj (aA AD rfl (mP (pv 1)) (pGA (i:=4) jf.nd) (aj (aA AD rfl (mP (pv 2)) (pGA (i:=5) jf.nd) (ai (pSA (i:=6) jf.nd (ah aG (pv 4) (pv 5)))
  (ai (pSA (i:=7) jf.nd (ah aU (ah aU (db (bx hr) (pv 1) (pv 4) (fun _ _=>rfl)) (db (bx hr) (pv 2) (pv 5) (fun _ _=>rfl))) (pcq (qo T) hr T.X5 (ab (ah aC (pv 6) ag) (ab (ah aC (pv 4) ag) af)))))
  (aj (fU (bx hr) (pv 0) (pv 6) (ah aG (lV (bx hr) (pv 0) (pv 6) ag ⟨rfl,rfl,rfl,rfl⟩) (ah aU (pv 3) (pv 7))) rfl)))))))), ?_⟩
 refine⟨_,rfl,wa,dI ws,rfl,hw,fun o H1 hw1 k1=> ?_⟩;refine mQ (fun j σ H2=>(∃v4 v5 v6 v7,σ=[some (.ref t),some (.ref wa),some (.ref c),some (.int sg),v4,v5,v6,v7])/\H2 wa=some (.frz o (.dK (dI ws)))/\Pz (H c) (H2 c)/\(∃ts',H2 t=some (.dK (dI ts'))/\bI (m+k) ts'/\∀s,vF ts' s=vF ts s+sg*gk (ws.take j) cs s)/\∀b,b≠t->b≠wa->b≠c->H2 b=H b) ⟨⟨none,none,none,none,rfl⟩,hw1,Pz.of_eq (k1 c (BG wc)),⟨ts,by rw[k1 t tw];exact ht,ots,fun s=>by simp[gk]⟩,fun b _ h2 _=>k1 b h2⟩ (fun j σ H2 _ h=>h.2.1) ?_ ?_
 .rintro j ky vv σ H2 hj ⟨⟨v4,v5,v6,v7,rfl⟩,hw2,LO,⟨tsj,P5,ot2,MG⟩,Nk⟩;obtain⟨x,hx,rfl⟩:=vI hj;obtain⟨x1,x2⟩:=ows.2 x (AH hx);have vx:vF ws x.1=x.2:=pC ows.1 (AH hx);refine⟨_,rfl,c,dI cs,rfl,Pz.rd LO hc,fun o2 H3 hc3 k3=> ?_⟩;refine mQ (fun i σ H4=>(∃v5 v6 v7,σ=[some (.ref t),some (.ref wa),some (.ref c),some (.int sg),some (.int (x.1:Int)),v5,v6,v7])/\H4 wa=some (.frz o (.dK (dI ws)))/\H4 c=some (.frz o2 (.dK (dI cs)))/\(∃ts',H4 t=some (.dK (dI ts'))/\bI (m+k) ts'/\∀s,vF ts' s=vF tsj s+sg*prd x (cs.take i) s)/\∀b,b≠t->b≠wa->b≠c->H4 b=H b) ⟨⟨_,_,_,rfl⟩,by rw[k3 wa wc];exact hw2,hc3,⟨tsj,by rw[k3 t tc];exact P5,ot2,fun s=>by simp[prd]⟩,fun b b1 b2 b3=>by rw[k3 b b3];exact Nk b b1 b2 b3⟩ (fun i σ H4 _ h=>h.2.2.1) ?_ ?_
  .rintro i ky2 vv2 σ H4 hi ⟨⟨v5,v6,v7,rfl⟩,hw4,hc4,⟨tsi,NE,ot4,Qh⟩,N'⟩;obtain⟨y,hy,rfl⟩:=vI hi;obtain⟨y1,y2⟩:=ocs.2 y (AH hy);have vy:vF cs y.1=y.2:=pC ocs.1 (AH hy);have es:(x.1:Int)+(y.1:Int)=((x.1+y.1:Nat):Int):=by lia
   obtain⟨c0,c1⟩:=Hz (s:=x.1+y.1) (r:=x.1) (by lia) (by lia) (by lia) (by lia);refine⟨_,rfl,_,rfl,_,_,rfl,rfl, ?_⟩;refine⟨_,rfl,_,rfl,wa, .int (vF ws x.1),rfl,vH (.inr ⟨o,hw4⟩) (wR hx),_,rfl,_,rfl,c, .int (vF cs y.1),rfl,vH (.inr ⟨o2,hc4⟩) (wR hy),_,_,rfl,rfl,hb _ _,_,rfl,_,_,rfl,rfl,_,rfl,_,_,rfl,rfl, ?_⟩;refine⟨(x.1:Int)+(y.1:Int)-1,(x.1:Int)-1,rfl,by lia,by lia,_,_,rfl,rfl, .inr ?_, ?_⟩
   .rw [es];exact⟨Int.lt_of_lt_of_le (by decide) c0,Int.lt_trans c1 (by decide)⟩
   refine⟨_,rfl,t,rfl, .inl ⟨_, .inl NE⟩,_,rfl,aJ (dI tsi) (.inl ((x.1+y.1:Nat):Int)),cJ.k (k:= .inl ((x.1+y.1:Nat):Int)) NE, ?_⟩;rw[wQ];refine⟨_,rfl,_,rfl,_,_,rfl,rfl, .inl (by rcases hsg with e|e<;>rw[e]<;>decide),_,_,rfl,rfl,_,rfl,_,rfl,t,_,rfl,cS.k (k:= .inl ((x.1+y.1:Nat):Int)) NE ?_, ?_⟩
   .rw [kR];have:=ot4.len;exact ay (by lia)
   rw[vz];refine⟨⟨_,_,_,rfl⟩,by rw[ar (BG tw)];exact hw4,by rw[ar (BG tc)];exact hc4,⟨_,al,ot4.put (by lia) (by lia),fun s=> ?_⟩,fun b b1 b2 b3=>by rw[ar b1];exact N' b b1 b2 b3⟩;rw[vD,HB hy];by_cases e:s=x.1+y.1
   .subst e;rw[A7 rfl,A7 rfl,Qh,vx,vy,Int.mul_add,Int.add_assoc];unfold chS;rw[es]
   .rw [A5 e,A5 (BG e),Qh];simp
  .rintro σ H4 ⟨⟨v5,v6,v7,rfl⟩,hw4,hc4,⟨tsi,NE,ot4,Qh⟩,N'⟩;rw[kR,AF] at Qh;refine⟨⟨_,_,_,_,rfl⟩,hw4,Pz.frz hc hc4,⟨tsi,NE,ot4,fun s=> ?_⟩,N'⟩;rw[Qh,MG,HC hx,Int.mul_add,Int.add_assoc]
 .rintro σ H2 ⟨⟨v4,v5,v6,v7,rfl⟩,hw2,LO,⟨ts2,P5,ot2,MG⟩,Nk⟩;refine kk H2 ts2 P5 ot2 (fun s=> ?_) (fun b bt=> ?_) Nk
  .rw [MG,kR,AF,HA ows ocs (by lia) (by lia)]
  .by_cases e1:b=wa
   .rw [e1];exact Pz.frz hw hw2
   .by_cases e2:b=c
    .rw [e2];exact LO
    .exact Pz.of_eq (Nk b bt e1 e2)
theorem Ki:OKQ T.X65 P w base 3 spWBy:=by
 refine FbO T.X65 ku fun Lb A outer s H vs Q E hr h=> ?_;obtain⟨a,q,n,g,b,X,rfl,hT,hq,hgn,hbd,kk⟩:=h;refine⟨_,(ai (pSA (i:=1) ku.nd jQ)
  (ai (aA AD rfl (mP (pv 0)) (pGA (i:=2) ku.nd) (ai (fU (bx hr) (pv 1) (pv 2) (iJ E6 (by rfl) T.n_dict PyProof.Rows.Boot.«dict» (ab (db (bx hr) (pv 0) (pv 2) (fun _ _=>rfl)) af)) rfl)
  (aj (aA AD rfl (dJ (by rfl) T.n_range (ab ag (ab (pv 2) af))) (pGA (i:=3) ku.nd) (aj (aO (pcq (Kh T) hr T.X64 (ab (db (bx hr) (pv 1) (pv 2) (fun _ _=>rfl)) (ab (db (bx hr) (pv 1) (pv 3) (fun _ _=>rfl)) (ab (db (bx hr) (pv 0) (ah aC (pv 2) (pv 3)) (fun _ _=>rfl)) (ab (fq ft ag) af)))))))))))
  (aj (ap (pv 1))))), ?_⟩
 refine fun p np=> ?_;have s1:ae H (upd H p (.dK [])):=ae.new np;have hp1:upd H p (.dK []) p=some (.dK []):=al;generalize upd H p (.dK [])=H1 at s1 hp1⊢;have T1:=hT.fz (Fz.of_same s1);have pa:p≠a:=by rintro rfl;exact ix hT.1 np
 refine⟨_,rfl,a,aS b g,rfl,T1.1,fun o H2 ha2 k2=> ?_⟩;have z2:=(Fz.of_same s1).trans (Fz.walk T1.1 ha2 k2);refine mQ (fun i σ H3=>(∃v2 v3,σ=[some (.ref a),some (.ref p),v2,v3])/\H3 a=some (.frz o (.dK (aS b g)))/\Fz H H3/\∃b' X',H3 p=some (.dK (aS b' i))/\(∀d,1<=d->d<=i->Rd H3 (b' d) (.dK (dI (X' d)))/\bI (q*d) (X' d)/\H (b' d)=none/\b' d≠p)/\Wh i (cg g X) (cg i X')) ⟨⟨none,none,rfl⟩,ha2,z2,fun _=>p,fun _=>[],by rw[k2 p pa];exact hp1,fun d h1 h2=>absurd h1 (by lia),fun d s=>by rw[A5 (by lia)];unfold cg;rw[A5 (by lia)]⟩ (fun i σ H3 _ h=>h.2.1) ?_ ?_
 .rintro i ky vv σ H3 hi ⟨⟨v2,v3,rfl⟩,ha3,z3,b',X',hp3,MX,hW⟩;have hig:i<g:=by
   have:=(A8.mp hi).1
   rwa [kP] at this
  rw[vE hig] at hi;cases hi;have T3:=hT.fz z3;obtain⟨tb,te⟩:=T3.2 (i+1) (by lia) (by lia);refine⟨_,rfl,_,rfl,a, .ref (b (i+1)),rfl,im (.inr ⟨o,ha3⟩) (by lia) (by lia),b (i+1),_,rfl,tb,fun t nt=> ?_⟩;have tp:t≠p:=by rintro rfl;rw[hp3] at nt;cases nt
  have ta:t≠a:=by rintro rfl;rw[ha3] at nt;cases nt
  have ntH:H t=none:=z3.free nt;refine⟨_,rfl,_,rfl,p,_,rfl,cS.k (H:=upd H3 t (.dK (dI (X (i+1))))) (kvs:=aS b' i) (k:= .inl ((i+1:Nat):Int)) (by rw[ar (BG tp)];exact hp3) ?_, ?_⟩
  .rw [kP];have:=hq.2.2;exact ay (by lia)
  rw[vG];have nb:∀d,1<=d->d<=i->b' d≠t:=fun d h1 h2 e=>ix (MX d h1 h2).1 (e▸nt);have nc:∀d,1<=d->d<=g->b d≠t:=fun d h1 h2 e=>ix (T3.2 d h1 h2).1 (e▸nt);have npb:∀d,1<=d->d<=g->b d≠p:=fun d h1 h2 e=>ix (hT.2 d h1 h2).1 (e▸np);have z4:Fz H (upd (upd H3 t (.dK (dI (X (i+1))))) p (.dK (aS (fun d=>if d=i+1 then t else b' d) (i+1)))):=(z3.put ntH).put np;have NE:upd (upd H3 t (.dK (dI (X (i+1))))) p (.dK (aS (fun d=>if d=i+1 then t else b' d) (i+1))) t=some (.dK (dI (X (i+1)))):=by rw[ar tp,al]
  have hp4:upd (upd H3 t (.dK (dI (X (i+1))))) p (.dK (aS (fun d=>if d=i+1 then t else b' d) (i+1))) p=some (.dK (aS (fun d=>if d=i+1 then t else b' d) (i+1))):=al;have ha4:upd (upd H3 t (.dK (dI (X (i+1))))) p (.dK (aS (fun d=>if d=i+1 then t else b' d) (i+1))) a=some (.frz o (.dK (aS b g))):=by rw[ar (BG pa),ar (BG ta)];exact ha3
  have P9:∀d,1<=d->d<=i->Rd (upd (upd H3 t (.dK (dI (X (i+1))))) p (.dK (aS (fun d=>if d=i+1 then t else b' d) (i+1)))) (b' d) (.dK (dI (X' d))):=fun d h1 h2=>Jt (MX d h1 h2).1 (by rw[ar (MX d h1 h2).2.2.2,ar (nb d h1 h2)]);generalize upd (upd H3 t (.dK (dI (X (i+1))))) p (.dK (aS (fun d=>if d=i+1 then t else b' d) (i+1)))=H4 at z4 NE hp4 ha4 P9⊢;refine⟨_,rfl,1,_,rfl,⟨by decide,by decide,by have:=hq.2.2;lia,by have:=hq.2.2;lia⟩, ?_⟩;rw[show(((i+1:Nat):Int)-1).toNat=i by lia];refine cu (lo:=1) (n:=i) (fun m σ H5=>(∃v3,σ=[some (.ref a),some (.ref p),some (.int ((i+1:Nat):Int)),v3])/\H5 a=some (.frz o (.dK (aS b g)))/\Fz H H5/\H5 p=some (.dK (aS (fun d=>if d=i+1 then t else b' d) (i+1)))/\(∀d,1<=d->d<=i->Rd H5 (b' d) (.dK (dI (X' d))))/\∃ts,H5 t=some (.dK (dI ts))/\bI (q*(i+1)) ts/\∀s,vF ts s=cg g X (i+1) s-bQ (fun e=>cv (cg i X' (e+1)) (cg g X (i+1-(e+1))) s) m) ⟨⟨_,rfl⟩,ha4,z4,hp4,P9,_,NE,te,fun s=>by rw[iy (g:=g) (by lia) (by lia)];simp[bQ]⟩ ?_ ?_
  .rintro m σ H5 hm ⟨⟨v3,rfl⟩,ha5,z5,Oa,hb5,ts,ht5,ot5,N5⟩;have T5:=hT.fz z5;have em:(1:Int)+(m:Int)=((m+1:Nat):Int):=by lia
   rw[em];have ed:((i+1:Nat):Int)-((m+1:Nat):Int)=((i+1-(m+1):Nat):Int):=by lia
   obtain⟨tc,oc⟩:=T5.2 (i+1-(m+1)) (by lia) (by lia);have hg1:=im (H:=H5) (a:=p) (d:=i+1) (.inl Oa) (by lia) (by lia);have hg2:=im (H:=H5) (a:=p) (d:=m+1) (.inl Oa) (by lia) (by lia);have hg3:=im (H:=H5) (a:=a) (d:=i+1-(m+1)) (.inr ⟨o,ha5⟩) (by lia) (by lia);rw[A7 rfl] at hg1;rw[A5 (by lia)] at hg2;rw[<-ed] at hg3;have hbm:=hb5 (m+1) (by lia) (by lia);obtain⟨_,obm,nbH,nbp⟩:=MX (m+1) (by lia) (by lia);have eqd:q*(i+1)=q*(m+1)+q*(i+1-(m+1)):=by rw[<-Nat.mul_add];congr 1;lia
   refine⟨_,rfl,_,rfl,p,_,rfl,hg1,_,rfl,_,rfl,p,_,rfl,hg2,_,rfl,_,rfl,_,rfl,_,_,rfl,rfl,a,_,rfl,hg3,1,rfl, ?_⟩;refine⟨t,b' (m+1),b (i+1-(m+1)),ts,X' (m+1),X (i+1-(m+1)),q*(m+1),q*(i+1-(m+1)),-1,rfl, .inr rfl,ht5,by rw[<-eqd];exact ot5,hbm,obm,tc,oc,by rw[<-eqd];exact hq.le (by lia),BG (nb _ (by lia) (by lia)),BG (nc _ (by lia) (by lia)), ?_, ?_, ?_⟩
   .intro e;exact ix (hT.2 (i+1-(m+1)) (by lia) (by lia)).1 (e▸nbH)
   .intro r s;rw[iy (g:=i) (X:=X') (by lia) (by lia),iy (g:=g) (X:=X) (by lia) (by lia)];exact hbd i _ (by lia) hW _ _ _ _
   intro H6 ts6 ht6 ot6 hv6 pz6 Po;have z6:Fz H H6:=fun c=>by
    by_cases e:c=t
    .intro u hu;rw[e,ntH] at hu;cases hu
    .exact Pz.trans (z5 c) (pz6 c e)
   rw[<-eqd] at ot6;refine⟨⟨_,rfl⟩, ?_,z6, ?_,fun d h1 h2=>Pz.rd (pz6 _ (nb d h1 h2)) (hb5 d h1 h2),ts6,ht6,ot6,fun s=> ?_⟩
   .rw [Po a (BG ta) (fun e=>ix hT.1 (e▸nbH)) (BG (Js hT.1 (hT.2 _ (by lia) (by lia)).1 (by lia)))];exact ha5
   .rw [Po p (BG tp) (BG nbp) (BG (npb _ (by lia) (by lia)))];exact Oa
   .rw [hv6,N5,iy (g:=i) (X:=X') (by lia) (by lia),iy (g:=g) (X:=X) (by lia) (by lia)];show _=_-(bQ _ m+cv (cg i X' (m+1)) (cg g X (i+1-(m+1))) s);lia
  .rintro σ H5 ⟨⟨v3,rfl⟩,ha5,z5,Oa,hb5,ts,ht5,ot5,N5⟩;refine⟨⟨_,_,rfl⟩,ha5,z5,_,fun d=>if d=i+1 then ts else X' d,Oa,fun d h1 h2=> ?_,hW.next (fun d s hd=>by rw[wS,A5 hd]) (fun s=>by rw[wS,A7 rfl];exact N5 s)⟩;by_cases e:d=i+1
   .dsimp only;rw[A7 e,A7 e,e];exact⟨.inl ht5,ot5,ntH,tp⟩
   .dsimp only;rw[A5 e,A5 e];exact⟨hb5 d h1 (by lia),(MX d h1 (by lia)).2⟩
 .rintro σ H3 ⟨⟨v2,v3,rfl⟩,ha3,z3,b',X',hp3,MX,hW⟩;rw[kP] at hp3 MX hW;exact⟨_,rfl,kk p b' X' H3 z3 ⟨.inl hp3,fun d h1 h2=>⟨(MX d h1 h2).1,(MX d h1 h2).2.1⟩⟩ hW⟩
theorem Kj:FnOk P w K mg base (CX0) 57 T.f66 T.d66 ["d","k"] spRWQ:=by
 refine FbO T.X66 oG fun Lb A outer s H vs Q E hr h=> ?_;obtain⟨d,k,rfl,hW,kk⟩:=h;refine⟨_,(ai (aO (pcq (lD T) hr T.X3 (ab (pv 0) (ab (pv 1) af))))
  (ai (pSA (i:=2) oG.nd (pcq (xr T) hr T.X60 (ab (pv 0) (ab (pv 1) af))))
  (ai (aW (aQ fN (pv 2) ag (aI _)) (aj (ap ag)) aX)
  (ai (pSA (i:=3) oG.nd (ah df (pcq (Kg T) hr T.X62 (ab (ah aC (pv 0) ag) af)) (aM (ab (pcq (xt T) hr T.X61 (ab (pv 0) (ab (pv 1) af))) af))))
  (aj (ap (lV (bx hr) (db (bx hr) (pcq (Ki T) hr T.X65 (ab (pcq (Kf T) hr T.X63 (ab (pv 3) (ab (pv 0) af))) af)) (pv 0) (fun _ _=>rfl)) (pv 2) ag ⟨rfl,rfl,rfl,rfl⟩))))))), ?_⟩
 refine⟨_,rfl,_,rfl,d,k,rfl,hW, ?_⟩;have d1:1<=d:=hW.1;have d5:d<=5:=by unfold Wide at hW;lia
 refine⟨_,rfl,_,rfl,d,(k:Int),rfl,d1,d5, ?_⟩;refine⟨_,rfl,_,_,rfl,rfl,_,rfl,bz (fun c=> ?_) (fun c=> ?_)⟩
 .rw [show fJ d k=0 from A7 (by lia)] at kk;exact kk H (Fz.refl _)
 .have hk:k+1<=ptF d:=by lia
  rw[show fJ d k=kS d k from A5 (by lia)] at kk;have es:((ptF d:Nat):Int)-(k:Int)=((ptF d-k:Nat):Int):=by lia
  rw[es];have q5:Sz 4 d:=⟨by lia,d1,d5⟩;refine⟨_,rfl,_,_,rfl,rfl,d-1,by show [V.int ((d:Int)-1)]=_;rw[show((d-1:Nat):Int)=(d:Int)-1 by lia],by lia,fun l1 H1 s1 n1 h1=> ?_⟩;refine⟨_,rfl,_,rfl,d,k,rfl,hW,fun v2 H2 s2 MG=>⟨(zB rfl),fun l3 H3 n3 s3 h3=> ?_⟩⟩;rw[es] at MG;have ul:=wT (i:=d-1) (by lia);refine⟨(c8 (d-1)).map tI,[tI (bE d (ptF d-k) (cT d k))],(h1.mono s2).mono s3,aB h3 (ak (MG.mono s3) ao),Ad (ay (by rw[A1];simp only[AT,CB];lia)),fun l4 H4 n4 s4 h4=> ?_⟩;have h4:Is H4 (.l ((jo d k).map tI)) (.ref l4):=by unfold jo;rw[A6];exact h4
  refine⟨_,rfl,_,rfl, .ref l4,4,d,d,Nf d k,jo d k,rfl,h4,fun r Ln=>HK ⟨d1,by lia⟩ hk Ln,fun e s he=>(vK ⟨d1,by lia⟩ hk he).2.2.2.2,q5,A' _,fun a b X H5 s5 hT hX=> ?_⟩;refine⟨a,4,d,d,b,X,rfl,hT,q5,A' _, ?_,fun p b' X' H6 z6 hT6 hW6=> ?_⟩
  .rw [hX];exact fun i Wq _ _ e f s t=> .inr (HN ⟨d1,by lia⟩ hk)
  rw[hX] at hW6;refine⟨_,rfl,p, .ref (b' d),rfl,im hT6.1 d1 (A' _), ?_⟩;refine⟨b' d,rfl, .inl ⟨_,(hT6.2 d d1 (A' _)).1⟩,_,rfl,aJ (dI (X' d)) (.inl ((ptF d-k:Nat):Int)), .inl ⟨dI (X' d), .inl ((ptF d-k:Nat):Int),(hT6.2 d d1 (A' _)).1,rfl,rfl⟩, ?_⟩;rw[wQ,iy (g:=d) (X:=X') d1 (A' _),HR ⟨d1,by lia⟩ hk hW6];exact kk H6 ((Fz.of_same ((((s1.trans s2).trans s3).trans s4).trans s5)).trans z6)
theorem Kk:FnOk P w K mg base (CX0) 4 T.f13 T.d13 ["d"] (spEdQ upE):=by
 refine FbO T.X13 Gs fun _ _ _ _ H vs Q E hr h=> ?_;obtain⟨d,rfl,i1,i2,kk⟩:=h;refine⟨_,(ai (aO (pcq (iB T) hr T.X4 (ab (pv 0) af)))
  (aj (ap (cV (XN:=["d"]) (sc:=am j9) (N:=["x","d"]) (own:=1) (js:=[0]) rfl (by ac_nf) rfl rfl (eS (by rfl) T.n_range (ab (ah aG (pv 0) ag) af)) (fun _ _ _ _=>(bK (i:=0) (show List.Nodup (["x","d"]:Qt Str) by ac_nf) rfl (Or.inl rfl) (.inr rfl))) (cU (by decide)) (fun _ _ _ _=>dz) (fun _ _ _ _=>(bf (ab (pv 0) (ab (ah aC (pv 1) (pv 0)) af)))))))), ?_⟩
 refine⟨_,rfl,(d:Int),rfl,by lia,by lia, ?_⟩;refine⟨_,rfl,_,_,rfl,rfl,_,rfl,by lia,by lia,fun acc na=> ?_⟩;have en:((d:Int)+1).toNat=d+1:=by lia
 rw[en];refine jT (lo:=0) (n:=d+1) (own:=1) (js:=[0]) (fun i H2=>ae H H2/\bV H2 acc (((List.range i).map fun i:Nat=>((i:Int),(d:Int)-(i:Int))).map pt)) ⟨ae.new na,bV.start⟩ ?_ ?_ cW dB ?_
 .rintro i H2 hi ⟨s2,vs,KR,Lq⟩;refine eV ?_;refine⟨_,rfl,_,rfl,_,rfl,_,_,rfl,rfl,(zB rfl),fun t H3 nt s3 Pe=> ?_⟩;refine⟨acc,vs,_,rfl,rfl,s3 _ _ KR,ay (by rw[Lq.length];simp;lia),(s2.trans s3).put na, ?_⟩;rw[Ax,A6,A6,D7] at*
  exact gJ (Lq.mono (cZ s3)) (eW (p:=((i:Int),(d:Int)-i)) (by rw[dC (bw KR nt).symm];exact Pe))
 .rintro H2 ⟨s2,g⟩;exact kk acc H2 s2 na g.is
 .rintro σ H R R' k ⟨v1,e1,v2,e2,v3,e3,i2,j2,e4,e5,e6,h⟩;exact⟨v1,e1,v2,e2,v3,e3,i2,j2,e4,e5,e6,fun p H2 np s2 hp=>k _ _ (h p H2 np s2 hp)⟩
theorem Kl:FnOk P w K mg base (CX0) 4 T.f14 T.d14 ["d"] (spEdQ loE):=by
 refine FbO T.X14 uw fun _ _ _ _ H vs Q E hr h=> ?_;obtain⟨d,rfl,i1,i2,kk⟩:=h;refine⟨_,(ai (aO (pcq (iB T) hr T.X4 (ab (pv 0) af)))
  (ai (l' (i:=1) uw.nd rfl (by trivial) (.inl rfl) (XN:=["d","down"]) (sc:=am iY) (N:=["step","d"]) (own:=1) (js:=[0]) rfl (by ac_nf) rfl rfl (eS (by rfl) T.n_range (ab (ah aG (pv 0) ag) af)) (fun _ _ _ _=>(bK (i:=0) (show List.Nodup (["step","d"]:Qt Str) by ac_nf) rfl (Or.inl rfl) (.inr rfl))) (cU (by decide)) (fun _ _ _ _=>dz) (fun _ _ _ _=>(bf (ab ag (ab (ah aC (pv 1) (pv 0)) af)))))
  (aj (ap (ah df (pv 1) (cV (XN:=["d","down"]) (sc:=am iY) (N:=["x"]) (own:=1) (js:=[]) rfl (by ac_nf) rfl rfl (dJ (by rfl) T.n_range (ab ag (ab (ah aG (pv 0) ag) af))) (fun _ _ _ _=>(bK (i:=0) (show List.Nodup (["x"]:Qt Str) by ac_nf) rfl (Or.inl rfl) (.inr rfl))) (cU (by decide)) (fun _ _ _ _=>dz) (fun _ _ _ _=>(bf (ab (pv 0) (ab ag af)))))))))), ?_⟩
 refine⟨_,rfl,(d:Int),rfl,by lia,by lia, ?_⟩;refine⟨_,rfl,_,_,rfl,rfl,_,rfl,by lia,by lia,fun acc na=> ?_⟩;have en:((d:Int)+1).toNat=d+1:=by lia
 rw[en];refine jT (lo:=0) (n:=d+1) (own:=1) (js:=[0]) (fun i H2=>ae H H2/\bV H2 acc (((List.range i).map fun i:Nat=>((0:Int),(d:Int)-(i:Int))).map pt)) ⟨ae.new na,bV.start⟩ ?_ ?_ cW dB ?_
 .rintro i H2 hi ⟨s2,vs,KR,Lq⟩;refine eV ?_;refine⟨_,rfl,_,rfl,_,_,rfl,rfl,(zB rfl),fun t H3 nt s3 Pe=> ?_⟩;refine⟨acc,vs,_,rfl,rfl,s3 _ _ KR,ay (by rw[Lq.length];simp;lia),(s2.trans s3).put na, ?_⟩;rw[Ax,A6,A6,D7] at*
  exact gJ (Lq.mono (cZ s3)) (eW (p:=((0:Int),(d:Int)-i)) (by rw[dC (bw KR nt).symm];exact Pe))
 .rintro H2 ⟨s2,g2⟩;refine⟨_,rfl,_,rfl,_,_,rfl,rfl,1,_,rfl,⟨by lia,by lia,by lia,by lia⟩,fun acc2 Pa=> ?_⟩;have en2:((d:Int)+1-1).toNat=d:=by lia
  rw[en2];refine jT (lo:=1) (n:=d) (own:=1) (js:=[]) (fun i H3=>ae H2 H3/\bV H3 acc2 (((List.range i).map fun i:Nat=>((1:Int)+(i:Int),(0:Int))).map pt)) ⟨ae.new Pa,bV.start⟩ ?_ ?_ cW dB ?_
  .rintro i H3 hi ⟨s3,vs,KR,Lq⟩;refine eV ?_;refine⟨_,rfl,(zB rfl),fun t H4 nt s4 NE=> ?_⟩;refine⟨acc2,vs,_,rfl,rfl,s4 _ _ KR,ay (by rw[Lq.length];simp;lia),(s3.trans s4).put Pa, ?_⟩;rw[Ax,A6,A6] at*
   exact gJ (Lq.mono (cZ s4)) (eW (p:=((1:Int)+(i:Int),(0:Int))) (by rw[dC (bw KR nt).symm];exact NE))
  .rintro H3 ⟨s3,g3⟩;refine⟨_,_,(g2.mono s3).is,g3.is,Ad (ay (by simp;lia)),fun p H4 np s4 hp4=> ?_⟩;rw[<-A6] at hp4;exact kk p H4 ((s2.trans s3).trans s4) ((s2.trans s3).free np) hp4
  .rintro σ H R R' k ⟨v1,e1,e6,h⟩;exact⟨v1,e1,e6,fun p H2 np s2 hp=>k _ _ (h p H2 np s2 hp)⟩
 .rintro σ H R R' k ⟨v1,e1,v2,e2,i2,j2,e4,e5,e6,h⟩;exact⟨v1,e1,v2,e2,i2,j2,e4,e5,e6,fun p H2 np s2 hp=>k _ _ (h p H2 np s2 hp)⟩
theorem Km:FnOk P w K mg base (CX0) 4 T.f10 T.d10 ["d"] (spEdQ ci):=by
 refine FbO T.X10 j8 fun _ _ _ _ H vs Q E hr h=> ?_;obtain⟨d,rfl,i1,i2,kk⟩:=h;refine⟨_,(ai (aO (pcq (iB T) hr T.X4 (ab (pv 0) af)))
  (ai (pSA (i:=1) j8.nd (aM af))
  (ai (aA AD rfl (eS (by rfl) T.n_range (ab (ah aG (pv 0) ag) af)) (pGA (i:=2) j8.nd) (aj (aA AD rfl (Dj (by rfl) T.n_range (ab (ah aC (pv 0) (pv 2)) (ab (fq ft ag) (ab (fq ft ag) af)))) (pGA (i:=3) j8.nd) (aj (aO (bG AU Ah Ag ck (pv 1) (ab (bf (ab (pv 2) (ab (pv 3) af))) af)))))))
  (aj (ap (pv 1)))))), ?_⟩
 refine⟨_,rfl,(d:Int),rfl,by lia,by lia, ?_⟩;refine⟨(zB rfl),fun l H1 nl s1 Mv=> ?_⟩;have en:((d:Int)+1).toNat=d+1:=by lia
 refine⟨_,rfl,_,_,rfl,rfl,_,rfl,by lia,by lia, ?_⟩;rw[en];refine cu (n:=d+1) (fun i σ H2=>(∃v2 v3,σ=[some (.int d),some (.ref l),v2,v3])/\ae H H2/\bV H2 l ((ff d i).map pt)) ⟨⟨none,none,rfl⟩,s1,[],Mv,ao⟩ ?_ ?_
 .rintro i σ H2 hi ⟨⟨v2,v3,rfl⟩,s2,g2⟩;refine⟨_,rfl,_,rfl,_,_,rfl,rfl,1,rfl,1,rfl,_,_,rfl,⟨by lia,by lia,by decide,by decide⟩, ?_⟩;have en2:((d:Int)-(0+(i:Int))- -1).toNat=d+1-i:=by lia
  rw[en2];refine Dk (n:=d+1-i) (fun j σ H3=>(∃v3,σ=[some (.int d),some (.ref l),some (.int (0+i)),v3])/\ae H H3/\bV H3 l ((ff d i++fe d i j).map pt)) ⟨⟨v3,rfl⟩,s2,by simpa[fe] using g2⟩ ?_ ?_
  .rintro j σ H3 hj ⟨⟨v3,rfl⟩,s3,vs,MD,Lq⟩;refine⟨_,rfl, .inl ⟨rfl,_,SqL.of MD⟩,_,rfl,_,rfl,(zB rfl),fun t H4 nt s4 NE=> ?_⟩;have hln:=HZ d i (by lia) (by lia);refine⟨l,vs,_,rfl,rfl,s4 _ _ MD,ay (by rw[Lq.length,A1,AA,vN];lia),⟨_,rfl⟩,(s3.trans s4).put nl, ?_⟩;rw[HY,<-BP,A6];refine gJ (Lq.mono (cZ s4)) (eW (p:=((i:Int),(d:Int)-(i:Int)-(j:Int))) ?_);rw[dC (bw MD nt).symm,NE,D7]
  .rintro σ H3 ⟨⟨v3,rfl⟩,s3,g3⟩;rw[<-vM] at g3;exact⟨⟨_,_,rfl⟩,s3,g3⟩
 .rintro σ H2 ⟨⟨v2,v3,rfl⟩,s2,g2⟩;exact⟨_,rfl,kk l H2 s2 nl g2.is⟩
theorem xu:OKQ T.X12 P w base 1 spCrn:=by
 refine FbO T.X12 Gr fun _ _ _ _ H vs Q E hr h=> ?_;obtain⟨a,b,c,p,q,r,rfl,ha,hb,hc,i1,i2,i3,kk⟩:=h;refine⟨_,(aj (ap (ah aC (ah aU (ah aC (ax aN (pv 1) ag (fun _ _=>rfl)) (ax aN (pv 0) ag (fun _ _=>rfl))) (ah aC (ax aN (pv 2) ag (fun _ _=>rfl)) (ax aN (pv 1) ag (fun _ _=>rfl)))) (ah aU (ah aC (ax aN (pv 1) ag (fun _ _=>rfl)) (ax aN (pv 0) ag (fun _ _=>rfl))) (ah aC (ax aN (pv 2) ag (fun _ _=>rfl)) (ax aN (pv 1) ag (fun _ _=>rfl))))))), ?_⟩;unfold inB at i1 i2 i3;simp only[AN,Av] at i1 i2 i3;refine⟨_,rfl,_,0,_,hb,rfl,rfl,fun u hu=> ?_⟩;rw[aE hu];refine⟨_,rfl,_,0,_,ha,rfl,rfl,fun u hu=> ?_⟩;rw[aE hu];refine⟨_,_,rfl,rfl,_,rfl,_,1,_,hc,rfl,rfl,fun u hu=> ?_⟩;rw[aE hu];refine⟨_,rfl,_,1,_,hb,rfl,rfl,fun u hu=> ?_⟩;rw[aE hu];refine⟨_,_,rfl,rfl,_,_,rfl,rfl, .inr ⟨by lia,by lia⟩,_,rfl,_,1,_,hb,rfl,rfl,fun u hu=> ?_⟩;rw[aE hu];refine⟨_,rfl,_,1,_,ha,rfl,rfl,fun u hu=> ?_⟩;rw[aE hu];refine⟨_,_,rfl,rfl,_,rfl,_,0,_,hc,rfl,rfl,fun u hu=> ?_⟩;rw[aE hu];refine⟨_,rfl,_,0,_,hb,rfl,rfl,fun u hu=> ?_⟩;rw[aE hu];exact⟨_,_,rfl,rfl,_,_,rfl,rfl, .inr ⟨by lia,by lia⟩,_,_,rfl,rfl,kk⟩
theorem Kn:OKQ T.X11 P w base 1 spIsP:=by
 refine FbO T.X11 Gq fun _ _ _ _ H vs Q E hr h=> ?_;obtain⟨d,v,p,rfl,hv,kk⟩:=h;refine⟨_,(aj (ap (lI (fP iI (ax aN (pv 1) ag (fun _ _=>rfl)) ag (aI _)) (lI (fP iI (ax aN (pv 1) ag (fun _ _=>rfl)) ag (aI _)) (jG (fP gC (ah aG (ax aN (pv 1) ag (fun _ _=>rfl)) (ax aN (pv 1) ag (fun _ _=>rfl))) (pv 0) (aI _))))))), ?_⟩;unfold jq at kk;refine⟨_,rfl,_,0,_,hv,rfl,rfl,fun u hu=> ?_⟩;rw[aE hu];refine⟨_,_,rfl,rfl,_,rfl,bz (fun c1=> ?_) (fun c1=> ?_)⟩
 .rw [At (show p.1>=0 from c1),Bool.true_and] at kk;refine⟨_,rfl,_,1,_,hv,rfl,rfl,fun u hu=> ?_⟩;rw[aE hu];refine⟨_,_,rfl,rfl,_,rfl,bz (fun c2=> ?_) (fun c2=> ?_)⟩
  .rw [At (show p.2>=0 from c2),Bool.true_and] at kk;refine⟨_,rfl,_,0,_,hv,rfl,rfl,fun u hu=> ?_⟩;rw[aE hu];refine⟨_,rfl,_,1,_,hv,rfl,rfl,fun u hu=> ?_⟩;rw[aE hu];exact⟨_,_,rfl,rfl,_,rfl,_,_,rfl,rfl,kk⟩
  .rw [Ae (show¬p.2>=0 from c2),Bool.false_and] at kk;exact kk
 .rw [Ae (show¬p.1>=0 from c1),Bool.false_and] at kk;exact kk
theorem Ko:OKQ T.X15 P w base 2 spTurn:=by
 refine FbO T.X15 ux fun _ _ _ _ H vs Q E hr h=> ?_;obtain⟨v,ps,sd,rfl,hv,hB,hs,kk⟩:=h;refine⟨_,(ai (aA AD rfl (dJ (by rfl) T.n_range (ab ag (ab (ah aC (bm gK (by rfl) T.n_len DL (ab (pv 0) af)) ag) af))) (pGA (i:=2) ux.nd) (aj (aW (aQ fO (ah aU (pcq (xu T) hr T.X12 (ab (ax dD (pv 0) (ah aC (pv 2) ag) (fun _ _=>rfl)) (ab (ax dD (pv 0) (pv 2) (fun _ _=>rfl)) (ab (ax dD (pv 0) (ah aG (pv 2) ag) (fun _ _=>rfl)) af)))) (pv 1)) ag (aI _)) (aj (ap (pv 2))) aX)))
  (aj (ap qw))), ?_⟩
 obtain⟨p1,p2⟩:=vT hB;have hb:∀j,j<ps.length->inB (ps.getD j zP)=true:=fun j hj=>by
  unfold psB at hB;simp only[AN,AY] at hB;exact hB.1 _ (jr hj)
 have sb: -1<=sd/\sd<=1:=by unfold Sd at hs;lia
 refine⟨_,rfl,_,_,rfl, .inl hv,_,_,rfl,rfl,1,_,rfl,⟨by decide,by decide,by rw[A1];lia,by rw[A1];lia⟩, ?_⟩;rw[show((((ps.map pt).length:Nat):Int)-1-1).toNat=ps.length-2 by rw[A1];lia];refine cu (lo:=1) (n:=ps.length-2) (fun i σ H2=>(∃v2,σ=[some v,some (.int sd),v2])/\H2=H/\∀j,j<i->decide (crn (ps.getD j zP) (ps.getD (j+1) zP) (ps.getD (j+2) zP)*sd>0)=false) ⟨⟨none,rfl⟩,rfl,fun j hj=>absurd hj (by lia)⟩ ?_ ?_
 .rintro i σ H2 hi ⟨⟨v2,rfl⟩,rfl,hn⟩;have a0:=fh (ps:=ps) (j:=i) (by lia);have a1:=fh (ps:=ps) (j:=i+1) (by lia);have a2:=fh (ps:=ps) (j:=i+2) (by lia);refine⟨_,rfl,_,rfl,_,_,rfl,rfl,_,_,_,hv,rfl,by rw[show(1+(i:Int))-1=((i:Nat):Int) by lia];exact a0,fun u0 h0=> ?_⟩;refine⟨_,rfl,_,rfl,_,_,_,hv,rfl,by rw[show(1+(i:Int))=((i+1:Nat):Int) by lia];exact a1,fun u1 h1=> ?_⟩;refine⟨_,rfl,_,rfl,_,_,rfl,rfl,_,_,_,hv,rfl,by rw[show(1+(i:Int))+1=((i+2:Nat):Int) by lia];exact a2,fun u2 h2=> ?_⟩;refine⟨u0,u1,u2,_,_,_,rfl,h0,h1,h2,hb _ (by lia),hb _ (by lia),hb _ (by lia),_,rfl,_,_,rfl,rfl, .inr ⟨by lia,by lia⟩,_,_,rfl,rfl,_,rfl,bz (fun c=> ?_) (fun c=> ?_)⟩
  .refine⟨_,rfl, ?_⟩;have e:fg ps sd=some (i+1):=by
    unfold fg;rw[vU hi hn (At c)];rfl
   rw[e] at kk;have:wU (some (i+1))= .int (1+(i:Int)):=by show V.int (((i+1:Nat):Int))=_;congr 1;lia
   rw[this] at kk;exact kk
  .refine⟨⟨_,rfl⟩,rfl,fun j hj=> ?_⟩;by_cases e:j=i
   .rw [e];exact Ae c
   .exact hn j (by lia)
 .rintro σ H2 ⟨⟨v2,rfl⟩,rfl,hn⟩;have e:fg ps sd=none:=by
   unfold fg;rw[Ih hn];rfl
  rw[e] at kk;exact kk
theorem Kp:OKQ T.X16 P w base 3 spSteps:=by
 refine FbO T.X16 gc fun Lb A outer s H vs Q E hr h=> ?_;obtain⟨d,v,ps,sd,rfl,hv,hB,hs,kk⟩:=h;refine⟨_,(ai (pSA (i:=3) gc.nd (pcq (Ko T) hr T.X15 (ab (pv 1) (ab (pv 2) af))))
  (ai (aW (aQ yC (pv 3) qw (aI _)) (aj (ap (aM af))) aX)
  (ai (pSA (i:=4) gc.nd (ax dD (pv 1) (ah aC (pv 3) ag) (fun _ _=>rfl)))
  (ai (pSA (i:=5) gc.nd (ax dD (pv 1) (pv 3) (fun _ _=>rfl)))
  (ai (pSA (i:=6) gc.nd (ax dD (pv 1) (ah aG (pv 3) ag) (fun _ _=>rfl)))
  (ai (pSA (i:=7) gc.nd (aM (ab (bf (ab (bf (ab (pv 4) (ab (pv 5) (ab (pv 6) af)))) (ab (ah df (dZ fw (pv 1) eT (dN (pv 3))) (dZ fw (pv 1) (dN (ah aG (pv 3) ag)) eT)) af))) af)))
  (ai (pSA (i:=8) gc.nd (bf (ab (ah aC (ah aG (ax aN (pv 4) ag (fun _ _=>rfl)) (ax aN (pv 6) ag (fun _ _=>rfl))) (ax aN (pv 5) ag (fun _ _=>rfl))) (ab (ah aC (ah aG (ax aN (pv 4) ag (fun _ _=>rfl)) (ax aN (pv 6) ag (fun _ _=>rfl))) (ax aN (pv 5) ag (fun _ _=>rfl))) af))))
  (ai (aW (fK (pcq (Kn T) hr T.X11 (ab (pv 0) (ab (pv 8) af)))) (aj (aO (bG AU Ah Ag ck (pv 7) (ab (bf (ab (bf (ab (pv 4) (ab (pv 5) (ab (pv 6) (ab (pv 8) af))))) (ab (ah df (ah df (dZ fw (pv 1) eT (dN (pv 3))) (aM (ab (pv 8) af))) (dZ fw (pv 1) (dN (ah aG (pv 3) ag)) eT)) af))) af)))) aX)
  (aj (ap (pv 7))))))))))), ?_⟩
 obtain⟨p1,p2⟩:=vT hB;refine⟨_,rfl,_,rfl,v,ps,sd,rfl,hv,hB,hs, ?_⟩;unfold ip at kk;cases hT:fg ps sd with
 |none=>
  rw[hT] at kk;exact⟨_,rfl,rfl,_,rfl,dy ⟨AL _,fun l H1 n1 s1 h1=>kk l H1 s1 n1 (aB (by rw[bY n1];exact h1) ao)⟩⟩
 |some p=>
  rw[hT] at kk;dsimp only at kk;obtain⟨t1,t2⟩:=Ii hT;refine⟨_,rfl,rfl,_,rfl,bM ?_⟩;show _;have a0:=fh (ps:=ps) (j:=p-1) (by lia);have a1:=fh (ps:=ps) (j:=p) (by lia);have a2:=fh (ps:=ps) (j:=p+1) (by lia);refine⟨_,rfl,_,rfl,_,_,rfl,rfl,_,_,_,hv,rfl,by rw[show((p:Int)-1)=((p-1:Nat):Int) by lia];exact a0,fun ua ha=> ?_⟩;refine⟨_,rfl,_,rfl,_,_,_,hv,rfl,a1,fun ub hb=> ?_⟩;refine⟨_,rfl,_,rfl,_,_,rfl,rfl,_,_,_,hv,rfl,by rw[show((p:Int)+1)=((p+1:Nat):Int) by lia];exact a2,fun uc hc=> ?_⟩;generalize ps.getD (p-1) zP=pa at kk ha;generalize ps.getD p zP=pb at kk hb;generalize ps.getD (p+1) zP=pc at kk hc;obtain⟨da,K6,rfl,L4,Md⟩:=az hv;have Nq:K6.length=ps.length:=by rw[Md.length,A1]
  refine⟨_,rfl,_,rfl,_,rfl,(zB rfl),fun t1' H1 n1 s1 h1=> ?_⟩;refine⟨_,rfl,_,rfl,(p:Int),rfl,da,_,rfl,SqL.of (s1 _ _ L4), ?_⟩;rw[p8];intro l2 n2;have s2:ae H1 (upd H1 l2 (.lst (K6.take p))):=ae.new n2;have h2:(upd H1 l2 (.lst (K6.take p))) l2=some (.lst (K6.take p)):=al;generalize upd H1 l2 (.lst (K6.take p))=H2 at s2 h2⊢;refine⟨_,rfl,_,rfl,_,_,rfl,rfl,(p:Int)+1,rfl,da,_,rfl,SqL.of (s2 _ _ (s1 _ _ L4)), ?_⟩;rw[show((p:Int)+1)=((p+1:Nat):Int) by lia,lw (by lia)];intro l3 n3;have s3:ae H2 (upd H2 l3 (.lst (K6.drop (p+1)))):=ae.new n3;have h3:(upd H2 l3 (.lst (K6.drop (p+1)))) l3=some (.lst (K6.drop (p+1))):=al;generalize upd H2 l3 (.lst (K6.drop (p+1)))=H3 at s3 h3⊢;have Lj:ae H H3:=(s1.trans s2).trans s3;have i2:Is H3 (pts (ps.take p)) (.ref l2):=aB (s3 _ _ h2) (by rw[List.map_take];exact(Md.take p).mono Lj);have i3:Is H3 (pts (ps.drop (p+1))) (.ref l3):=aB h3 (by rw[List.map_drop];exact(Md.drop (p+1)).mono Lj);refine⟨_,_,i2,i3,Ad (ay (by rw[A1,A1,AS,Bs];lia)),fun q4 H4 n4 s4 h4=>⟨(zB rfl),fun t5 H5 n5 s5 h5=>⟨(zB rfl),fun fo H6 n6 s6 h6=> ?_⟩⟩⟩;rw[<-A6] at h4;have NF:ae H H6:=((Lj.trans s4).trans s5).trans s6;have LI:H fo=none:=((Lj.trans s4).trans s5).free n6;have Oq:ae H H5:=(Lj.trans s4).trans s5;have is1:Is (nw H H5) (iz ([pa,pb,pc],ps.take p++ps.drop (p+1))) (.ref t5):=by
   refine bd (by rw[bY ((Lj.trans s4).free n5)];exact h5) (ak ?_ (ak (vQ Oq (Lj.free n4) (Is.mono (s:=s5) h4)) ao));exact cp (ir Oq) (bd (s5 _ _ (s4 _ _ (s3 _ _ (s2 _ _ h1)))) (ak (ha.mono Oq) (ak (hb.mono Oq) (ak (hc.mono Oq) ao))))
  refine⟨_,rfl,_,0,_,ha.mono NF,rfl,rfl,fun u hu=> ?_⟩;rw[aE hu];refine⟨_,rfl,_,0,_,hc.mono NF,rfl,rfl,fun u hu=> ?_⟩;rw[aE hu];refine⟨_,_,rfl,rfl,_,rfl,_,0,_,hb.mono NF,rfl,rfl,fun u hu=> ?_⟩;rw[aE hu];refine⟨_,_,rfl,rfl,_,rfl,_,1,_,ha.mono NF,rfl,rfl,fun u hu=> ?_⟩;rw[aE hu];refine⟨_,rfl,_,1,_,hc.mono NF,rfl,rfl,fun u hu=> ?_⟩;rw[aE hu];refine⟨_,_,rfl,rfl,_,rfl,_,1,_,hb.mono NF,rfl,rfl,fun u hu=> ?_⟩;rw[aE hu];refine⟨_,_,rfl,rfl,(zB rfl),fun t7 H7 n7 s7 h7=> ?_⟩;have hf:Is H7 (pt (dW pa pb pc)) (.ref t7):=eW h7;have Qf:=NF.trans s7;refine⟨_,rfl,_,rfl,d,_,_,rfl,hf,jq d (dW pa pb pc),rfl, ?_⟩;cases hP:jq d (dW pa pb pc) with
  |false=>
   rw[hP] at kk;refine bM ⟨_,rfl,kk fo H7 Qf LI ?_⟩;exact aB (by rw[bY LI];exact s7 _ _ h6) (ak (is1.mono (e9 (s6.trans s7))) ao)
  |true=>
   rw[hP] at kk;refine dy ⟨_,rfl, .inl ⟨rfl,_,SqL.of (s7 _ _ h6)⟩,_,rfl,_,rfl,_,rfl,_,rfl,(zB rfl),fun t8 H8 n8 s8 h8=> ?_⟩;have s08:=Qf.trans s8;refine⟨_,rfl,_,rfl,(p:Int),rfl,da,_,rfl,SqL.of (s08 _ _ L4), ?_⟩;rw[p8];intro l9 n9;have s9:ae H8 (upd H8 l9 (.lst (K6.take p))):=ae.new n9;have h9:(upd H8 l9 (.lst (K6.take p))) l9=some (.lst (K6.take p)):=al;generalize upd H8 l9 (.lst (K6.take p))=H9 at s9 h9⊢;have s09:=s08.trans s9;refine⟨_,rfl,(zB rfl),fun la Ha na sa hla=> ?_⟩;have s0a:=s09.trans sa;refine⟨_,[pt (dW pa pb pc)],aB (sa _ _ h9) (by rw[List.map_take];exact(Md.take p).mono s0a:Iss Ha ((ps.take p).map pt) (K6.take p)),aB hla (ak (((hf.mono s8).mono s9).mono sa) ao),Ad (ay (by rw[A1,AS];show _+1<=1000;lia)),fun lb Hb nb sb hlb=> ?_⟩;have s0b:=s0a.trans sb;refine⟨_,rfl,_,rfl,_,_,rfl,rfl,(p:Int)+1,rfl,da,_,rfl,SqL.of (s0b _ _ L4), ?_⟩;rw[show((p:Int)+1)=((p+1:Nat):Int) by lia,lw (by lia)];intro lc nc;have sc:ae Hb (upd Hb lc (.lst (K6.drop (p+1)))):=ae.new nc;have hlc:(upd Hb lc (.lst (K6.drop (p+1)))) lc=some (.lst (K6.drop (p+1))):=al;generalize upd Hb lc (.lst (K6.drop (p+1)))=Hc at sc hlc⊢;have s0c:=s0b.trans sc;refine⟨_,_,hlb.mono sc,aB hlc (by rw[List.map_drop];exact(Md.drop (p+1)).mono s0c:Iss Hc ((ps.drop (p+1)).map pt) (K6.drop (p+1))),Ad (ay (by rw[AA,A1,A1,AS,Bs];show _+1+_<=1000;lia)),fun ld Hd nd sd' hld=>⟨(zB rfl),fun te He ne se he=> ?_⟩⟩;have s0d:=s0c.trans sd';have s0e:=s0d.trans se;have s8e:ae H8 He:=((((s9.trans sa).trans sb).trans sc).trans sd').trans se;have s7e:=s8.trans s8e;refine⟨fo,_,_,rfl,rfl,s7e _ _ (s7 _ _ h6),ay (by show 1<=1000;decide), ?_⟩;have hld':Is Hd (pts (ps.take p++[dW pa pb pc]++ps.drop (p+1))) (.ref ld):=by
    have:=hld;show Is Hd (.l ((ps.take p++[dW pa pb pc]++ps.drop (p+1)).map pt)) (.ref ld);rw[A6,A6];exact this
   have is2:Is (nw H7 He) (iz ([pa,pb,pc,dW pa pb pc],ps.take p++[dW pa pb pc]++ps.drop (p+1))) (.ref te):=by
    have s7d:ae H7 Hd:=((((s8.trans s9).trans sa).trans sb).trans sc).trans sd';have s7c:ae H7 Hc:=(((s8.trans s9).trans sa).trans sb).trans sc;refine bd (by rw[bY (s7d.free ne)];exact he) (ak ?_ (ak (vQ s7e (s7c.free nd) (hld'.mono se)) ao));exact cp (ir s7e) (bd (s8e _ _ h8) (ak (ha.mono s0e) (ak (hb.mono s0e) (ak (hc.mono s0e) (ak (hf.mono s7e) ao)))))
   have acc:=Acc.add (xs:=[iz ([pa,pb,pc],ps.take p++ps.drop (p+1))]) Qf s7e (s7 _ _ h6) (ak (is1.mono (Ig n6 (s6.trans s7))) ao) is2;exact⟨_,rfl,kk fo _ (s0e.put LI) LI (acc.is LI)⟩
theorem Kq:OKQ T.X17 P w base 2 spPw:=by
 refine FbO T.X17 Gu fun _ _ _ _ H vs Q E hr h=> ?_;obtain⟨v,c,rfl,hv,hB,hl,kk⟩:=h;refine⟨_,(ai (aW (aQ cI (bm gK (by rfl) T.n_len DL (ab (pv 0) af)) ag (aI _)) (aj (ap (bm yH (by rfl) T.n_abs boot_abs (ab (pcq (xu T) hr T.X12 (ab (ax aN (pv 0) ag (fun _ _=>rfl)) (ab (ax aN (pv 0) ag (fun _ _=>rfl)) (ab (ax aN (pv 0) ag (fun _ _=>rfl)) af)))) af)))) aX)
  (aj (ap ag))), ?_⟩
 unfold pwF at kk;refine⟨_,rfl,_,_,rfl, .inr hv,rfl,_,rfl,de (fun e=> ?_) (fun e=> ?_)⟩
 .rw [A1] at e;have e3:c.length=3:=by lia
  rw[A7 e3] at kk;have a0:=fh (ps:=c) (j:=0) (by lia);have a1:=fh (ps:=c) (j:=1) (by lia);have a2:=fh (ps:=c) (j:=2) (by lia);refine⟨_,rfl,_,0,_,hv,rfl,a0,fun u0 h0=>⟨_,rfl,_,1,_,hv,rfl,a1,fun u1 h1=>⟨_,rfl,_,2,_,hv,rfl,a2,fun u2 h2=> ?_⟩⟩⟩;exact⟨u0,u1,u2,_,_,_,rfl,h0,h1,h2,hB _ (jr (by lia)),hB _ (jr (by lia)),hB _ (jr (by lia)),_,rfl,kk⟩
 .rw [A1] at e;rw[A5 (by lia)] at kk;exact kk
theorem qp:∀n:Nat,FnOk P w K mg base CX0 (n+3) T.f20 T.d20 ["d","way","side","edge"] (spMan n K)
 |0=>⟨fun vs H Q E h=>(by obtain⟨_,_,_,_,_,_,_,_,_,h,_⟩:=h;cases h),fun A outer s H args us vs Q E _ _ _ _ h=>(by obtain⟨_,_,_,_,_,_,_,_,_,h,_⟩:=h;cases h)⟩
 |n+1=>by
  have ih:=qp n;refine T.X20.F.ok iZ (fun vs H Q E h=> ?_) (fun Lb A outer s H vs Q E hr h=> ?_)
  .obtain⟨_,_,_,_,_,_,rfl,_⟩:=h;rfl
  .obtain⟨d,v,ev,ps,es,sd,rfl,hv,hev,hO,hs,kk⟩:=h;refine⟨_,(ai (aW (aQ (ma hr) (pv 1) (pv 3) (aI _)) (aj (ap (aM (ab (aM af) af)))) aX)
   (ai (pSA (i:=4) iZ.nd (aM af))
   (ai (aA AD rfl (aP (pcq (Kp T) hr T.X16 (ab (pv 0) (ab (pv 1) (ab (pv 2) af))) (by lia))) (cH rfl (aT (pGA (i:=5) iZ.nd) (aT (pGA (i:=6) iZ.nd) cj))) (aj (aA AD rfl (aP (fu ih hr (by rfl) T.X20.m T.X20.F.kp T.X20.B .nil fx (ab (pv 0) (ab (pv 6) (ab (pv 2) (ab (pv 3) af)))))) (pGA (i:=7) iZ.nd) (aj (aO (bG AU Ah Ag ck (pv 4) (ab (ah df (aM (ab (pv 5) af)) (pv 7)) af)))))))
   (aj (ap (pv 4)))))), ?_⟩
   unfold okM at hO;simp only[AN,Av,C2,AY] at hO;obtain⟨⟨⟨hB,K8⟩,KS⟩,KW⟩:=hO;rw[bh] at KS KW kk;refine⟨_,rfl,_,rfl,2,_,Da hv hev,by decide,_,rfl,bz (fun hz=> ?_) (fun hz=> ?_)⟩
   .rw [A7 hz] at kk;refine⟨AL _,fun e0 H1 ne s1 he=>⟨(zB rfl),fun fo H2 nf s2 Lk=> ?_⟩⟩;exact kk fo H2 (s1.trans s2) (s1.free nf) (aB (by rw[bY (s1.free nf)];exact Lk) (ak (aB (vs:=[]) (by rw[bY ne];exact s2 _ _ he) ao) ao))
   rw[A5 hz] at KS KW kk;have K8:∀x∈ip d ps sd,okM n d x.2 sd es=true:=K8.resolve_left hz;refine⟨AL _,fun fo H1 Ni s1 Lk=> ?_⟩;refine⟨_,rfl,_,rfl,_,rfl,d,v,ps,sd,rfl,hv.mono s1,hB,hs,fun l0 H2 s2 O8 Nt=> ?_⟩;generalize ip d ps sd=S at KS KW kk K8 Nt;have Mk:=s1.trans s2;obtain⟨_,Lh,e,Qg,Mj⟩:=az Nt;cases e;have Ly:H2 l0=some (.lst Lh):=bu _ _ Qg;have l0fo:l0≠fo:=by rintro rfl;rw[Lk] at O8;cases O8
   have LH:Lh.length=S.length:=by rw[Mj.length,A1]
   have hliH:Iss (hid H2 fo) (S.map iz) Lh:=(Mj.mono (ib (ae.refl H1) Lk)).mono (cZ bu);refine⟨l0,rfl,⟨_,SqL.of Ly⟩,aY (xs:=Lh) (fun i σ H3=>(∃v5 v6 v7,σ=[some (.int d),some v,some (.int sd),some ev,some (.ref fo),v5,v6,v7])/\ae H H3/\But fo H2 H3/\Acc H H3 fo (((S.take i).flatMap fun x=>(bh n d x.2 sd es).map (x.1:: ·)).map bR)) ⟨⟨none,none,none,rfl⟩,Mk,fun _ _ e _=>e,Acc.start (s2 _ _ Lk)⟩ (fun i σ H3 _ h=>SqL.of (h.2.2.1 _ _ Ly l0fo)) ?_ ?_⟩
   .rintro i y σ H3 hi ⟨⟨v5,v6,v7,rfl⟩,s3,Ml,Pp⟩;obtain⟨x,K4,hy⟩:=aH hliH hi;have hx3:Is H3 (iz x) y:=hy.mono (lu Ml);obtain⟨t,Pn,rfl,ht,Mo⟩:=bn hx3;obtain⟨u1,us,rfl,LA,Mo⟩:=aK Mo;obtain⟨u2,us,rfl,Me,Mo⟩:=aK Mo;rw[bi Mo] at ht;have tk:((S.take (i+1)).flatMap fun x=>(bh n d x.2 sd es).map (x.1:: ·))=((S.take i).flatMap fun x=>(bh n d x.2 sd es).map (x.1:: ·))++(bh n d x.2 sd es).map (x.1:: ·):=by
     rw[AK,K4,Au];simp
    have pre:((S.take i).flatMap fun x=>(bh n d x.2 sd es).map (x.1:: ·)).length+(bh n d x.2 sd es).length<=100:=by
     have:((S.take (i+1)).flatMap fun x=>(bh n d x.2 sd es).map (x.1:: ·)).length<=(S.flatMap fun x=>(bh n d x.2 sd es).map (x.1:: ·)).length:=by
      conv=>rhs;rw[<-Bw (i+1) S]
      rw[Au,AA];lia
     rw[tk,AA,A1] at this;lia
    have items:∀r∈bh n d x.2 sd es,r.length<=100:=fun r hr=>by
     have:=KW (x.1::r) (B'.mpr ⟨x,AH K4,Ak.mpr ⟨r,hr,rfl⟩⟩);rw[AT] at this;lia
    refine⟨t,_,rfl,SqT.of ht,rfl,_,_,rfl,_,_,rfl,rfl, ?_⟩;refine⟨_,rfl,_,rfl,_,rfl,_,rfl,d,u2,ev,x.2,es,sd,rfl,Me,hev.mono s3,K8 x (AH K4),hs,fun rl H4 s4 Mn MQ=> ?_⟩;obtain⟨N0,K0,N6⟩:=id Pp;have hfo4:=s4 _ _ K0;obtain⟨_,LC,e,N2,LR⟩:=az MQ;cases e;have MP:H4 rl=some (.lst LC):=bu _ _ N2;have M3:rl≠fo:=by rintro rfl;rw[K0] at Mn;cases Mn
    have Ld:LC.length=(bh n d x.2 sd es).length:=by rw[LR.length,A1]
    have N4:Iss (hid H4 fo) ((bh n d x.2 sd es).map bR) LC:=(LR.mono (ib (ae.refl H3) K0)).mono (cZ bu);have M5:=s3.trans s4;have Nw:But fo H2 H4:=Ml.trans (But.of_same s4);refine⟨rl,rfl,⟨_,SqL.of MP⟩,aY (xs:=LC) (fun j σ H5=>(∃v7,σ=[some (.int d),some v,some (.int sd),some ev,some (.ref fo),some u1,some u2,v7])/\ae H H5/\But fo H4 H5/\Acc H H5 fo ((((S.take i).flatMap fun x=>(bh n d x.2 sd es).map (x.1:: ·))++((bh n d x.2 sd es).take j).map (x.1:: ·)).map bR)) ⟨⟨_,rfl⟩,M5,fun _ _ e _=>e,by simpa using Pp.mono s4⟩ (fun j σ H5 _ h=>SqL.of (h.2.2.1 _ _ MP M3)) ?_ ?_⟩
    .rintro j z σ H5 hj ⟨⟨v7,rfl⟩,s5,My,NB,K7,Nr⟩;obtain⟨r,Ln,hz⟩:=aH N4 hj;have hjl:j<(bh n d x.2 sd es).length:=(A8.mp Ln).1;have hz5:Is H5 (bR r) z:=hz.mono (lu My);have hu5:Is H5 (pcD x.1) u1:=cp (fun a xs e=>My _ _ (s4 _ _ e) (by rintro rfl;rw[K0] at e;cases e)) LA;have rl1:=items r (AH Ln);have vl:NB.length<=100:=by
      rw[Nr.length,A1,AA,A1,AS];lia
     refine⟨_,rfl, .inl ⟨rfl,_,SqL.of K7⟩,_,rfl,(zB rfl),fun q1 H6 n6 s6 h6=>⟨_,rfl,[pcD x.1],r.map pcD,aB h6 (ak (hu5.mono s6) ao),hz5.mono s6,Ad (ay (by rw[A1];show 1+r.length<=1000;lia)),fun q2 H7 n7 s7 h7=> ?_⟩⟩;have ME:=s6.trans s7;refine⟨fo,NB,_,rfl,rfl,ME _ _ K7,ay (by lia),⟨_,rfl⟩,(s5.trans ME).put Ni,My.trans ((But.of_same ME).trans But.upd), ?_⟩;rw[AK,Ln];have:=Acc.add s5 ME K7 Nr (vR (cs:=x.1::r) ME (s6.free n7) h7);simpa using this
    .rintro σ H5 ⟨⟨v7,rfl⟩,s5,My,Pq⟩;refine⟨⟨_,_,_,rfl⟩,s5,Nw.trans My, ?_⟩;rw[Ld,AF,<-tk] at Pq;exact Pq
   .rintro σ H3 ⟨⟨v5,v6,v7,rfl⟩,s3,_,KR⟩;rw[LH,AF] at KR;exact⟨_,rfl,kk fo H3 s3 Ni (KR.is Ni)⟩
theorem Kr:FnOk P w K mg base (CX0) 34 T.f21 T.d21 ["d","way"] spCutQ:=by
 refine FbO T.X21 gX fun _ _ _ _ H vs Q E hr h=> ?_;obtain⟨n,wv,ps,rfl,i1,i2,hw,hO,k2⟩:=h;refine⟨_,(ai (aO (pcq (gv T) hr T.X1 (ab (pv 0) (ab ag (ab ag af)))))
  (ai (pSA (i:=2) gX.nd (pcq (qp T 30) hr T.X20 (ab (pv 0) (ab (pv 1) (ab (jF (v:= .int (-1)) (by rfl) T.m_RIGHT ⟨_,rfl⟩) (ab (pcq (Kl T) hr T.X14 (ab (pv 0) af)) af))))))
  (ai (pSA (i:=3) gX.nd (qB (yG (pv 2) (fun _=>rfl)) (pcq (qp T 30) hr T.X20 (ab (pv 0) (ab (pv 1) (ab (jF (v:= .int (1)) (by rfl) T.m_LEFT ⟨_,rfl⟩) (ab (pcq (Kk T) hr T.X13 (ab (pv 0) af)) af))))) (aM af)))
  (ai (pSA (i:=4) gX.nd (aM af))
  (ai (aA AD rfl (aP (pv 3)) (pGA (i:=5) gX.nd) (aj (aA AD rfl (aP (pv 2)) (pGA (i:=6) gX.nd) (aj (aO (bG AU Ah Ag ck (pv 4) (ab (ah df (pv 5) (pv 6)) af)))))))
  (aj (ap (bm (mx hr) (by rfl) T.n_sorted boot_sorted (ab (pv 4) af))))))))), ?_⟩
 refine⟨_,rfl,(n:Int),1,4,rfl,by lia,by lia, ?_⟩;unfold okP at hO;simp only[AN,Av] at hO;obtain⟨⟨o1,o2⟩,o4⟩:=hO;refine⟨_,rfl,_,rfl,_,rfl,n,rfl,i1,by lia,fun le H1 s1 nle hle=> ?_⟩;obtain⟨m,rfl⟩:∃m,m=n:=⟨n,rfl⟩;refine⟨m,wv, .ref le,ps,loE m,-1,rfl,hw.mono s1,hle,o1, .inr rfl,fun ul H2 s2 nul hul=> ?_⟩;have Mk:=s1.trans s2;have nulH:H ul=none:=s1.free nul;have hul:=hul.mono (ia s1);have N7:=vS o1;have Ob:=vS o2;obtain⟨_,uvs,e,hul',hui⟩:=az hul;cases e;have Qi:H2 ul=some (.lst uvs):=bu _ _ hul';have Na:uvs.length=(bh 30 m ps (-1) (loE m)).length:=by rw[hui.length,A1]
 by_cases hu0:bh 30 m ps (-1) (loE m)=[]
 .have u0:uvs=[]:=Br.mp (by rw[Na,hu0];rfl);have r0:b9 m ps=[]:=by unfold b9 ovF;rw[A7 hu0];rfl
  rw[r0] at k2;refine⟨_,rfl,false, .inl ⟨_,SqL.of Qi,by rw[u0];rfl⟩,bM ⟨AL _,fun ol H3 nol s3 OC=> ?_⟩⟩;refine⟨AL _,fun fo H4 LI s4 Lk=> ?_⟩;have M5:=(Mk.trans s3).trans s4;refine⟨_,rfl,ol,rfl,⟨_,SqL.of (s4 _ _ OC)⟩,aY (xs:=[]) (fun i σ H5=>σ=[some (.int m),some wv,some (.ref ul),some (.ref ol),some (.ref fo),none,none]/\H5=H4) ⟨rfl,rfl⟩ (fun i σ H5 _ h=>by rw[h.2];exact SqL.of (s4 _ _ OC)) (fun i x σ H5 hx=>by simp at hx) ?_⟩;rintro σ H5 ⟨rfl,rfl⟩;refine⟨_,rfl,fo,[],rfl,SqL.of Lk,by decide,fun _ h=>(nomatch h),fun _ h=>(nomatch h),fun p q pp nq=> ?_⟩;obtain rfl:p=[]:=List.Perm.eq_nil pp;exact k2 [] q _ (List.Perm.refl _) (M5.put (M5.free nq)) (M5.free nq) (aB (by rw[bY (M5.free nq)];exact al) ao)
 .have une:uvs≠[]:=fun z=>hu0 (Br.mp (by rw[<-Na,z];rfl));refine⟨_,rfl,true, .inl ⟨_,SqL.of Qi,by simp[une]⟩,dy ?_⟩;refine⟨_,rfl,_,rfl,_,rfl,m,rfl,i1,by lia,fun ue H3 s3 nue hue=> ?_⟩;obtain⟨m',rfl⟩:∃m',m'=m:=⟨m,rfl⟩;refine⟨m',wv, .ref ue,ps,upE m',1,rfl,(hw.mono Mk).mono s3,hue,o2, .inl rfl,fun ol H4 s4 nol OC=> ?_⟩;have Lj:=Mk.trans s3;have M5:=Lj.trans s4;have OC:=OC.mono (ia Lj);obtain⟨_,ovs,e,PQ,NU⟩:=az OC;cases e;have hol4:H4 ol=some (.lst ovs):=bu _ _ PQ;have eov:ovF m' ps=bh 30 m' ps 1 (upE m'):=by unfold ovF;rw[A5 hu0]
  rw[<-eov] at NU Ob;have olen:ovs.length=(ovF m' ps).length:=by rw[NU.length,A1]
  have hoi4:Iss H4 ((ovF m' ps).map bR) ovs:=NU.mono bu;have s24:=s3.trans s4;have hui4:Iss H4 ((bh 30 m' ps (-1) (loE m')).map bR) uvs:=(hui.mono bu).mono s24;have hul4:=s24 _ _ Qi;have OL:b9 m' ps=(ovF m' ps).flatMap fun x=>(bh 30 m' ps (-1) (loE m')).map fun y=>x++y:=rfl;generalize bh 30 m' ps (-1) (loE m')=U at hui4 Na OL N7;generalize ovF m' ps=O at NU hoi4 olen OL Ob;refine⟨AL _,fun fo H5 LI s5 Lk=> ?_⟩;refine⟨_,rfl,ol,rfl,⟨_,SqL.of (s5 _ _ hol4)⟩,aY (xs:=ovs) (fun i σ H6=>(∃v5 v6,σ=[some (.int m'),some wv,some (.ref ul),some (.ref ol),some (.ref fo),v5,v6])/\ae H4 H6/\Acc H4 H6 fo (((O.take i).flatMap fun x=>U.map fun y=>x++y).map bR)) ⟨⟨none,none,rfl⟩,s5,Acc.start Lk⟩ (fun i σ H6 _ h=>SqL.of (h.2.1 _ _ hol4)) ?_ ?_⟩
  .rintro i y σ H6 hi ⟨⟨v5,v6,rfl⟩,s6,Nl⟩;obtain⟨x,K4,hy⟩:=aH hoi4 hi;have tk:((O.take (i+1)).flatMap fun x=>U.map fun y=>x++y)=((O.take i).flatMap fun x=>U.map fun y=>x++y)++U.map fun y=>x++y:=by
    rw[AK,K4,Au];simp
   have pre:((O.take i).flatMap fun x=>U.map fun y=>x++y).length+U.length<=100:=by
    have:((O.take (i+1)).flatMap fun x=>U.map fun y=>x++y).length<=(b9 m' ps).length:=by
     rw[OL]
     conv=>rhs;rw[<-Bw (i+1) O]
     rw[Au,AA];lia
    rw[tk,AA,A1] at this;lia
   refine⟨_,rfl,ul,rfl,⟨_,SqL.of (s6 _ _ hul4)⟩,aY (xs:=uvs) (fun j σ H7=>(∃v6,σ=[some (.int m'),some wv,some (.ref ul),some (.ref ol),some (.ref fo),some y,v6])/\ae H4 H7/\Acc H4 H7 fo ((((O.take i).flatMap fun x=>U.map fun y=>x++y)++(U.take j).map fun y=>x++y).map bR)) ⟨⟨_,rfl⟩,s6,by simpa using Nl⟩ (fun j σ H7 _ h=>SqL.of (h.2.1 _ _ hul4)) ?_ ?_⟩
   .rintro j z σ H7 hj ⟨⟨v6,rfl⟩,s7,vs7,M4,hi7⟩;obtain⟨r,Ln,hz⟩:=aH hui4 hj;have hjl:j<U.length:=(A8.mp Ln).1;have x1:=Ob.2 x (AH K4);have r1:=N7.2 r (AH Ln);have vl:vs7.length<=100:=by
     rw[hi7.length,A1,AA,A1,AS];lia
    refine⟨_,rfl, .inl ⟨rfl,_,SqL.of M4⟩,_,rfl,_,rfl,x.map pcD,r.map pcD,hy.mono s7,hz.mono s7,Ad (ay (by rw[A1,A1];lia)),fun q H8 nq s8 hq=> ?_⟩;refine⟨fo,vs7,_,rfl,rfl,s8 _ _ M4,ay (by lia),⟨_,rfl⟩,(s7.trans s8).put LI, ?_⟩;rw[AK,Ln];rw[<-A6] at hq;have:=Acc.add s7 s8 M4 hi7 (vR (cs:=x++r) s8 nq hq);simpa using this
   .rintro σ H7 ⟨⟨v6,rfl⟩,s7,MO⟩;refine⟨⟨_,_,rfl⟩,s7, ?_⟩;rw[Na,AF,<-tk] at MO;exact MO
  .rintro σ H6 ⟨⟨v5,v6,rfl⟩,s6,KR⟩;rw[olen,AF,<-OL] at KR;have NF:=M5.trans s6;obtain⟨vs,M1,hi6⟩:=KR;have hi:Iss (nw H H6) ((b9 m' ps).map bR) vs:=(hi6.mono mj).mono (ia M5);have N5:Iss H6 ((b9 m' ps).map bR) vs:=hi.mono bu;have Mc:vs.length=(b9 m' ps).length:=by rw[hi.length,A1]
   refine⟨_,rfl, ?_⟩;refine⟨fo,vs,rfl,SqL.of M1,by lia,fun r Ln=> ?_,fun x hx y hy=> ?_,fun p q pp nq=> ?_⟩
   .obtain⟨i,hi,rfl⟩:=B6.mp Ln;obtain⟨w,_,hy⟩:=aH N5 (A2 hi);obtain⟨a,ys,e1,e2,_⟩:=az hy;exact⟨a,ys,e1,SqL.of e2⟩
   .obtain⟨i,hi,rfl⟩:=B6.mp hx;obtain⟨j,hj,rfl⟩:=B6.mp hy;obtain⟨w1,_,K4⟩:=aH N5 (A2 hi);obtain⟨w2,_,LQ⟩:=aH N5 (A2 hj);exact⟨_,Ie K4 LQ⟩
   .have MI:∀i∈p,i<(b9 m' ps).length:=fun i hi=>by
     have:=Aa.mp (pp.mem_iff.mp hi);lia
    refine k2 (p.map fun i=>(b9 m' ps).getD i []) q _ ?_ (NF.put (NF.free nq)) (NF.free nq) ?_
    .have:=pp.map fun i=>(b9 m' ps).getD i [];have er:(List.range vs.length).map (fun i=>(b9 m' ps).getD i [])=b9 m' ps:=by
      rw[Mc];refine Ck (by simp) fun i h1 h2=> ?_;simp[List.getD,h2]
     rw[er] at this;exact this
    .exact aB (by rw[bY (NF.free nq)];exact al) ((pJ [] hi p MI).mono (e9 (ae.new nq)))
theorem Kt:OKQ T.X22 P w base 3 spCW:=by
 refine FbO T.X22 kb fun _ _ _ _ H vs Q E hr h=> ?_;obtain⟨v,cs,rfl,hv,hB,kk⟩:=h;refine⟨_,(ai (pSA (i:=1) kb.nd ag)
  (ai (aA AD rfl (aP (pv 0)) (pGA (i:=2) kb.nd) (aj (fM (i:=1) kb.nd rfl (by trivial) (pcq (Kq T) hr T.X17 (ab (pv 2) af)) jV)))
  (aj (ap (pv 1))))), ?_⟩
 obtain⟨a,vs,rfl,ha,hi⟩:=az hv;have Mc:vs.length=cs.length:=by rw[hi.length,A1]
 refine⟨_,rfl,a,rfl,⟨_,SqL.of ha⟩,aY (xs:=vs) (fun j σ H2=>(∃v2,σ=[some (.ref a),some (.int (cB (cs.take j))),v2])/\H2=H) ⟨⟨none,rfl⟩,rfl⟩ (fun j σ H6 _ h=>by rw[h.2];exact SqL.of ha) ?_ ?_⟩
 .rintro j y σ H2 hj ⟨⟨v2,rfl⟩,rfl⟩;obtain⟨c,hc,hy⟩:=aH hi hj;obtain⟨b1,b2⟩:=hB c (AH hc);refine⟨_,rfl,_,rfl,y,c,rfl,hy,b1,b2,_,_,rfl,rfl, .inr (Jx b1 b2),⟨some y, ?_⟩,rfl⟩;rw[Ik hc];rfl
 .rintro σ H2 ⟨⟨v2,rfl⟩,rfl⟩;rw[Mc,AF];exact⟨_,rfl,kk⟩
theorem Ku {a:Pt}:∀{c:Qt Pt}{i:Nat}{p:Pt},c[i]? =some p->eN a (c.take (i+1))=eN a (c.take i)++[[kY ((a::c).getD i zP) p,kZ ((a::c).getD i zP) p]]:=by
 intro c;induction c generalizing a with
 |nil=>intro i p h;simp at h
 |cons q c ih=>
  intro i p h;cases i with
  |zero=>
   have:q=p:=by simpa using h
   subst this;simp[eN]
  |succ i=>
   have h':c[i]? =some p:=by simpa using h
   rw[BH,BH];show _::eN q (c.take (i+1))=_::eN q (c.take i)++_;rw[ih h',DC];rfl
theorem xv:OKQ T.X23 P w base 2 spSid:=by
 refine FbO T.X23 i0 fun _ _ _ _ H vs Q E hr h=> ?_;obtain⟨v,c,rfl,hv,hB,kk⟩:=h;refine⟨_,(ai (pSA (i:=1) i0.nd (aM af))
  (ai (pSA (i:=2) i0.nd (ax aN (pv 0) (fq ft ag) (fun _ _=>rfl)))
  (ai (aA AD rfl (qF (pv 0)) (pGA (i:=3) i0.nd) (ai (aO (bG AU Ah Ag ck (pv 1) (ab (bf (ab (bm (FG rfl hr) (by rfl) T.n_min boot_min (ab (pv 2) (ab (pv 3) af))) (ab (bm (FH rfl hr) (by rfl) T.n_max boot_max (ab (pv 2) (ab (pv 3) af))) af))) af)))
  (aj (pSA (i:=2) i0.nd (pv 3)))))
  (aj (ap (pv 1)))))), ?_⟩
 obtain⟨a,vs,rfl,ha,hi⟩:=bn hv;have Mc:vs.length=c.length:=by rw[hi.length,A1]
 have cl:=hB.2;have cne:c≠[]:=by rintro rfl;simp at cl
 refine⟨AL _,fun fo H1 LI s1 Lk=> ?_⟩;have hlast:atI (c.map pt) (-1)=some (pt (c.getLastD zP)):=by
  unfold atI ixN;rw[A1,A5 (by lia),A7 (by lia)];show(c.map pt)[((-1:Int)+(c.length:Int)).toNat]? =_;rw[show((-1:Int)+(c.length:Int)).toNat=c.length-1 by lia];exact JD cne
 refine⟨_,rfl,1,rfl,c.map pt,-1,pt (c.getLastD zP),hv.mono s1,rfl,hlast,fun u hu=> ?_⟩;have hu0:Is (hid H1 fo) (pt (c.getLastD zP)) u:=by
  obtain⟨b,rfl,hb⟩:=fA hu;exact eW (by rw[dC (by rintro rfl;rw[Lk] at hb;cases hb)];exact hb)
 refine⟨_,rfl,a,rfl,⟨_,SqT.of (s1 _ _ ha)⟩,qH (xs:=vs) (fun i σ H2=>(∃u v3,σ=[some (.ref a),some (.ref fo),some u,v3]/\Is H2 (pt ((c.getLastD zP::c).getD i zP)) u)/\ae H H2/\∃zs,H2 fo=some (.lst zs)/\Iss H2 ((eN (c.getLastD zP) (c.take i)).map pcD) zs) ⟨⟨u,none,rfl,hu⟩,s1,[],Lk,ao⟩ (fun i σ H2 _ h=>SqT.of (h.2.1 _ _ ha)) ?_ ?_⟩
 .rintro i y σ H2 hy ⟨⟨u,v3,rfl,hu⟩,s2,zs,Lc,hz⟩;obtain⟨p,Lp,hp⟩:=aH hi hy;have il:i<c.length:=(A8.mp Lp).1;have Ox:=hp.mono s2;generalize hq:(c.getLastD zP::c).getD i zP=q at hu;obtain⟨b1,rfl,hb1⟩:=fA hu;obtain⟨b2,rfl,hb2⟩:=fA Ox;have zl:zs.length=i:=by rw[hz.length,A1,pV,AS];lia
  refine⟨_,rfl, .inl ⟨rfl,_,SqL.of Lc⟩,_,rfl,_,rfl,_,_,1,_,rfl,sF Ox hu,by decide,_,rfl,_,rfl,b1,b2,q,p,rfl,SqT.of hb1,SqT.of hb2,(zB rfl),fun t H3 nt s3 Pe=> ?_⟩;refine⟨fo,zs,_,rfl,rfl,s3 _ _ Lc,ay (by lia), ?_⟩;have tu:av H3 (upd H3 fo (.lst (zs++[.ref t]))):=av.upd (s3 _ _ Lc);have hmin:Is H2 (pt (kY q p)) (if eZ p q=true then V.ref b2 else V.ref b1):=by
   unfold kY;cases eZ p q
   .exact hu
   .exact Ox
  have hmax:Is H2 (pt (kZ q p)) (if gtI p q=true then V.ref b2 else V.ref b1):=by
   unfold kZ;cases gtI p q
   .exact hu
   .exact Ox
  refine⟨_,rfl,⟨_,_,rfl, ?_⟩,(s2.trans s3).put LI,_,al, ?_⟩
  .have e:(c.getLastD zP::c).getD (i+1) zP=p:=by
    rw[List.getD_cons_succ,A9,Lp];rfl
   rw[e];exact vP tu (Ox.mono s3)
  .rw [Ku Lp,A6,hq];exact(dX tu (hz.mono s3)).append (ak (cp tu (bd Pe (ak (hmin.mono s3) (ak (hmax.mono s3) ao)))) ao)
 .rintro σ H2 ⟨⟨u,v3,rfl,hu⟩,s2,zs,Lc,hz⟩;rw[Mc,AF] at hz;exact⟨_,rfl,kk fo H2 s2 LI (aB Lc hz)⟩
theorem xw:OKQ T.X8 P w base 1 (spGat P w):=by
 refine FbO T.X8 cx fun _ _ _ _ H vs Q E hr h=> ?_;obtain⟨v1,v2,xs,ps,rfl,h1,h2,nd,xl,Np,kk⟩:=h;refine⟨_,(ai (pSA (i:=2) cx.nd mW)
  (ai (aA AD rfl (aP (pv 0)) (pGA (i:=3) cx.nd) (aj (j6 (c7 hr) (pv 2) (pv 3) (pv 3) rfl)))
  (ai (aA AD rfl (aP (pv 1)) (cH rfl (aT (pGA (i:=4) cx.nd) (aT (pGA (i:=5) cx.nd) cj))) (ai (pSA (i:=6) cx.nd (gT (c7 hr) (pv 2) (pv 4) (fun _ _=>rfl)))
  (ai (pSA (i:=7) cx.nd (gT (c7 hr) (pv 2) (pv 5) (fun _ _=>rfl)))
  (aj (aA AD rfl (aP (pv 0)) (pGA (i:=3) cx.nd) (aj (aW (aQ (ma hr) (gT (c7 hr) (pv 2) (pv 3) (fun _ _=>rfl)) (pv 7) (aI _)) (aj (j6 (c7 hr) (pv 2) (pv 3) (pv 6) rfl)) aX)))))))
  (aj (ap (pv 2)))))), ?_⟩
 intro st H0 NC hD0 k0;obtain⟨t,Pn,rfl,ht,Mo⟩:=az h1;obtain⟨q,qvs,rfl,hq,hqi⟩:=az h2;have OM:Pn.length=xs.length:=by rw[Mo.length,A1]
 have qlen:qvs.length=ps.length:=by rw[hqi.length,A1]
 have b0:ae H H0:=fun b o e=>by rw[k0 b (by rintro rfl;rw[NC] at e;cases e)];exact e
 refine⟨_,rfl,t,rfl,⟨_,SqL.of (b0 _ _ ht)⟩,aY (xs:=Pn) (fun i σ H1=>(∃v3,σ=[some (.ref t),some (.ref q),some (.ref st),v3,none,none,none,none])/\ae H H1/\∃kvs,DN P w H1 st kvs/\GR H1 (bJ (xs.take i)) kvs) ⟨⟨none,rfl⟩,b0,[],hD0, .nil⟩ (fun i σ H1 _ h=>SqL.of (h.2.1 _ _ ht)) ?_ ?_⟩
 .rintro i y σ H1 hi ⟨⟨v3,rfl⟩,s1,kvs,hD1,g1⟩;obtain⟨x,hx,hy⟩:=aH Mo hi;have il:i<xs.length:=(A8.mp hx).1;have hy1:=hy.mono s1;have hk:Is H1 (nK (wk x)) y:=eQ hy1;have hn:dr (bJ (xs.take i)) x=false:=by
   cases e:dr (bJ (xs.take i)) x with
   |false=>rfl
   |true=>
    have:=jw.mp e;rw[lh] at this;exact absurd this (JC nd hx)
  have gl:=g1.len;have tl:(bJ (xs.take i)).length=i:=by unfold bJ;rw[A1,AS];lia
  refine⟨_,rfl,_,rfl,_,rfl,st,kvs,wk x,rfl,hD1,hk,ay (by lia),fun H2 MA k2=> ?_⟩;have but:But st H1 H2:=fun c o e n=>by rw[k2 c n];exact e
  have tu:av H1 H2:=(jA hD1 but).2;refine⟨⟨_,rfl⟩,But.same s1 NC but,_,MA, ?_⟩;have e:bJ (xs.take (i+1))=bJ (xs.take i)++[(x,x)]:=by
   rw[AK,hx];unfold bJ;rw[A6];rfl
  rw[e];exact(g1.ts tu).new hn (cp tu hy1)
 .rintro σ H1 ⟨⟨v3,rfl⟩,s1,kvs,hD1,g1⟩;rw[OM,AF] at g1;refine⟨_,rfl,q,rfl,⟨_,SqL.of (s1 _ _ hq)⟩,aY (xs:=qvs) (fun i σ H2=>(∃v3 v4 v5 v6 v7,σ=[some (.ref t),some (.ref q),some (.ref st),v3,v4,v5,v6,v7])/\ae H H2/\∃kvs,DN P w H2 st kvs/\GR H2 (cb (bJ xs) (ps.take i)) kvs) ⟨⟨_,none,none,none,none,rfl⟩,s1,kvs,hD1,g1⟩ (fun i σ H2 _ h=>SqL.of (h.2.1 _ _ hq)) ?_ ?_⟩
  .rintro i y σ H2 hi ⟨⟨v3,v4,v5,v6,v7,rfl⟩,s2,kvs,MA,g2⟩;obtain⟨x,hx,hy⟩:=aH hqi hi;obtain⟨in1,in2⟩:=Np x (AH hx);obtain⟨pa,MF,rfl,Pj,Pk⟩:=bn (hy.mono s2);obtain⟨u1,us,rfl,LA,Pk⟩:=aK Pk;obtain⟨u2,us,rfl,Me,Pk⟩:=aK Pk;rw[bi Pk] at Pj;have keys:(cb (bJ xs) (ps.take i)).map (·.1)=xs:=by rw[lg,lh]
   have snoc:cb (bJ xs) (ps.take (i+1))=du (cb (bJ xs) (ps.take i)) (bp (cb (bJ xs) (ps.take i)) x.1) (bp (cb (bJ xs) (ps.take i)) x.2):=by
    rw[AK,hx];exact Im
   rw[snoc];generalize cb (bJ xs) (ps.take i)=S at g2 keys⊢;obtain⟨kv,ev1,hkv⟩:=g2.get (k:=x.1) (by rw[keys];exact in1);obtain⟨lv,ev2,hlv⟩:=g2.get (k:=x.2) (by rw[keys];exact in2);generalize bp S x.1=kept at hkv⊢;generalize bp S x.2=left at hlv⊢;refine⟨pa,_,rfl,SqT.of Pj,rfl,_,_,rfl,_,_,rfl,rfl, ?_⟩;refine⟨_,rfl,_,rfl,st,kvs,wk x.1,kv,rfl,MA,eQ LA,ev1, ?_⟩;refine⟨_,rfl,_,rfl,st,kvs,wk x.2,lv,rfl,MA,eQ Me,ev2, ?_⟩;have sl:S.length=xs.length:=by rw[<-keys,A1]
   refine⟨_,rfl,t,rfl,⟨_,SqL.of (s2 _ _ ht)⟩,aY (xs:=Pn) (fun j σ H3=>(∃v3,σ=[some (.ref t),some (.ref q),some (.ref st),v3,some u1,some u2,some kv,some lv])/\ae H H3/\∃kvs,DN P w H3 st kvs/\GR H3 (du (S.take j) kept left++S.drop j) kvs/\Is H3 (pcD kept) kv/\Is H3 (pcD left) lv) ⟨⟨_,rfl⟩,s2,kvs,MA,g2,hkv,hlv⟩ (fun i σ H3 _ h=>SqL.of (h.2.1 _ _ ht)) ?_ ?_⟩
   .rintro j z σ H3 hj ⟨⟨v3,rfl⟩,s3,kvs,ND,g3,hkv,hlv⟩;obtain⟨x',K4,hz⟩:=aH Mo hj;have jl:j<xs.length:=(A8.mp K4).1;obtain⟨s',MC⟩:∃s',S[j]? =some s':=⟨_,A2 (by lia)⟩;have e1:s'.1=x':=by
     have:(S.map (·.1))[j]? =some x':=by rw[keys];exact K4
     rw[AC,MC] at this;simpa using this
    obtain⟨n1,n2⟩:=wX (S:=S) (by rw[keys];exact nd) MC;rw[<-vY (S.take j) kept left] at n1;rw[Io MC];rw[pT MC] at g3;obtain⟨sa,sb⟩:=s';have e1:sa=x':=e1;subst e1;have Oo:=hz.mono s3;have hk3:Is H3 (nK (wk sa)) z:=eQ Oo;obtain⟨v,ev,hv⟩:=g3.get (k:=sa) (by simp);rw[pR n1] at hv;refine⟨_,rfl,_,rfl,st,kvs,wk sa,v,rfl,ND,hk3,ev,_,rfl,2,cE sb left,by rw[pM];exact pI hv hlv,by decide,_,rfl, ?_⟩;cases hb:cE sb left with
    |false=>
     refine bM ⟨⟨_,rfl⟩,s3,kvs,ND,g3,hkv,hlv⟩
    |true=>
     have gl:=g3.len;have ll:(du (S.take j) kept left++(sa,sb)::S.drop (j+1)).length=xs.length:=by
      have:(du (S.take j) kept left).length=j:=by unfold du;rw[A1,AS];lia
      rw[AA,this,AT,Bs];lia
     refine dy ⟨_,rfl,_,rfl,_,rfl,st,kvs,wk sa,rfl,ND,hk3,ay (by lia),fun H4 MS k4=> ?_⟩;have but:But st H3 H4:=fun c o e n=>by rw[k4 c n];exact e
     have tu:av H3 H4:=(jA ND but).2;exact⟨⟨_,rfl⟩,But.same s3 NC but,_,MS,(g3.ts tu).mid n1 n2 (cp tu hkv),cp tu hkv,cp tu hlv⟩
   .rintro σ H3 ⟨⟨v3,rfl⟩,s3,kvs,ND,g3,_,_⟩;rw[OM,<-sl,AF,List.drop_length,B5] at g3;exact⟨⟨_,_,_,_,_,rfl⟩,s3,kvs,ND,g3⟩
  .rintro σ H2 ⟨⟨v3,v4,v5,v6,v7,rfl⟩,s2,kvs,MA,g2⟩;rw[qlen,AF] at g2;exact⟨_,rfl,kk st H2 kvs s2 NC MA g2⟩
theorem Kv:OKQ T.X9 P w base 2 (spSets P w):=by
 refine FbO T.X9 j7 fun _ _ _ _ H vs Q E hr h=> ?_;obtain⟨v1,v2,xs,ps,rfl,h1,h2,nd,xl,Np,kk⟩:=h;refine⟨_,(ai (pSA (i:=2) j7.nd (pcq (xw T) hr T.X8 (ab (pv 0) (ab (pv 1) af))))
  (aj (ap (bm gK (by rfl) T.n_len DL (ab (cV (XN:=["things","pairs","standing"]) (sc:=am iX) (N:=["thing","standing"]) (own:=1) (js:=[2]) rfl (by ac_nf) rfl rfl (aP (pv 0)) (fun _ _ _ _=>(bK (i:=0) (show List.Nodup (["thing","standing"]:Qt Str) by ac_nf) rfl (Or.inl rfl) (.inr rfl))) (cU (by decide)) (fun _ _ _ _=>(iP (aQ (Eg (K:=K) rfl hr) (JB (P:=P) (w:=w) rfl rfl (c7 hr) (pv 1) (pv 0) (fun _ _=>rfl)) (pv 0) (aI _)))) (fun _ _ _ _=>(pv 0))) af))))), ?_⟩
 refine⟨_,rfl,_,rfl,v1,v2,xs,ps,rfl,h1,h2,nd,xl,Np,fun st H1 kvs s1 NC hD g=> ?_⟩;obtain⟨t,Pn,rfl,ht,Mo⟩:=az h1;have OM:Pn.length=xs.length:=by rw[Mo.length,A1]
 have keys:(cb (bJ xs) ps).map (·.1)=xs:=by rw[lg,lh]
 unfold pN at kk;generalize cb (bJ xs) ps=S at g keys kk;have sl:S.length=xs.length:=by rw[<-keys,A1]
 refine⟨_,rfl,t,rfl,⟨_,SqL.of (s1 _ _ ht)⟩,fun acc na=> ?_⟩;refine dP (xs:=Pn) (own:=1) (js:=[2]) (fun i H3=>ae H1 H3/\∃vs,H3 acc=some (.lst vs)/\Iss H3 ((((S.take i).filter fun y=>cE y.2 y.1).map (·.1)).map pcD) vs) ⟨ae.new na,[],al,ao⟩ (fun i H3 _ h=>SqL.of (h.1 _ _ (s1 _ _ ht))) ?_ ?_ cW ?_ ?_
 .rintro i x H3 hi ⟨s3,vs,KR,vl⟩;obtain⟨x',K4,hz⟩:=aH Mo hi;have jl:i<xs.length:=(A8.mp K4).1;obtain⟨⟨sa,sb⟩,MC⟩:∃s',S[i]? =some s':=⟨_,A2 (by lia)⟩;have e1:sa=x':=by
   have:(S.map (·.1))[i]? =some x':=by rw[keys];exact K4
   rw[AC,MC] at this;simpa using this
  subst e1;obtain⟨n1,_⟩:=wX (S:=S) (by rw[keys];exact nd) MC;have g3:GR H3 S kvs:=g.ts (av.of_same s3);have Oo:=(hz.mono s1).mono s3;have Oh:S=S.take i++(sa,sb)::S.drop (i+1):=by rw[<-pT MC,Bw]
  obtain⟨v,ev,hv⟩:=g3.get (k:=sa) (by rw[Oh];simp);have eg:bp S sa=sb:=by
   rw[Oh];exact pR n1
  rw[eg] at hv;have nx:((S.take (i+1)).filter fun y=>cE y.2 y.1)=((S.take i).filter fun y=>cE y.2 y.1)++if cE sb sa=true then [(sa,sb)] else []:=by
   rw[AK,MC,Ba];simp only[Option.toList_some,By,List.filter_nil]
  refine⟨_,rfl,_,rfl,st,kvs,wk sa,v,rfl,hD.mono s3,eQ Oo,ev,_,rfl,2,cE sb sa,by rw[pM];exact pI hv Oo,by decide,_,rfl, ?_⟩;rw[nx];cases hb:cE sb sa with
  |false=>exact bM ⟨s3,vs,KR,by simpa using vl⟩
  |true=>
   have hl:((S.take i).filter fun y=>cE y.2 y.1).length<=1000:=by
    have:=Bl (fun y:Pc×Pc=>cE y.2 y.1) (S.take i);rw[AS] at this;lia
   refine dy ⟨_,rfl,acc,vs,_,rfl,rfl,KR,ay (by rw[vl.length,A1,A1];exact hl),s3.put na,_,al, ?_⟩;have tu:av H3 (upd H3 acc (.lst (vs++[x]))):=av.upd KR;rw[A7 rfl,A6,A6];exact(dX tu vl).append (ak (cp tu Oo) ao)
 .rintro H3 ⟨s3,vs,KR,vl⟩;rw[OM,<-sl,AF] at vl;refine⟨_,_,rfl, .inl (aB KR vl), ?_⟩;rw[A1,A1];exact kk H3 (s1.trans s3)
 .rintro σ H R R' k ⟨v1,e1,v2,e2,a,kvs,ks,v,e3,dn,is,ev,v4,e4,d,e,r,hd,b,e6,h⟩;exact⟨v1,e1,v2,e2,a,kvs,ks,v,e3,dn,is,ev,v4,e4,d,e,r,hd,b,e6,k _ _ h⟩
 .rintro σ H R R' k ⟨v1,e1,h⟩;exact⟨v1,e1,k _ _ h⟩
theorem Kw:OKQ T.X24 P w base 3 (spThr P w):=by
 refine FbO T.X24 gY fun _ _ _ _ H vs Q E hr h=> ?_;obtain⟨v,cs,rfl,hv,⟨hB,hL,hN⟩,kk⟩:=h;refine⟨_,(ai (pSA (i:=1) gY.nd mW)
  (ai (pSA (i:=2) gY.nd (aM af))
  (ai (aA AD rfl (aP (pv 0)) (pGA (i:=3) gY.nd) (ai (pSA (i:=4) gY.nd (pcq (xv T) hr T.X23 (ab (pv 3) af)))
  (ai (aA AD rfl (aP (pv 4)) (pGA (i:=5) gY.nd) (aj (j6 (c7 hr) (pv 1) (pv 5) jE rfl)))
  (aj (aW (aQ cI (bm gK (by rfl) T.n_len DL (ab (pv 3) af)) ag (aI _)) (ai (aO (bG AU Ah Ag ck (pv 2) (ab (bf (ab (ax dD (pv 4) ag (fun _ _=>rfl)) (ab (ax dD (pv 4) ag (fun _ _=>rfl)) af))) af)))
  (aj (aO (bG AU Ah Ag ck (pv 2) (ab (bf (ab (ax dD (pv 4) ag (fun _ _=>rfl)) (ab (ax dD (pv 4) ag (fun _ _=>rfl)) af))) af))))) aX)))))
  (aj (ap (pcq (xw T) hr T.X8 (ab (iJ (FA rfl) (by rfl) T.n_list boot_list (ab (pv 1) af)) (ab (pv 2) af)))))))), ?_⟩
 intro kn H0 nkn hD0 k0;have b0:ae H H0:=fun b o e=>by rw[k0 b (by rintro rfl;rw[nkn] at e;cases e)];exact e
 refine⟨AL _,fun fa H1 nfa s1 hfa=> ?_⟩;have s01:=b0.trans s1;obtain⟨ca,Nb,rfl,hca,Oc⟩:=az hv;have Nc:Nb.length=cs.length:=by rw[Oc.length,A1]
 refine⟨_,rfl,ca,rfl,⟨_,SqL.of (s01 _ _ hca)⟩,aY (xs:=Nb) (fun i σ H2=>(∃v3 v4 v5,σ=[some (.ref ca),some (.ref kn),some (.ref fa),v3,v4,v5])/\ae H H2/\DN P w H2 kn (trK (bF [] ((cs.take i).flatMap aL)))/\∃LS,H2 fa=some (.lst LS)/\Iss H2 (((cs.take i).flatMap cC).map ppD) LS) ⟨⟨none,none,none,rfl⟩,s01,hD0.mono s1,[],hfa,ao⟩ (fun i σ H1 _ h=>SqL.of (h.2.1 _ _ hca)) ?_ ?_⟩
 .rintro i y σ H2 hi ⟨⟨v3,v4,v5,rfl⟩,s2,MA,LS,Od,M7⟩;obtain⟨c,hc,hy⟩:=aH Oc hi;have il:i<cs.length:=(A8.mp hc).1;have cok:=hB c (AH hc);have nfaH:H fa=none:=b0.free nfa;refine⟨_,rfl,y,c,rfl,hy.mono s2,cok,fun l H3 s3 nl hl=> ?_⟩;have Lj:=s2.trans s3;obtain⟨_,Lh,e,MD,Mj⟩:=az hl;cases e;have LH:Lh.length=(aL c).length:=by rw[Mj.length,A1]
  have sl4:=jx c;have tk:(cs.take (i+1)).flatMap aL=(cs.take i).flatMap aL++aL c:=by
   rw[AK,hc,Au];simp
  have tkf:(cs.take (i+1)).flatMap cC=(cs.take i).flatMap cC++cC c:=by
   rw[AK,hc,Au];simp
  have dl:(bF [] ((cs.take i).flatMap aL)).length<=400:=by
   have h1:=lp ((cs.take i).flatMap aL) [];have h2:=v0 (cs:=cs.take i) fun c hc=>hB c (Cb hc);rw[AS] at h2;simp only[CB] at h1;lia
  have fl:LS.length<=200:=by
   have h2:=Iv (cs:=cs.take i);rw[AS] at h2;rw[M7.length,A1];lia
  have lfa:l≠fa:=by rintro rfl;rw[Od] at nl;cases nl
  have lkn:l≠kn:=fun z=>by
   obtain⟨_,_,_,_,e⟩:=MA.mono s3;rw[<-z,MD] at e;cases e
  rw[tk,tkf,pU];generalize bF [] ((cs.take i).flatMap aL)=D at MA dl⊢;generalize (cs.take i).flatMap cC=F at M7⊢;have fkn:fa≠kn:=fun z=>by
   obtain⟨_,_,_,_,e⟩:=MA;rw[<-z,Od] at e;cases e
  refine⟨_,rfl,l,rfl,⟨_,SqL.of MD⟩,aY (xs:=Lh) (fun j σ H4=>(∃v5,σ=[some (.ref ca),some (.ref kn),some (.ref fa),some y,some (.ref l),v5])/\ae H H4/\DN P w H4 kn (trK (bF D ((aL c).take j)))/\H4 l=some (.lst Lh)/\Iss H4 ((aL c).map pcD) Lh/\H4 fa=some (.lst LS)/\Iss H4 (F.map ppD) LS) ⟨⟨_,rfl⟩,Lj,MA.mono s3,MD,Mj,s3 _ _ Od,M7.mono s3⟩ (fun j σ H4 _ h=>SqL.of h.2.2.2.1) ?_ ?_⟩
  .rintro j z σ H4 hj ⟨⟨v5,rfl⟩,s4,MS,hl4,Oe,Nx,hf4⟩;obtain⟨sd,hsd,hz⟩:=aH Oe hj;have ll:(bF D ((aL c).take j)).length<=404:=by
    have h1:=lp ((aL c).take j) D;rw[AS] at h1;have:=cok.2;lia
   refine⟨_,rfl,_,rfl,kn,_,wk sd,rfl,MS,eQ hz,ay (by rw[wW];lia),fun H5 hD5 k5=> ?_⟩;have but:But kn H4 H5:=fun c o e n=>by rw[k5 c n];exact e
   have tu:av H4 H5:=(jA MS but).2;rw[Jz] at hD5;rw[AK,hsd];refine⟨⟨_,rfl⟩,But.same s4 nkn but, ?_,(k5 l lkn).trans hl4,dX tu Oe,(k5 fa fkn).trans Nx,iA tu hf4⟩;show DN P w H5 kn (trK (bF D ((aL c).take j++[sd])));rw[Ip];exact hD5
  .rintro σ H4 ⟨⟨v5,rfl⟩,s4,MS,hl4,Oe,Nx,hf4⟩;rw[LH,AF] at MS;have hy4:=hy.mono s4;refine⟨_,rfl,_,_,rfl, .inr hy4,rfl,_,rfl,de (fun e=> ?_) (fun e=> ?_)⟩
   .rw [A1] at e;have e4:c.length=4:=by lia
    obtain⟨a0,a1,a2,a3,es⟩:∃a0 a1 a2 a3,aL c=[a0,a1,a2,a3]:=by
     have:(aL c).length=4:=by lia
     match aL c,this with
     |[a0,a1,a2,a3],_=>exact⟨a0,a1,a2,a3,rfl⟩
    have ef:cC c=[(a0,a2),(a1,a3)]:=by
     unfold cC;rw[A7 e4,es];rfl
    have il4:Is H4 (.l ([a0,a1,a2,a3].map pcD)) (.ref l):=by rw[<-es];exact aB hl4 Oe
    refine⟨_,rfl, .inl ⟨rfl,_,SqL.of Nx⟩,_,rfl,_,0,_,il4,rfl,rfl,fun w0 k0=>⟨_,rfl,_,2,_,il4,rfl,rfl,fun w2 k2=>⟨(zB rfl),fun t H5 nt s5 ht=> ?_⟩⟩⟩;refine⟨fa,LS,_,rfl,rfl,s5 _ _ Nx,ay (by lia), ?_⟩;have tu:av H5 (upd H5 fa (.lst (LS++[.ref t]))):=av.upd (s5 _ _ Nx);have sm6:ae H (upd H5 fa (.lst (LS++[.ref t]))):=(s4.trans s5).put nfaH;have hD6:DN P w (upd H5 fa (.lst (LS++[.ref t]))) kn (trK (bF D (aL c))):=(MS.mono s5).keeps (by rw[ar fkn.symm]) tu;have hf6:Iss (upd H5 fa (.lst (LS++[.ref t]))) ((F++[(a0,a2)]).map ppD) (LS++[.ref t]):=by
     rw[A6];exact(iA tu (hf4.mono s5)).append (ak (lC tu (bd ht (ak (k0.mono s5) (ak (k2.mono s5) ao)))) ao)
    have OZ:Is (upd H5 fa (.lst (LS++[.ref t]))) (.l ([a0,a1,a2,a3].map pcD)) (.ref l):=by
     rw[<-es];exact aB (by rw[ar lfa];exact s5 _ _ hl4) (dX tu (Oe.mono s5))
    have Of:(upd H5 fa (.lst (LS++[.ref t]))) fa=some (.lst (LS++[.ref t])):=al;generalize upd H5 fa (.lst (LS++[.ref t]))=H6 at sm6 hD6 hf6 OZ Of⊢;have fl6:(LS++[V.ref t]).length<=201:=by rw[AA];simp;lia
    generalize LS++[V.ref t]=gvs at hf6 Of fl6;refine⟨_,rfl, .inl ⟨rfl,_,SqL.of Of⟩,_,rfl,_,1,_,OZ,rfl,rfl,fun w1 k1=>⟨_,rfl,_,3,_,OZ,rfl,rfl,fun w3 k3=>⟨(zB rfl),fun t2 H7 nt2 s7 P5=> ?_⟩⟩⟩;refine⟨fa,gvs,_,rfl,rfl,s7 _ _ Of,ay (by lia),⟨_,_,_,rfl⟩,(sm6.trans s7).put nfaH, ?_⟩;have tu:av H7 (upd H7 fa (.lst (gvs++[.ref t2]))):=av.upd (s7 _ _ Of);refine⟨(hD6.mono s7).keeps (by rw[ar fkn.symm]) tu,_,al, ?_⟩;rw[ef,show F++[(a0,a2),(a1,a3)]=(F++[(a0,a2)])++[(a1,a3)] by simp,A6];exact(iA tu (hf6.mono s7)).append (ak (lC tu (bd P5 (ak (k1.mono s7) (ak (k3.mono s7) ao)))) ao)
   .rw [A1] at e;have ef:cC c=[]:=by
     unfold cC;rw[A5 (by lia)]
    rw[ef,B5];exact⟨⟨_,_,_,rfl⟩,s4,MS,LS,Nx,hf4⟩
 .rintro σ H2 ⟨⟨v3,v4,v5,rfl⟩,s2,MA,LS,Od,M7⟩;rw[Nc,AF] at MA M7;have dl:(bF [] (cs.flatMap aL)).length<=400:=by
   have h1:=lp (cs.flatMap aL) [];have h2:=v0 (cs:=cs) hB;simp only[CB] at h1;lia
  refine⟨_,rfl,kn,_,rfl,MA,by rw[wW];lia,fun l H3 nl s3 hl=> ?_⟩;rw[JA] at hl;refine⟨_,rfl,_,_,bF [] (cs.flatMap aL),cs.flatMap cC,rfl,hl,aB (s3 _ _ Od) (M7.mono s3),vZ DQ,by lia,fun x hx=> ?_,fun a H4 kvs s4 na MS g4=>kk a H4 kvs ((s2.trans s3).trans s4) ((s2.trans s3).free na) MS g4⟩;obtain⟨c,hc,hx⟩:=B'.mp hx;obtain⟨m1,m2⟩:=Iw hx;exact⟨lm.mpr (.inr (B'.mpr ⟨c,hc,m1⟩)),lm.mpr (.inr (B'.mpr ⟨c,hc,m2⟩))⟩
theorem xx:OKQ T.X25 P w base 1 spCor:=by
 refine FbO T.X25 Gv fun _ _ _ _ H vs Q E hr h=> ?_;obtain⟨v,cs,rfl,hv,⟨hB,hL,hN⟩,kk⟩:=h;refine⟨_,(aj (ap (cV (XN:=["cutting"]) (sc:=am kc) (N:=["piece"]) (own:=1) (js:=[]) rfl (by ac_nf) rfl rfl (aP (pv 0)) (fun _ _ _ _=>(bK (i:=0) (show List.Nodup (["piece"]:Qt Str) by ac_nf) rfl (Or.inl rfl) (.inr rfl))) (cU (by decide)) (fun _ _ _ _=>(iP (aQ cI (bm gK (by rfl) T.n_len DL (ab (pv 0) af)) ag (aI _)))) (fun _ _ _ _=>(pv 0))))), ?_⟩;obtain⟨ca,Nb,rfl,hca,Oc⟩:=az hv;have Nc:Nb.length=cs.length:=by rw[Oc.length,A1]
 refine⟨_,rfl,ca,rfl,⟨_,SqL.of hca⟩,fun acc na=> ?_⟩;refine dP (xs:=Nb) (own:=1) (js:=[]) (fun i H3=>ae H H3/\∃vs,H3 acc=some (.lst vs)/\Iss H3 ((bo (cs.take i)).map pcD) vs) ⟨ae.new na,[],al,ao⟩ (fun i H3 _ h=>SqL.of (h.1 _ _ hca)) ?_ ?_ cW ?_ ?_
 .rintro i x H3 hi ⟨s3,vs,KR,vl⟩;obtain⟨c,hc,hz⟩:=aH Oc hi;have il:i<cs.length:=(A8.mp hc).1;have Oo:=hz.mono s3;refine⟨_,rfl,_,_,rfl, .inr Oo,rfl,_,rfl,de (fun e=> ?_) (fun e=> ?_)⟩
  .rw [A1] at e;have cl:=pX (cs.take i);rw[AS] at cl;refine⟨_,rfl,acc,vs,_,rfl,rfl,KR,ay (by rw[vl.length,A1];lia),s3.put na,_,al, ?_⟩;have tu:av H3 (upd H3 acc (.lst (vs++[x]))):=av.upd KR;rw[wg hc,A7 (by lia),A6];exact(dX tu vl).append (ak (cp tu Oo) ao)
  .rw [A1] at e;refine⟨s3,vs,KR, ?_⟩;rw[wg hc,A5 (by lia),B5];exact vl
 .rintro H3 ⟨s3,vs,KR,vl⟩;rw[Nc,AF] at vl;exact kk acc H3 s3 na (aB KR vl)
 .rintro σ H R R' k ⟨v1,e1,v2,e2,e3,h3,e4,b,e6,h⟩;exact⟨v1,e1,v2,e2,e3,h3,e4,b,e6,k _ _ h⟩
 .rintro σ H R R' k ⟨v1,e1,h⟩;exact⟨v1,e1,k _ _ h⟩
theorem Kx:OKQ T.X26 P w base 4 spJoi:=by
 refine FbO T.X26 gd fun _ _ _ _ H vs Q E hr h=> ?_;obtain⟨v,cs,rfl,hv,hC,kk⟩:=h;obtain⟨hB,hL,hN⟩:=id hC;refine⟨_,(ai (pSA (i:=1) gd.nd (pcq (Kw T) hr T.X24 (ab (pv 0) af)))
  (ai (pSA (i:=2) gd.nd mW)
  (ai (pSA (i:=3) gd.nd (aM af))
  (ai (aA AD rfl (aP (pcq (xx T) hr T.X25 (ab (pv 0) af))) (pGA (i:=4) gd.nd) (aj (aA AD rfl (aP (pcq (xv T) hr T.X23 (ab (pv 4) af))) (pGA (i:=5) gd.nd) (ai (pSA (i:=6) gd.nd (gT (c7 hr) (pv 1) (pv 5) (fun _ _=>rfl)))
  (aj (aW (qz (Fs (c7 hr) (pv 6) (pv 2)) rfl) (aj (aO (bG AU Ah Ag ck (pv 3) (ab (bf (ab (gT (c7 hr) (pv 2) (pv 6) (fun _ _=>rfl)) (ab (pv 4) af))) af)))) (aj (j6 (c7 hr) (pv 2) (pv 6) (pv 4) rfl))))))))
  (aj (ap (pv 3))))))), ?_⟩
 refine⟨_,rfl,v,cs,rfl,hv,hC,fun th H1 tkv s1 nth hDt gt=> ?_⟩;intro fi H2 nfi hDf k2;have b2:ae H1 H2:=fun b o e=>by rw[k2 b (by rintro rfl;rw[nfi] at e;cases e)];exact e
 have Mk:=s1.trans b2;have nfiH:H fi=none:=s1.free nfi;have tf:th≠fi:=by
  rintro rfl;obtain⟨_,_,_,_,e⟩:=hDt;rw[nfi] at e;cases e
 refine⟨AL _,fun pa H3 npa s3 Pj=> ?_⟩;have Lj:=Mk.trans s3;have npaH:H pa=none:=Mk.free npa;have pf:pa≠fi:=by
  rintro rfl;obtain⟨_,_,_,_,e⟩:=hDf;rw[npa] at e;cases e
 have pt':pa≠th:=by
  rintro rfl;obtain⟨_,_,_,_,e⟩:=hDt.mono b2;rw[npa] at e;cases e
 refine⟨_,rfl,v,cs,rfl,hv.mono Lj,hC,fun cl H4 s4 ncl PD=> ?_⟩;have M5:=Lj.trans s4;obtain⟨_,Nb,e,hcl4,Oc⟩:=az PD;cases e;have Nc:Nb.length=(bo cs).length:=by rw[Oc.length,A1]
 have ncf:cl≠fi:=by
  rintro rfl;obtain⟨_,_,_,_,e⟩:=hDf.mono s3;rw[ncl] at e;cases e
 have ncp:cl≠pa:=by rintro rfl;rw[Pj] at ncl;cases ncl
 have corl:=pX cs;unfold ju joG at kk;generalize hT:gq cs=T' at gt kk;refine⟨cl,rfl,⟨_,SqL.of hcl4⟩,aY (xs:=Nb) (fun i σ H5=>(∃v4 v5 v6,σ=[some v,some (.ref th),some (.ref fi),some (.ref pa),v4,v5,v6])/\ae H H5/\DN P w H5 th tkv/\GR H5 T' tkv/\H5 cl=some (.lst Nb)/\Iss H5 ((bo cs).map pcD) Nb/\(∃NG,DN P w H5 fi NG/\GR H5 (((bo cs).take i).foldl (jo2 T') ([],[])).1 NG)/\∃MF,H5 pa=some (.lst MF)/\Iss H5 ((((bo cs).take i).foldl (jo2 T') ([],[])).2.map ppD) MF) ⟨⟨none,none,none,rfl⟩,M5,((hDt.mono b2).mono s3).mono s4,((gt.ts (av.of_same b2)).ts (av.of_same s3)).ts (av.of_same s4),hcl4,Oc,⟨[],(hDf.mono s3).mono s4, .nil⟩,[],s4 _ _ Pj,ao⟩ (fun i σ H5 _ h=>SqL.of h.2.2.2.2.1) ?_ ?_⟩
 .rintro i y σ H5 hi ⟨⟨v4,v5,v6,rfl⟩,s5,hDt5,gt5,hcl5,Qj,⟨NG,hDf5,gf5⟩,MF,ON,Oa⟩;obtain⟨c,hc,hy⟩:=aH Qj hi;have il:i<(bo cs).length:=(A8.mp hc).1;obtain⟨cm,c3⟩:=we (AH hc);have nx:((bo cs).take (i+1)).foldl (jo2 T') ([],[])=jo2 T' (((bo cs).take i).foldl (jo2 T') ([],[])) c:=by
   rw[AK,hc,Bi];rfl
  have fjl:=wd T' ((bo cs).take i) ([],[]) fun x hx=>by have:=(we (Cb hx)).2;lia
  rw[AS] at fjl;simp only[CB] at fjl;rw[nx];generalize ((bo cs).take i).foldl (jo2 T') ([],[])=FJ at gf5 Oa fjl⊢;refine⟨_,rfl,y,c,rfl,hy,hB c cm,fun sl H6 s6 nsl hsl=> ?_⟩;obtain⟨_,svs,e,hsl6,hsi⟩:=az hsl;cases e;have slen:svs.length=(aL c).length:=by rw[hsi.length,A1]
  have sl3:=jx c;have nsf:sl≠fi:=by
   rintro rfl;obtain⟨_,_,_,_,e⟩:=hDf5;rw[nsl] at e;cases e
  have nsp:sl≠pa:=by rintro rfl;rw[ON] at nsl;cases nsl
  refine⟨sl,rfl,⟨_,SqL.of hsl6⟩,aY (xs:=svs) (fun j σ H7=>(∃v5 v6,σ=[some v,some (.ref th),some (.ref fi),some (.ref pa),some y,v5,v6])/\ae H H7/\DN P w H7 th tkv/\GR H7 T' tkv/\H7 cl=some (.lst Nb)/\Iss H7 ((bo cs).map pcD) Nb/\H7 sl=some (.lst svs)/\Iss H7 ((aL c).map pcD) svs/\Is H7 (pcD c) y/\(∃NG,DN P w H7 fi NG/\GR H7 (((aL c).take j).foldl (jo1 T' c) FJ).1 NG)/\∃MF,H7 pa=some (.lst MF)/\Iss H7 ((((aL c).take j).foldl (jo1 T' c) FJ).2.map ppD) MF) ⟨⟨_,_,rfl⟩,s5.trans s6,hDt5.mono s6,gt5.ts (av.of_same s6),s6 _ _ hcl5,Qj.mono s6,hsl6,hsi,hy.mono s6,⟨NG,hDf5.mono s6,gf5.ts (av.of_same s6)⟩,MF,s6 _ _ ON,Oa.mono s6⟩ (fun j σ H7 _ h=>SqL.of h.2.2.2.2.2.2.1) ?_ ?_⟩
  .rintro j z σ H7 hj ⟨⟨v5,v6,rfl⟩,s7,Og,gt7,OO,OP,Qk,OQ,P6,⟨NG,Ny,gf7⟩,MF,OR,Ql⟩;obtain⟨sd,hsd,hz⟩:=aH OQ hj;have jl:j<(aL c).length:=(A8.mp hsd).1;have nx:((aL c).take (j+1)).foldl (jo1 T' c) FJ=jo1 T' c (((aL c).take j).foldl (jo1 T' c) FJ) sd:=by
    rw[AK,hsd,Bi];rfl
   have fl:=pW T' c ((aL c).take j) FJ;rw[AS] at fl;rw[nx];generalize ((aL c).take j).foldl (jo1 T' c) FJ=GJ at gf7 Ql fl⊢;obtain⟨tv,etv,htv⟩:=gt7.get (k:=sd) (by rw[<-hT];exact Iy cm (AH hsd));have OA:=gf7.has (k:=bp T' sd);have fkl:=gf7.len;have pvl:MF.length=GJ.2.length:=by rw[Ql.length,A1]
   refine⟨_,rfl,_,rfl,th,tkv,wk sd,tv,rfl,Og,eQ hz,etv, ?_⟩;unfold jo1;generalize bp T' sd=tt at htv OA⊢;refine⟨_,rfl,_,rfl,fi,NG,wk tt,rfl,Ny,eQ htv,_,rfl, ?_⟩;rw[OA];cases hb:dr GJ.1 tt with
   |true=>
    obtain⟨fv,efv,hfv⟩:=gf7.get (k:=tt) (jw.mp hb);refine dy ⟨_,rfl, .inl ⟨rfl,_,SqL.of OR⟩,_,rfl,_,rfl,fi,NG,wk tt,fv,rfl,Ny,eQ htv,efv,_,rfl,(zB rfl),fun t H8 nt s8 ht=> ?_⟩;refine⟨pa,MF,_,rfl,rfl,s8 _ _ OR,ay (by lia), ?_⟩;have tu:av H8 (upd H8 pa (.lst (MF++[.ref t]))):=av.upd (s8 _ _ OR);have t78:av H7 (upd H8 pa (.lst (MF++[.ref t]))):=(av.of_same s8).trans tu;refine⟨⟨_,_,rfl⟩,(s7.trans s8).put npaH,(Og.mono s8).keeps (by rw[ar pt'.symm]) tu,gt7.ts t78,by rw[ar ncp];exact s8 _ _ OO,dX t78 OP,by rw[ar nsp];exact s8 _ _ Qk,dX t78 OQ,cp t78 P6,⟨NG,(Ny.mono s8).keeps (by rw[ar pf.symm]) tu,gf7.ts t78⟩,_,al, ?_⟩;rw[A6];exact(iA t78 Ql).append (ak (lC tu (bd ht (ak (hfv.mono s8) (ak (P6.mono s8) ao)))) ao)
   |false=>
    refine bM ⟨_,rfl,_,rfl,_,rfl,fi,NG,wk tt,rfl,Ny,eQ htv,ay (by lia),fun H8 hD8 k8=> ?_⟩;have but:But fi H7 H8:=fun c o e n=>by rw[k8 c n];exact e
    have tu:av H7 H8:=(jA Ny but).2;exact⟨⟨_,_,rfl⟩,But.same s7 nfiH but,DN.but Og Ny but tf,gt7.ts tu,(k8 cl ncf).trans OO,dX tu OP,(k8 sl nsf).trans Qk,dX tu OQ,cp tu P6,⟨_,hD8,(gf7.ts tu).new hb (cp tu P6)⟩,MF,(k8 pa pf).trans OR,iA tu Ql⟩
  .rintro σ H7 ⟨⟨v5,v6,rfl⟩,s7,Og,gt7,OO,OP,Qk,OQ,P6,Pb,Ql⟩;rw[slen,AF] at Pb Ql;exact⟨⟨_,_,_,rfl⟩,s7,Og,gt7,OO,OP,Pb,Ql⟩
 .rintro σ H5 ⟨⟨v4,v5,v6,rfl⟩,s5,hDt5,gt5,hcl5,Qj,Pd,MF,ON,Oa⟩;rw[Nc,AF] at Oa;exact⟨_,rfl,kk pa H5 s5 npaH (aB ON Oa)⟩
theorem Ky:OKQ T.X27 P w base 5 (spInt fun cs=>(k7 cs:Int)):=by
 refine FbO T.X27 Gw fun _ _ _ _ H vs Q E hr h=> ?_;obtain⟨v,cs,rfl,hv,hC,kk⟩:=h;refine⟨_,(aj (ap (pcq (Kv T) hr T.X9 (ab (pcq (xx T) hr T.X25 (ab (pv 0) af)) (ab (pcq (Kx T) hr T.X26 (ab (pv 0) af)) af))))), ?_⟩;refine⟨_,rfl,v,cs,rfl,hv,hC,fun l H1 s1 nl hl=> ?_⟩;refine⟨_,rfl,v,cs,rfl,hv.mono s1,hC,fun j H2 s2 nj hj=> ?_⟩;have cl:=pX cs;have h100:=hC.2.1;exact⟨_,_,bo cs,ju cs,rfl,hl.mono s2,hj,hC.2.2,by lia,IC cs,fun H3 s3=>kk H3 ((s1.trans s2).trans s3)⟩
theorem xz (h:1<=rs.length):cc rs (some 1) none=rs.drop 1:=by
 unfold cc;rw[show(1:Int)=((1:Nat):Int) from rfl,HT.sIx_nat,HT.sIx_none,Nat.min_eq_left h,D4 (by simp)]
theorem xA:∀n:Nat,OKQ T.X18 P w base n (spLv n K)
 |0=>⟨fun vs H Q E h=>by obtain⟨_,_,_,_,_,h,_⟩:=h;lia,fun A outer s H args us vs Q E _ _ _ _ h=>by obtain⟨_,_,_,_,_,h,_⟩:=h;lia⟩
 |n+1=>by
  have ih:=xA n;refine T.X18.F.ok uy (fun vs H Q E h=> ?_) (fun Lb A outer s H vs Q E hr h=> ?_)
  .obtain⟨_,_,_,rfl,_⟩:=h;rfl
  .obtain⟨a,rs,k,rfl,hS,hn,hL,kk⟩:=h;refine⟨_,(ai (aW (aQ fO (pv 1) (bm iK (by rfl) T.n_len DL (ab (pv 0) af)) (aI _)) (aj (ap (jN af))) aX)
   (ai (aW (aQ cI (pv 1) ag (aI _)) (aj (ap (jN (ab (iJ zc (by rfl) T.n_list boot_list (ab (pv 0) af)) af)))) aX)
   (ai (l' (i:=2) uy.nd rfl (by trivial) (.inl rfl) (XN:=["row","k","with_first"]) (sc:=am j') (N:=["rest","row"]) (own:=1) (js:=[0]) rfl (by ac_nf) rfl rfl (aP (fu ih hr (by rfl) T.X18.m T.X18.F.kp T.X18.B .nil fx (ab (dZ fw (pv 0) (dN ag) eT) (ab (pv 1) af)))) (fun _ _ _ _=>(bK (i:=0) (show List.Nodup (["rest","row"]:Qt Str) by ac_nf) rfl (Or.inl rfl) (.inr rfl))) (cU (by decide)) (fun _ _ _ _=>dz) (fun _ _ _ _=>(ah jO (jN (ab (ax (zQ (K:=K) rfl) (pv 1) ag (fun _ _=>rfl)) af)) (pv 0))))
   (aj (ap (ah jO (pv 2) (fu ih hr (by rfl) T.X18.m T.X18.F.kp T.X18.B .nil fx (ab (dZ fw (pv 0) (dN ag) eT) (ab (ah aC (pv 1) ag) af))))))))), ?_⟩
   refine⟨_,rfl,_,rfl,a,_,rfl, .inl hS,_,_,rfl,rfl,_,rfl,bz (fun hk=> ?_) (fun hk=> ?_)⟩
   .refine⟨AL _,fun l nl=> ?_⟩;exact kk l [] _ (ae.new nl) nl al (by rw[pH rs k (by lia)];exact b8.nil)
   refine⟨_,rfl,rfl,_,rfl,de (fun hz=> ?_) (fun hz=> ?_)⟩
   .refine⟨_,rfl,a,_,rfl, .inl hS,fun b nb=> ?_⟩;have sb:ae H (upd H b (.lst rs)):=ae.new nb;refine⟨(zB rfl),fun l nl=> ?_⟩;refine kk l [.ref b] _ (sb.put (sb.free nl)) (sb.free nl) al ?_;have ez:k=0:=by lia
    have e0:lvA rs k=[rs]:=by rw[ez];cases rs<;>rfl
    rw[e0];exact b8.one nb (by rw[ar (bw al nl)];exact al)
   obtain⟨x,rs,rfl⟩:∃x rs',rs=x::rs':=by
    cases rs with
    |nil=>simp at hk;lia
    |cons x rs=>exact⟨x,rs,rfl⟩
   obtain⟨k,rfl⟩:∃k',k=k'+1:=⟨k-1,by lia⟩;simp only[AT] at hn hL;refine⟨_,rfl,1,rfl,a,_,rfl,hS, ?_⟩;rw[xz (by simp)];intro b nb;have sb:ae H (upd H b (.lst ((x::rs).drop 1))):=ae.new nb;refine⟨_,rfl,b,rs,k+1,rfl,SqL.of al,by lia,by lia,fun l1 us H1 s1 nl1 Mv L1=> ?_⟩;have sA:=sb.trans s1;have nl1H:H l1=none:=sb.free nl1;have L1:=L1.mono sb (ae.refl _);clear s1 nl1;refine⟨l1,rfl,⟨_,SqL.of Mv⟩,fun acc na=> ?_⟩;refine dP (xs:=us) (own:=1) (js:=[0]) (fun i H2=>ae H1 H2/\∃vs,H2 acc=some (.lst vs)/\b8 (upd H acc (.lst [])) H2 (((lvA rs (k+1)).take i).map (x:: ·)) vs) ⟨ae.new na,[],al,by simpa using b8.nil⟩ (fun i H2 _ h=>h.1.seq (SqL.of Mv)) ?_ ?_ cW dB ?_
   .rintro i v H2 hi ⟨s2,vs,KR,L2⟩;have hiu:i<us.length:=(A8.mp hi).1;have hiw:i<(lvA rs (k+1)).length:=by rw[<-L1.1];exact hiu
    obtain⟨a1,e1,_,e3⟩:=L1.2 i _ (A2 hiw);rw[hi] at e1;cases e1;have hw:=kU rs (k+1) _ (Cj hiw);have hl:=jp rs (k+1);have hp:2^rs.length<=2^20:=CG (by decide) (by lia);have Lh:vs.length<=i:=by rw[L2.1,A1,AS];lia
    refine eV ?_;refine⟨_,rfl,a,_,_,x,rfl,rfl,(sA.trans s2).seq hS,lP (j:=0) rfl,(zB rfl),fun c nc=> ?_⟩;have sc:ae H2 (upd H2 c (.lst [x])):=ae.new nc;refine⟨_,rfl,c,a1,_,_,rfl,rfl,al,sc _ _ (s2 _ _ e3),by rw[Ay];simp;lia,fun d nd=> ?_⟩;have sd:ae (upd H2 c (.lst [x])) (upd (upd H2 c (.lst [x])) d (.lst ([x]++(lvA rs (k+1))[i]))):=ae.new nd;have hacc2:=sd _ _ (sc _ _ KR);have ndH:H d=none:=(sA.trans s2).free (sc.free nd);have had:d≠acc:=(bw (sc _ _ KR) nd).symm;refine⟨acc,_,_,rfl,rfl,hacc2,by rw[Ay];lia,((s2.trans sc).trans sd).put na,_,al, ?_⟩;rw[AK,A2 hiw,A6];refine b8.append ?_ (b8.one (by rw[ar had];exact ndH) (by rw[ar had,al];rfl));refine⟨L2.1,fun j ws e=> ?_⟩;obtain⟨a3,f1,f2,f3⟩:=L2.2 j ws e;refine⟨a3,f1,f2, ?_⟩;have:a3≠acc:=fun z=>by
     rw[z,al] at f2;cases f2
    rw[ar this];exact sd _ _ (sc _ _ f3)
   .rintro H2 ⟨s2,vs,KR,L2⟩;rw[L1.1,AF] at L2;have sB:=sA.trans s2;refine⟨_,rfl,_,rfl,1,rfl,a,_,rfl,sB.seq hS, ?_⟩;rw[xz (by simp)];intro b2 nb2;have O3:ae H2 (upd H2 b2 (.lst ((x::rs).drop 1))):=ae.new nb2;refine⟨_,rfl,_,_,rfl,rfl, ?_⟩;refine⟨b2,rs,k,by show [V.ref b2,V.int (((k+1:Nat):Int)-1)]=_;rw[show(((k+1:Nat):Int))-1=(k:Int) by lia],SqL.of al,by lia,by lia,fun l2 us2 H3 s3 nl2 Ly L3=> ?_⟩;have sC:=O3.trans s3;have hl1':=jp rs (k+1);have hl2':=jp rs k;have hp:2^rs.length<=2^20:=CG (by decide) (by lia);refine⟨acc,l2,vs,us2,rfl,rfl,sC _ _ KR,Ly,by rw[Ay,L2.1,L3.1,A1];lia,fun q nq=> ?_⟩;have sq:ae H3 (upd H3 q (.lst (vs++us2))):=ae.new nq;refine kk q _ _ ((sB.trans sC).trans sq) ((sB.trans sC).free nq) al ?_;rw[lvA];exact b8.append (L2.mono (ae.new (sA.free na)) (sC.trans sq)) (L3.mono (sB.trans O3) sq)
   .rintro σ H R R' k' ⟨v1,e1,p1,x1,i1,y1,e2,e3,e4,e5,z,hq⟩;refine⟨v1,e1,p1,x1,i1,y1,e2,e3,e4,e5,z,fun c nc=> ?_⟩;obtain⟨v2,f1,l,b,xs,zs,f2,f3,f4,f5,f6,hq⟩:=hq c nc;exact⟨v2,f1,l,b,xs,zs,f2,f3,f4,f5,f6,fun d nd=>k' _ _ (hq d nd)⟩
theorem Kz (h:2<=rs.length):cc rs (some 1) (some (-1))=(rs.drop 1).dropLast:=by
 have e1:HT.sIx rs.length 0 (some 1)=1:=by
  show(if(1:Int)<0 then((1:Int)+(rs.length:Int)).toNat else min (1:Int).toNat rs.length)=1;rw[A5 (by decide)];show min 1 rs.length=1;lia
 have e2:HT.sIx rs.length rs.length (some (-1))=rs.length-1:=by
  show(if(-1:Int)<0 then((-1:Int)+(rs.length:Int)).toNat else min (-1:Int).toNat rs.length)=rs.length-1;rw[A7 (by decide)];lia
 unfold cc;rw[e1,e2,List.dropLast_eq_take,Bs]
theorem xB {H:Hp}{acc:Qo}{zs:Qt V} (ha:H acc=some (.lst zs)):∀{ps:Qt Pt}{vs:Qt V},Iss H (ps.map pt) vs->Iss (hid H acc) (ps.map pt) vs
 |[],_,h=>by rw[bi h];exact ao
 |p::ps,_,h=>by
  obtain⟨u,us,rfl,h1,h2⟩:=aK h;obtain⟨a,rfl,hp⟩:=fA h1;exact ak (eW (by rw[dC (by rintro rfl;rw[ha] at hp;cases hp)];exact hp)) (xB ha h2)
theorem KA {acc c:Qo}{zs:Qt V}{ps:Qt Pt} (ha:H acc=some (.lst zs)) (ne:c≠acc) (h:Is H (pts ps) (.ref c)):Is (hid H acc) (pts ps) (.ref c):=by
 obtain⟨_,ws,e,hc,r⟩:=gI h;cases e;exact aB (by rw[dC ne];exact hc) (xB ha r)
def iC (H:Hp) (Wq:Qt (Qt Pt)) (Z:Qt (Qt V)):Prop:=Wq.length=Z.length/\∀(i:Nat) w,Wq[i]? =some w->∃z,Z[i]? =some z/\Iss H (w.map pt) z
theorem iC.app {Wq W':Qt (Qt Pt)}{Z Z':Qt (Qt V)} (h:iC H Wq Z) (k:iC H W' Z'):iC H (Wq++W') (Z++Z'):=by
 refine⟨by rw[AA,AA,h.1,k.1],fun i w e=> ?_⟩;rcases Bo i Wq.length with q|q
 .rw [Bf q] at e;rw[Bf (by rw[<-h.1];exact q)];exact h.2 i w e
 .rw [BO q] at e;rw[BO (by rw[<-h.1];exact q),<-h.1];exact k.2 _ w e
theorem lF {H:Hp}:∀(row:Qt Pt) (rs:Qt V) (k:Nat),Iss H (row.map pt) rs->iC H (lvA row k) (lvA rs k)
 |row,rs,0,h=>by
  have e1:∀{α:Type} (l:Qt α),lvA l 0=[l]:=fun l=>by cases l<;>rfl
  rw[e1,e1];refine⟨rfl,fun i w e=> ?_⟩
  match i,e with
  |0,e=>cases e;exact⟨rs,rfl,h⟩
  |i+1,e=>simp at e
 |[],rs,k+1,h=>by
  rw[bi h];exact⟨rfl,fun i w e=>by simp[lvA] at e⟩
 |p::row,rs,k+1,h=>by
  obtain⟨u,us,rfl,h1,h2⟩:=aK h;rw[lvA,lvA];refine iC.app ?_ (lF row us k h2);obtain⟨l,g⟩:=lF row us (k+1) h2;refine⟨by rw[A1,A1,l],fun i w e=> ?_⟩;rw[AC] at e;obtain⟨w',hw',rfl⟩:=AR.mp e;obtain⟨z,hz,hi⟩:=g i w' hw';exact⟨u::z,by rw[AC,hz];rfl,ak h1 hi⟩
def KB {k:Nat}{row:Qt Pt}(h:Iss H (row.map pt) rs) (i:Nat) (w:Qt Pt) (e:(lvA row k)[i]? =some w):∃ws,(lvA rs k)[i]? =some ws/\Iss H (w.map pt) ws:=(lF row rs k h).2 i w e
def KC {k:Nat}{row:Qt Pt}(h:Iss H (row.map pt) rs):(lvA rs k).length=(lvA row k).length:=(lF row rs k h).1.symm
theorem KD (h1:1<=d) (h4:d<=4):(ci d)[0]? =some (p0 d):=by
 have:d=1\/d=2\/d=3\/d=4:=by lia
 rcases this with rfl|rfl|rfl|rfl<;>ac_nf
theorem KE (h1:1<=d) (h4:d<=4):atI ((ci d).map pt) (-1)=some (pt (pl d)):=by
 have e:(ci d)[(ci d).length-1]? =some (pl d)/\1<=(ci d).length:=by
  have:d=1\/d=2\/d=3\/d=4:=by lia
  rcases this with rfl|rfl|rfl|rfl<;>ac_nf
 unfold atI ixN;rw[A1,A5 (by decide),A7 (by lia)];show((ci d).map pt)[((-1:Int)+((ci d).length:Int)).toNat]? =some (pt (pl d));rw[show((-1:Int)+((ci d).length:Int)).toNat=(ci d).length-1 by lia,AC,e.1];rfl
theorem KF:OKQ T.X19 P w base 22 spWayP:=by
 refine FbO T.X19 uz fun _ _ _ _ H vs Q E hr h=> ?_;obtain⟨n,k,rfl,hN,h64,k2⟩:=h;refine⟨_,(ai (aO (pcq (wZ T) hr T.X2 (ab (pv 0) (ab (pv 1) af))))
  (ai (pSA (i:=2) uz.nd (pcq (Km T) hr T.X10 (ab (pv 0) af)))
  (aj (ap (bm (mx hr) (by rfl) T.n_sorted boot_sorted (ab (cV (XN:=["d","k","row"]) (sc:=am ka) (N:=["between","row"]) (own:=1) (js:=[2]) rfl (by ac_nf) rfl rfl (aP (pcq (xA T 20) hr T.X18 (ab (dZ fw (pv 2) (dN ag) (dN (fq ft ag))) (ab (pv 1) af)))) (fun _ _ _ _=>(bK (i:=0) (show List.Nodup (["between","row"]:Qt Str) by ac_nf) rfl (Or.inl rfl) (.inr rfl))) (cU (by decide)) (fun _ _ _ _=>dz) (fun _ _ _ _=>(ah df (ah df (aM (ab (ax dD (pv 1) ag (fun _ _=>rfl)) af)) (pv 0)) (aM (ab (ax dD (pv 1) (fq ft ag) (fun _ _=>rfl)) af))))) af)))))), ?_⟩
 have d1:1<=n:=hN.1;have d4:n<=4:=by unfold gp at hN;lia
 refine⟨_,rfl,_,rfl,n,k,rfl,hN, ?_⟩;refine⟨_,rfl,n,rfl,d1,by lia,fun l0 H1 s1 O8 Nt=> ?_⟩;obtain⟨_,rs,e,PU,his⟩:=gI Nt;cases e;have Ld:rs.length=(ci n).length:=by rw[his.length,A1]
 have plen:3<=(ci n).length/\(ci n).length<=15:=by
  have:n=1\/n=2\/n=3\/n=4:=by lia
  rcases this with rfl|rfl|rfl|rfl<;>ac_nf
 refine⟨_,rfl,1,rfl,1,rfl,_,rfl,l0,rs,rfl,SqL.of PU, ?_⟩;rw[Kz (by lia)];intro b nb;have sb:ae H1 (upd H1 b (.lst ((rs.drop 1).dropLast))):=ae.new nb;have N7:((rs.drop 1).dropLast).length=rs.length-2:=by simp;lia
 refine⟨_,rfl,b,_,k,rfl,SqL.of al,by lia,by lia,fun l1 us H2 s2 nl1 Mv L1=> ?_⟩;have mis:Iss H1 ((dq n).map pt) ((rs.drop 1).dropLast):=by
  unfold dq;have:=(his.drop 1);rw[<-List.map_drop] at this;have t2:=this.take ((rs.drop 1).length-1);rw[<-List.map_take] at t2;rw[List.dropLast_eq_take,List.dropLast_eq_take];rw[Bs] at t2⊢;rw[Bs,<-Ld];exact t2
 generalize (rs.drop 1).dropLast=ms at mis N7 sb s2 L1 nl1⊢;have Op:ae H1 H2:=sb.trans s2;have Lis:∀(i:Nat) (w:Qt Pt),(lvA (dq n) k)[i]? =some w->∃a ws,us[i]? =some (.ref a)/\H2 a=some (.lst ws)/\Iss H2 (w.map pt) ws:=fun i w hw=>by
  obtain⟨ws,e1,e2⟩:=KB (k:=k) mis i w hw;obtain⟨a,f1,_,f3⟩:=L1.2 i ws e1;exact⟨a,ws,f1,f3,e2.mono Op⟩
 have Na:us.length=(lvA (dq n) k).length:=by rw[L1.1,KC mis]
 have Qm:(bv n k).length=(lvA (dq n) k).length:=by unfold bv;rw[A1]
 refine⟨l1,rfl,⟨_,SqL.of Mv⟩,fun acc na=> ?_⟩;refine dP (xs:=us) (own:=1) (js:=[2]) (fun i H3=>ae H2 H3/\bV H3 acc (((bv n k).take i).map pts)) ⟨ae.new na,bV.start⟩ (fun i H3 _ h=>SqL.of (h.1 _ _ Mv)) ?_ ?_ cW dB ?_
 .rintro i x H3 hi ⟨s3,vs,KR,Lq⟩;have O6:i<(lvA (dq n) k).length:=by rw[<-Na];exact(A8.mp hi).1
  obtain⟨a1,ws,f1,f2,f3⟩:=Lis i _ (A2 O6);rw[hi] at f1;cases f1;have wl:((lvA (dq n) k)[i]).length<=15:=by
   have:=kU (dq n) k _ (Cj O6);have:(dq n).length<=(ci n).length:=by unfold dq;simp;lia
   lia
  have hrow:Is H3 (pts (ci n)) (.ref l0):=(Nt.mono Op).mono s3;have g0:atI ((ci n).map pt) 0=some (pt (p0 n)):=Dr (j:=0) rfl (KD d1 d4);have gl:atI ((ci n).map pt) (-1)=some (pt (pl n)):=KE d1 d4;refine eV ?_;refine⟨_,rfl,_,0,_,hrow,rfl,g0,fun u hu=>⟨(zB rfl),fun c1 H4 n4 s4 h4=> ?_⟩⟩;refine⟨_,rfl,_,_,aB h4 (ak (hu.mono s4) ao),aB (s4 _ _ (s3 _ _ f2)) ((f3.mono s3).mono s4),Ad (ay (by simp;lia)),fun c2 H5 n5 s5 h5=> ?_⟩;refine⟨_,rfl,1,rfl,_,_,_,(hrow.mono s4).mono s5,rfl,gl,fun u2 Me=>⟨(zB rfl),fun c3 H6 n6 s6 h6=> ?_⟩⟩;refine⟨_,_,h5.mono s6,aB h6 (ak (Me.mono s6) ao),Ad (ay (by simp;lia)),fun c4 H7 n7 s7 h7=> ?_⟩;have s37:ae H3 H7:=((s4.trans s5).trans s6).trans s7;refine⟨acc,vs,_,rfl,rfl,s37 _ _ KR,ay (by rw[Lq.length];simp;lia),(s3.trans s37).put na, ?_⟩;rw[AK,show(bv n k)[i]? =some ([p0 n]++(lvA (dq n) k)[i]++[pl n]) by unfold bv;rw[AC,A2 O6];rfl,A6];have Nl:=s6 _ _ (s5 _ _ (s4 _ _ KR));refine gJ (Lq.mono (cZ s37)) (KA (s7 _ _ Nl) (bw Nl n7).symm ?_);show Is H7 (.l (([p0 n]++(lvA (dq n) k)[i]++[pl n]).map pt)) _;rw[A6,A6];exact h7
 .rintro H3 ⟨s3,g⟩;rw[Na,<-Qm,AF] at g;have Lj:ae H H3:=(s1.trans Op).trans s3;obtain⟨_,vs,e,KR,Lq⟩:=az g.is;cases e;have Mc:vs.length=(bv n k).length:=by rw[Lq.length,A1]
  refine⟨acc,vs,rfl,SqL.of KR,by lia,fun r Ln=> ?_,fun x hx y hy=> ?_,fun p q pp nq=> ?_⟩
  .obtain⟨i,hi,rfl⟩:=B6.mp Ln;obtain⟨w,_,hy⟩:=aH Lq (A2 hi);obtain⟨a,ys,e1,e2,_⟩:=gI hy;exact⟨a,ys,e1,SqL.of e2⟩
  .obtain⟨i,hi,rfl⟩:=B6.mp hx;obtain⟨j,hj,rfl⟩:=B6.mp hy;obtain⟨w1,_,K4⟩:=aH Lq (A2 hi);obtain⟨w2,_,LQ⟩:=aH Lq (A2 hj);exact⟨_,Ea K4 LQ⟩
  .have MI:∀i∈p,i<(bv n k).length:=fun i hi=>by
    have:=Aa.mp (pp.mem_iff.mp hi);lia
   refine k2 (p.map fun i=>(bv n k).getD i []) q _ ?_ (Lj.put (Lj.free nq)) (Lj.free nq) ?_
   .have:=pp.map fun i=>(bv n k).getD i [];have er:(List.range vs.length).map (fun i=>(bv n k).getD i [])=bv n k:=by
     rw[Mc];refine Ck (by simp) fun i h1 h2=> ?_;simp[List.getD,h2]
    rw[er] at this;exact this
   .exact aB al ((pJ [] Lq p MI).mono (ae.new nq))
 .rintro σ H R R' k ⟨v1,e1,xs,i,d,h1,e2,e3,h⟩;refine⟨v1,e1,xs,i,d,h1,e2,e3,fun u hu=> ?_⟩;obtain⟨z,h⟩:=h u hu;refine⟨z,fun p H2 np s2 hp=> ?_⟩;obtain⟨v2,f1,a1,a2,f2,f3,f4,h⟩:=h p H2 np s2 hp;refine⟨v2,f1,a1,a2,f2,f3,f4,fun p H3 np s3 hp=> ?_⟩;obtain⟨v3,g1,i3,g2,xs3,j3,d3,g3,g4,g5,h⟩:=h p H3 np s3 hp;refine⟨v3,g1,i3,g2,xs3,j3,d3,g3,g4,g5,fun u hu=> ?_⟩;obtain⟨z,h⟩:=h u hu;refine⟨z,fun p H4 np s4 hp=> ?_⟩;obtain⟨a1,a2,f2,f3,f4,h⟩:=h p H4 np s4 hp;exact⟨a1,a2,f2,f3,f4,fun p H5 np s5 hp=>k _ _ (h p H5 np s5 hp)⟩
theorem KG:FnOk P w K mg base (CX0) 46 T.f28 T.d28 ["d","k"] spWhoQ:=by
 refine FbO T.X28 i5 fun _ _ _ _ H vs Q E hr h=> ?_;obtain⟨d,k,rfl,hN,h64,hg,kk⟩:=h;refine⟨_,(ai (aO (pcq (wZ T) hr T.X2 (ab (pv 0) (ab (pv 1) af))))
  (ai (pSA (i:=2) i5.nd ag)
  (ai (aA AD rfl (aP (pcq (KF T) hr T.X19 (ab (pv 0) (ab (pv 1) af)))) (pGA (i:=3) i5.nd) (aj (aA AD rfl (aP (pcq (Kr T) hr T.X21 (ab (pv 0) (ab (pv 3) af)))) (pGA (i:=4) i5.nd) (aj (aW (aQ cI (pcq (Ky T) hr T.X27 (ab (pv 4) af)) ag (aI _)) (aj (fM (i:=2) i5.nd rfl (by trivial) (pcq (Kt T) hr T.X22 (ab (pv 4) af)) jJ)) aX)))))
  (aj (ap (pv 2)))))), ?_⟩
 refine⟨_,rfl,_,rfl,d,k,rfl,hN, ?_⟩;have d1:1<=d:=hN.1;have d4:d<=4:=by unfold gp at hN;lia
 refine⟨_,rfl,_,rfl,d,k,rfl,hN,h64,fun S l H3 pS s3 nl hl=> ?_⟩;have hg:∀w∈S,okP d w=true/\∀cs∈b9 d w,Cut cs:=fun w hw=>hg w (pS.mem_iff.mp hw);rw[show dw d (bv d k)=dw d S from(pY (lq d) pS).symm] at kk;clear pS;obtain⟨_,Lh,e,MD,Mj⟩:=az hl;cases e;have LH:Lh.length=S.length:=by rw[Mj.length,A1]
 refine⟨l,rfl,⟨_,SqL.of MD⟩,aY (xs:=Lh) (fun j σ H4=>(∃v3 v4,σ=[some (.int d),some (.int k),some (.int (dw d (S.take j))),v3,v4])/\ae H3 H4) ⟨⟨none,none,rfl⟩,ae.refl _⟩ (fun j σ H4 _ h=>SqL.of (h.2 _ _ MD)) ?_ ?_⟩
 .rintro j y σ H4 hj ⟨⟨v3,v4,rfl⟩,s4⟩;obtain⟨ps,K4,hy⟩:=aH Mj hj;obtain⟨ok,OX⟩:=hg ps (AH K4);have hs:dw d (S.take (j+1))=dw d (S.take j)+lq d ps:=wn (lq d) K4;obtain⟨n,rfl⟩:∃n,n=d:=⟨d,rfl⟩;refine⟨_,rfl,_,rfl,n,y,ps,rfl,d1,d4,hy.mono s4,ok,fun L lc H5 pL s5 nlc hL=> ?_⟩;have hL:=hL.mono bu;have OX:∀cs∈L,Cut cs:=fun cs hc=>OX cs (pL.mem_iff.mp hc);have hs:dw n (S.take (j+1))=dw n (S.take j)+(L.map gr).sum:=by
   rw[hs,pY gr pL];rfl
  rw[hs];obtain⟨_,Nb,e,hc5,Oc⟩:=az hL;cases e;have Nc:Nb.length=L.length:=by rw[Oc.length,A1]
  refine⟨lc,rfl,⟨_,SqL.of hc5⟩,aY (xs:=Nb) (fun i σ H6=>(∃v4,σ=[some (.int n),some (.int k),some (.int (dw n (S.take j)+((L.take i).map gr).sum)),some y,v4])/\ae H5 H6) ⟨⟨v4,by simp⟩,ae.refl _⟩ (fun i σ H6 _ h=>SqL.of (h.2 _ _ hc5)) ?_ ?_⟩
  .rintro i z σ H6 hi ⟨⟨v4,rfl⟩,s6⟩;obtain⟨cs,hcx,hz⟩:=aH Oc hi;have hC:=OX cs (AH hcx);rw[wn gr hcx];refine⟨_,rfl,z,cs,rfl,hz.mono s6,hC,fun H7 s7=>⟨rfl,_,rfl,de (fun e=> ?_) (fun e=> ?_)⟩⟩
   .rw [show gr cs=cB cs from A7 (by have e:(k7 cs:Int)=1:=e;lia)];refine⟨_,rfl,_,rfl,z,cs,rfl,(hz.mono s6).mono s7,hC.1,_,_,rfl,rfl,⟨some z, ?_⟩,s6.trans s7⟩;rw[<-Int.add_assoc];rfl
   .rw [show gr cs=0 from A5 (by have e:¬(k7 cs:Int)=1:=e;lia),Int.add_zero];exact⟨⟨some z,rfl⟩,s6.trans s7⟩
  .rintro σ H6 ⟨⟨v4,rfl⟩,s6⟩;rw[Nc,AF];exact⟨⟨_,_,rfl⟩,(s4.trans s5).trans s6⟩
 .rintro σ H4 ⟨⟨v3,v4,rfl⟩,s4⟩;rw[LH,AF];exact⟨_,rfl,kk H4 (s3.trans s4)⟩
theorem KH:OKQ T.X6 P w base 2 (spSpl K):=by
 refine FbO T.X6 gW fun _ _ _ _ H vs Q E hr h=> ?_;obtain⟨a,d,ws,rfl,hS,d2,d8,hl,hw,kk⟩:=h;refine⟨_,(ai (pSA (i:=2) gW.nd ag)
  (ai (aA AD rfl (dJ (by rfl) T.n_range (ab ag (ab (pv 0) af))) (pGA (i:=3) gW.nd) (ai (pSA (i:=4) gW.nd (ah aC (pv 0) (pv 3)))
  (ai (pSA (i:=5) gW.nd (ah aC (ah aU (pv 4) (pcq (qo T) hr T.X5 (ab (ah aC (ah aU ag (pv 0)) ag) (ab (ah aC (ah aU ag (pv 3)) ag) af)))) (ah aU (pv 3) (pcq (qo T) hr T.X5 (ab (ah aC (ah aU ag (pv 0)) ag) (ab (ah aC (ah aU ag (pv 3)) ag) af))))))
  (aj (fM (i:=2) gW.nd rfl (by trivial) (ah aU (ah aU (ah aU (ah aU (ah aU (ax ee (pv 1) (pv 3) (fun _ _=>rfl)) (ax ee (pv 1) (pv 4) (fun _ _=>rfl))) (pv 3)) (pv 3)) (pv 4)) (pv 5)) jJ)))))
  (aj (ap (pv 2))))), ?_⟩
 refine⟨_,rfl,1,_,rfl,⟨by decide,by decide,by lia,by lia⟩, ?_⟩;have en:((d:Int)-1).toNat=d-1:=by lia
 rw[en];refine cu (lo:=1) (n:=d-1) (fun i σ H2=>(∃v3 v4 v5,σ=[some (.int d),some (.ref a),some (.int (kT d i)),v3,v4,v5])/\H2=H) ⟨⟨none,none,none,rfl⟩,rfl⟩ ?_ ?_
 .rintro i σ H2 hi ⟨⟨v3,v4,v5,rfl⟩,rfl⟩;refine⟨_,rfl,_,rfl,_,_,rfl,rfl, ?_⟩;refine⟨_,rfl,_,rfl,_,_,rfl,rfl, .inl ⟨by decide,by decide⟩,_,_,rfl,rfl,_,rfl,_,_,rfl,rfl, .inl ⟨by decide,by decide⟩,_,_,rfl,rfl,_,_,rfl,by lia,by lia,_,_,rfl,rfl, .inl ⟨by lia,by lia⟩, ?_⟩;refine⟨_,rfl,_,rfl,_,_,rfl,rfl, .inl ⟨by decide,by decide⟩,_,_,rfl,rfl,_,rfl,_,_,rfl,rfl, .inl ⟨by decide,by decide⟩,_,_,rfl,rfl,_,_,rfl,by lia,by lia,_,_,rfl,rfl, .inl ⟨by lia,by lia⟩,_,_,rfl,rfl, ?_⟩;have oc:=HW (n:=d) (m:=i) d8 (by lia);unfold io at oc;refine⟨_,rfl,_,rfl,_,rfl,a,_,_,_,rfl,rfl,hS,p9 hw (by lia) (by lia),_,rfl,_,rfl,a,_,_,_,rfl,rfl,hS,p9 hw (by lia) (by lia),_,_,rfl,rfl, .inl (HX _),_,rfl,_,_,rfl,rfl, .inr ⟨by lia,by lia⟩,_,rfl,_,_,rfl,rfl, .inr ⟨by lia,by lia⟩,_,rfl,_,_,rfl,rfl, .inr ⟨by lia,by lia⟩,_,rfl,_,_,rfl,rfl, .inr oc,_,_,rfl,rfl,⟨_,_,_,rfl⟩,rfl⟩
 .rintro σ H2 ⟨⟨v3,v4,v5,rfl⟩,rfl⟩;rw[<-HU d2 d8] at kk;exact⟨_,rfl,kk⟩
theorem KI:FnOk P w K mg base (CX0) 4 T.f7 T.d7 ["d"] spWhQ:=by
 refine FbO T.X7 nk fun _ _ _ _ H vs Q E hr h=> ?_;obtain⟨d,rfl,i1,i2,kk⟩:=h;refine⟨_,(ai (aO (pcq (gv T) hr T.X1 (ab (pv 0) (ab ag (ab ag af)))))
  (ai (pSA (i:=1) nk.nd (jN (ab ag (ab ag af))))
  (ai (aA AD rfl (dJ (by rfl) T.n_range (ab ag (ab (ah aG (pv 0) ag) af))) (pGA (i:=2) nk.nd) (aj (aO (bG AU Ah Ag ck (pv 1) (ab (pcq (KH T) hr T.X6 (ab (pv 2) (ab (pv 1) af))) af)))))
  (aj (ap (ax ee (pv 1) (pv 0) (fun _ _=>rfl))))))), ?_⟩
 refine⟨_,rfl,(d:Int),1,8,rfl,by lia,by lia, ?_⟩;refine⟨(zB rfl),fun l nl=> ?_⟩;refine⟨_,rfl,_,_,rfl,rfl,2,_,rfl,⟨by decide,by decide,by lia,by lia⟩, ?_⟩;have en:((d:Int)+1-2).toNat=d-1:=by lia
 rw[en];refine cu (lo:=2) (n:=d-1) (fun i σ H2=>(∃v2,σ=[some (.int d),some (.ref l),v2])/\ae H H2/\∃ws:Qt Int,H2 l=some (.lst (ws.map V.int))/\ws.length=i+2/\∀j:Nat,j<i+2->ws[j]? =some (wh j)) ⟨⟨none,rfl⟩,ae.new nl,[0,1],al,rfl,fun j hj=> ?_⟩ ?_ ?_
 .have:j=0\/j=1:=by lia
  rcases this with rfl|rfl<;>rfl
 .rintro i σ H2 hi ⟨⟨v2,rfl⟩,s2,ws,Ly,KS,hw⟩;refine⟨_,rfl, .inl ⟨rfl,_,SqL.of Ly⟩,_,rfl,_,rfl,l,i+2,ws, ?_,SqL.of Ly,by lia,by lia,KS,hw, ?_⟩
  .show [V.int (2+(i:Int)),V.ref l]=[V.int ((i+2:Nat):Int),V.ref l];rw[show(2+(i:Int))=((i+2:Nat):Int) by lia]
  .refine⟨l,ws.map V.int,_,rfl,rfl,Ly,ay (by rw[A1];lia),⟨_,rfl⟩,s2.put nl,ws++[wh ((i+2:Nat):Int)],by rw[al,A6];rfl,by rw[AA,KS];rfl,fun j hj=> ?_⟩;by_cases hj2:j<i+2
   .rw [Bf (by lia)];exact hw j hj2
   .obtain rfl:j=i+2:=by lia
    rw[BO (by lia),KS,Nat.sub_self];rfl
 .rintro σ H2 ⟨⟨v2,rfl⟩,s2,ws,Ly,KS,hw⟩;exact⟨_,rfl,_,rfl,l,_,_,_,rfl,rfl,SqL.of Ly,p9 (d:=d-1+2) hw (by lia) (by lia),kk H2 s2⟩
theorem KJ:OKQ T.X70 P w base 59 (sp_law K):=by
 refine FbO T.X70 jg fun _ _ _ _ H vs Q E hr h=> ?_;obtain⟨a,ns,rfl,hS,hl,kk⟩:=h;refine⟨_,(ai (pSA (i:=1) jg.nd (aM (ab (pcq (JS T) hr T.X68 (ab (pcq (JE T) hr T.X67 (ab (pv 0) (ab ag af))) af)) af)))
  (ai (pSA (i:=2) jg.nd (ah aG ag (pcq (JT T) hr T.X69 (ab (pv 1) (ab ag af)))))
  (ai (pSA (i:=3) jg.nd (ah gz (ah aU (ah aC (pv 2) ag) (ah aC (pv 2) ag)) ag))
  (ai (pSA (i:=4) jg.nd (pcq (KI T) hr T.X7 (ab (pv 2) af)))
  (ai (aW (fL (aQ lL (pcq (JR T) hr T.X45 (ab (pv 2) (ab (pv 3) af))) (pv 4) (aI _)) (gw (aQ lL (pcq (Kj T) hr T.X66 (ab (pv 2) (ab (pv 3) af))) (pv 4) (aI _)))).pt (aj (ap jE)) aX)
  (aj (ap (qA (fP cI (pv 2) ag (aI _)) (jG (fP cI (pcq (KG T) hr T.X28 (ab (pv 2) (ab (pv 3) af))) (pv 4) (aI _))))))))))), ?_⟩
 refine⟨_,rfl,a,ns,0,rfl,hS,by decide,fun x=>⟨x,rfl,fun z z0=>⟨(zB rfl),fun b H1 nb s1 hb=> ?_⟩⟩⟩;refine⟨_,rfl,b,4,z,rfl,hb,z0,by decide,by decide,fun y z1 y0 y1 z10=>⟨_,_,rfl,rfl, ?_⟩⟩;generalize upd H1 b (.lst [.int z1])=H2;obtain⟨d,k,ed,ek,hN⟩:∃d k:Nat,1+y=(d:Int)/\((d:Int)-1)*((d:Int)-2)/2=(k:Int)/\NoH d k:=by
  rcases(show y=0\/y=1\/y=2\/y=3 by lia) with rfl|rfl|rfl|rfl
  .exact⟨1,0,rfl,rfl, .inl ⟨rfl,rfl⟩⟩
  .exact⟨2,0,rfl,rfl, .inr (.inl ⟨rfl,rfl⟩)⟩
  .exact⟨3,1,rfl,rfl, .inr (.inr (.inl ⟨rfl,rfl⟩))⟩
  .exact⟨4,3,rfl,rfl, .inr (.inr (.inr ⟨rfl,rfl⟩))⟩
 have e1:V.int (1+y)=V.int (d:Int):=by rw[ed]
 rw[e1];have d14:1<=d/\d<=4:=by unfold NoH at hN;lia
 refine⟨_,rfl,_,_,rfl,rfl,_,rfl,_,_,rfl,rfl,_,_,rfl,rfl, .inr ⟨by lia,by lia⟩,_,_,rfl,rfl,⟨by decide,by decide⟩, ?_⟩;rw[show V.int (((d:Int)-1)*((d:Int)-2)/2)=V.int (k:Int) by rw[ek]];obtain⟨v1,v2,v3⟩:=v56 hN;refine⟨_,rfl,d,rfl,d14.1,by lia,fun H3 s3=> ?_⟩;refine⟨_,rfl,_,rfl,d,k,rfl,hN,fun H4 s4=> ?_⟩;rw[v1];refine⟨_,rfl,rfl,_,rfl,rk rfl ?_⟩;refine⟨_,rfl,_,rfl,d,k,rfl,by unfold NoH at hN;unfold Wide;lia,fun H5 s5=> ?_⟩;rw[v2];refine⟨_,rfl,rfl,_,rfl,rk rfl ?_⟩;refine⟨_,rfl,rfl, ?_⟩;by_cases e4:d=4
 .exact⟨true,BU V.bl (At (by rw[e4];rfl)),dy (kk _)⟩
 .refine⟨false,BU V.bl (Ae fun h=>e4 (by have:=V.int.inj h;lia)),bM ?_⟩;obtain⟨w1,w2⟩:=IN hN e4;refine⟨_,rfl,_,rfl,d,k,rfl,by unfold NoH at hN;unfold gp;lia,w1,w2,fun H6 s6=> ?_⟩;rw[v3 e4];refine⟨_,rfl,rfl, ?_⟩;show Q (.bl (decide (V.int (wh d)=V.int (wh d)))) H6;rw[show(decide (V.int (wh d)=V.int (wh d)))=true from At rfl];exact kk _
end
theorem fb1 {n:Str}{ps:Qt Str}{d:Qq} (F:Fun K n n st f d) (e:mg n=some (.ref f)) (hp:ps.length=1) (h:∀(kV dc pm:NR) (an:Qw Qo) (cd ct x0:NR),bindArgs (W.fnOf n n (eU st) (dO st) (am st) .none kV dc pm an cd ct) ⟨[x0],[]⟩=pure (ps.zip [x0])):Fb K mg n st ps f d:=by
 refine⟨F,F.binds fun kV dc pm an cd ct us hl=> ?_,e⟩;rw[hp] at hl;rcases us with _|⟨x0,us⟩
 .simp at hl
 rcases us with _|⟨y,us⟩
 .exact h kV dc pm an cd ct x0
 .simp at hl
theorem fb2 {n:Str}{ps:Qt Str}{d:Qq} (F:Fun K n n st f d) (e:mg n=some (.ref f)) (hp:ps.length=2) (h:∀(kV dc pm:NR) (an:Qw Qo) (cd ct x0 x1:NR),bindArgs (W.fnOf n n (eU st) (dO st) (am st) .none kV dc pm an cd ct) ⟨[x0,x1],[]⟩=pure (ps.zip [x0,x1])):Fb K mg n st ps f d:=by
 refine⟨F,F.binds fun kV dc pm an cd ct us hl=> ?_,e⟩;rw[hp] at hl;rcases us with _|⟨x0,us⟩
 .simp at hl
 rcases us with _|⟨x1,us⟩
 .simp at hl
 rcases us with _|⟨y,us⟩
 .exact h kV dc pm an cd ct x0 x1
 .simp at hl
theorem fb3 {n:Str}{ps:Qt Str}{d:Qq} (F:Fun K n n st f d) (e:mg n=some (.ref f)) (hp:ps.length=3) (h:∀(kV dc pm:NR) (an:Qw Qo) (cd ct x0 x1 x2:NR),bindArgs (W.fnOf n n (eU st) (dO st) (am st) .none kV dc pm an cd ct) ⟨[x0,x1,x2],[]⟩=pure (ps.zip [x0,x1,x2])):Fb K mg n st ps f d:=by
 refine⟨F,F.binds fun kV dc pm an cd ct us hl=> ?_,e⟩;rw[hp] at hl;rcases us with _|⟨x0,us⟩
 .simp at hl
 rcases us with _|⟨x1,us⟩
 .simp at hl
 rcases us with _|⟨x2,us⟩
 .simp at hl
 rcases us with _|⟨y,us⟩
 .exact h kV dc pm an cd ct x0 x1 x2
 .simp at hl
theorem fb4 {n:Str}{ps:Qt Str}{d:Qq} (F:Fun K n n st f d) (e:mg n=some (.ref f)) (hp:ps.length=4) (h:∀(kV dc pm:NR) (an:Qw Qo) (cd ct x0 x1 x2 x3:NR),bindArgs (W.fnOf n n (eU st) (dO st) (am st) .none kV dc pm an cd ct) ⟨[x0,x1,x2,x3],[]⟩=pure (ps.zip [x0,x1,x2,x3])):Fb K mg n st ps f d:=by
 refine⟨F,F.binds fun kV dc pm an cd ct us hl=> ?_,e⟩;rw[hp] at hl;rcases us with _|⟨x0,us⟩
 .simp at hl
 rcases us with _|⟨x1,us⟩
 .simp at hl
 rcases us with _|⟨x2,us⟩
 .simp at hl
 rcases us with _|⟨x3,us⟩
 .simp at hl
 rcases us with _|⟨y,us⟩
 .exact h kV dc pm an cd ct x0 x1 x2 x3
 .simp at hl
def Hf (K:W.Frag) (n:Str) (st:Qx) (f:Qo):Prop:=W.nsIn K mainGlobals n=some (some (.ref f))/\∃d,Fun K n n st f d
def KL {n:Str}{od an:Qw Qo}{sl:Array (Qw NR)}{oc kV dc pm cd ct:NR} (a:W.nsIn K mainGlobals n=some (some (.ref f))) (l:K.lookup f=some ⟨oc,od, .func (W.fnOf n n (eU st) (dO st) (am st) .none kV dc pm an cd ct),sl⟩) (c:W.codeIn K cd n=true) (k:W.keepIn K (.ref f)=true):Hf K n st f:=⟨a,_,zo l c k⟩
theorem KM {h:Qv}{fa:Qo} (X:K.In h) (G:h.Ns mainGlobals mg) (hfa:mg "law"=some (.ref fa))
  {f0 f1 f2 f3 f4 f5 f6 f7 f8 f9 f10 f11 f12 f13 f14 f15 f16 f17 f18 f19 f20 f21 f22 f23 f24 f25 f26 f27 f28 f29 f30 f31 f32 f33 f34 f35 f36 f37 f38 f39 f40 f41 f42 f43 f44 f45 f46 f47 f48 f49 f50 f51 f52 f53 f54 f55 f56 f57 f58 f59 f60 f61 f62 f63 f64 f65 f66 f67 f68 f69 f70:Qo}
  (h0:Hf K "is_whole" m5 f0)
  (h1:Hf K "need_between" m6 f1)
  (h2:Hf K "need_narrow" m7 f2)
  (h3:Hf K "need_wide" m8 f3)
  (h4:Hf K "need_degree" m9 f4)
  (h5:Hf K "choose" ng f5)
  (h6:Hf K "split_in_two" nh f6)
  (h7:Hf K "without_holes" ni f7)
  (h8:Hf K "gathered" nu f8)
  (h9:Hf K "how_many_sets" iX f9)
  (h10:Hf K "points" nv f10)
  (h11:Hf K "is_point" ny f11)
  (h12:Hf K "corner" nz f12)
  (h13:Hf K "upper_edge" j9 f13)
  (h14:Hf K "lower_edge" iY f14)
  (h15:Hf K "first_turn" nA f15)
  (h16:Hf K "steps" nB f16)
  (h17:Hf K "piece_worth" nC f17)
  (h18:Hf K "leaving_out" j' f18)
  (h19:Hf K "ways" ka f19)
  (h20:Hf K "manners" nD f20)
  (h21:Hf K "cuttings" nE f21)
  (h22:Hf K "cut_worth" nF f22)
  (h23:Hf K "sides" nG f23)
  (h24:Hf K "threads" nH f24)
  (h25:Hf K "corner_pieces" kc f25)
  (h26:Hf K "joined" nI f26)
  (h27:Hf K "cut_parts" nJ f27)
  (h28:Hf K "whole_by_ways" nL f28)
  (h29:Hf K "ends_at" nM f29)
  (h30:Hf K "sound" nN f30)
  (h31:Hf K "lost" nO f31)
  (h32:Hf K "lifts_from" nP f32)
  (h33:Hf K "leaving" nQ f33)
  (h34:Hf K "with_floor" i8 f34)
  (h35:Hf K "drawings" kf f35)
  (h36:Hf K "parts" kg f36)
  (h37:Hf K "worth" nR f37)
  (h38:Hf K "with_more" nS f38)
  (h39:Hf K "product_of" nT f39)
  (h40:Hf K "need_sound" nU f40)
  (h41:Hf K "end_marks" nV f41)
  (h42:Hf K "put_between" nW f42)
  (h43:Hf K "how_many_orders" nX f43)
  (h44:Hf K "how_many" nY f44)
  (h45:Hf K "whole_by_floors" i9 f45)
  (h46:Hf K "is_row" nZ f46)
  (h47:Hf K "row_weight" ja f47)
  (h48:Hf K "need_rows" og f48)
  (h49:Hf K "filled_up" oh f49)
  (h50:Hf K "rows_within" km f50)
  (h51:Hf K "rows_beyond" oj f51)
  (h52:Hf K "choices" om f52)
  (h53:Hf K "weights_gained" on f53)
  (h54:Hf K "with_one_held" oq f54)
  (h55:Hf K "with_one_degree_fewer" ot f55)
  (h56:Hf K "summands" ou f56)
  (h57:Hf K "counted" ow f57)
  (h58:Hf K "asked_of" ox f58)
  (h59:Hf K "by_ends" oy f59)
  (h60:Hf K "points_through" oz f60)
  (h61:Hf K "count_row" oA f61)
  (h62:Hf K "rows_up_to" oB f62)
  (h63:Hf K "by_degree" oC f63)
  (h64:Hf K "add_products" oD f64)
  (h65:Hf K "wholes_by_degree" oE f65)
  (h66:Hf K "reckoned_whole" oF f66)
  (h67:Hf K "_law_cell_at" oH f67)
  (h68:Hf K "_law_great" oI f68)
  (h69:Hf K "_law_digit" oJ f69)
  (h70:Hf K "law" oK f70)
  (zz:∀n∈["isinstance","int","bool","range","len","abs","list","sorted","min","max","enumerate","sum","tuple","set","zip","dict"],W.nsIn K mainGlobals n=some none)
  {K_LEFT:Tok} (mi_LEFT:W.nsIn K mainGlobals "LEFT"=some (some (.int (1) K_LEFT)))
  {K_RIGHT:Tok} (mi_RIGHT:W.nsIn K mainGlobals "RIGHT"=some (some (.int (-1) K_RIGHT)))
  {A_NARROW:Qo} (da_NARROW:W.nsIn K mainGlobals "NARROW"=some (some (.ref A_NARROW))) (dt_NARROW:gM K A_NARROW [(1,6),(2,6),(3,6),(4,2)]=true)
  {A_WIDE:Qo} (da_WIDE:W.nsIn K mainGlobals "WIDE"=some (some (.ref A_WIDE))) (dt_WIDE:gM K A_WIDE [(1,6),(2,6),(3,6),(4,6),(5,3)]=true)
  {C_NoBound:Qo} (ca_NoBound:W.nsIn K mainGlobals "NoBound"=some (some (.ref C_NoBound)))
  {C_NoDrawing:Qo} (ca_NoDrawing:W.nsIn K mainGlobals "NoDrawing"=some (some (.ref C_NoDrawing)))
  {C_NoEnds:Qo} (ca_NoEnds:W.nsIn K mainGlobals "NoEnds"=some (some (.ref C_NoEnds)))
  (cx_NoBound:W.excIn K C_NoBound bmV "ValueError.__new__"=true) (xc_NoBound:XC K C_NoBound)
  (cx_NoDrawing:W.excIn K C_NoDrawing bmV "ValueError.__new__"=true) (xc_NoDrawing:XC K C_NoDrawing)
  (cx_NoEnds:W.excIn K C_NoEnds bmV "ValueError.__new__"=true) (xc_NoEnds:XC K C_NoEnds)
  :∃fd:Qq,(∀(s:Qn) (v:NR),BindsTo s fd ⟨[v],[]⟩ [("_law_script",v)])/\∀base:Qv,K.In base->base.Ns mainGlobals mg->FnOk l.prog w K mg base CX0 59 fa fd ["_law_script"] (sp_law K):=by
 obtain⟨a0,d0,F0⟩:=h0;obtain⟨a1,d1,F1⟩:=h1;obtain⟨a2,d2,F2⟩:=h2;obtain⟨a3,d3,F3⟩:=h3;obtain⟨a4,d4,F4⟩:=h4;obtain⟨a5,d5,F5⟩:=h5;obtain⟨a6,d6,F6⟩:=h6;obtain⟨a7,d7,F7⟩:=h7;obtain⟨a8,d8,F8⟩:=h8;obtain⟨a9,d9,F9⟩:=h9;obtain⟨a10,d10,F10⟩:=h10;obtain⟨a11,d11,F11⟩:=h11;obtain⟨a12,d12,F12⟩:=h12;obtain⟨a13,d13,F13⟩:=h13;obtain⟨a14,d14,F14⟩:=h14;obtain⟨a15,d15,F15⟩:=h15;obtain⟨a16,d16,F16⟩:=h16;obtain⟨a17,d17,F17⟩:=h17;obtain⟨a18,d18,F18⟩:=h18;obtain⟨a19,d19,F19⟩:=h19;obtain⟨a20,d20,F20⟩:=h20;obtain⟨a21,d21,F21⟩:=h21;obtain⟨a22,d22,F22⟩:=h22;obtain⟨a23,d23,F23⟩:=h23;obtain⟨a24,d24,F24⟩:=h24;obtain⟨a25,d25,F25⟩:=h25;obtain⟨a26,d26,F26⟩:=h26;obtain⟨a27,d27,F27⟩:=h27;obtain⟨a28,d28,F28⟩:=h28;obtain⟨a29,d29,F29⟩:=h29;obtain⟨a30,d30,F30⟩:=h30;obtain⟨a31,d31,F31⟩:=h31;obtain⟨a32,d32,F32⟩:=h32;obtain⟨a33,d33,F33⟩:=h33;obtain⟨a34,d34,F34⟩:=h34;obtain⟨a35,d35,F35⟩:=h35;obtain⟨a36,d36,F36⟩:=h36;obtain⟨a37,d37,F37⟩:=h37;obtain⟨a38,d38,F38⟩:=h38;obtain⟨a39,d39,F39⟩:=h39;obtain⟨a40,d40,F40⟩:=h40;obtain⟨a41,d41,F41⟩:=h41;obtain⟨a42,d42,F42⟩:=h42;obtain⟨a43,d43,F43⟩:=h43;obtain⟨a44,d44,F44⟩:=h44;obtain⟨a45,d45,F45⟩:=h45;obtain⟨a46,d46,F46⟩:=h46;obtain⟨a47,d47,F47⟩:=h47;obtain⟨a48,d48,F48⟩:=h48;obtain⟨a49,d49,F49⟩:=h49;obtain⟨a50,d50,F50⟩:=h50;obtain⟨a51,d51,F51⟩:=h51;obtain⟨a52,d52,F52⟩:=h52;obtain⟨a53,d53,F53⟩:=h53;obtain⟨a54,d54,F54⟩:=h54;obtain⟨a55,d55,F55⟩:=h55;obtain⟨a56,d56,F56⟩:=h56;obtain⟨a57,d57,F57⟩:=h57;obtain⟨a58,d58,F58⟩:=h58;obtain⟨a59,d59,F59⟩:=h59;obtain⟨a60,d60,F60⟩:=h60;obtain⟨a61,d61,F61⟩:=h61;obtain⟨a62,d62,F62⟩:=h62;obtain⟨a63,d63,F63⟩:=h63;obtain⟨a64,d64,F64⟩:=h64;obtain⟨a65,d65,F65⟩:=h65;obtain⟨a66,d66,F66⟩:=h66;obtain⟨a67,d67,F67⟩:=h67;obtain⟨a68,d68,F68⟩:=h68;obtain⟨a69,d69,F69⟩:=h69;obtain⟨a70,d70,F70⟩:=h70;cases hfa.symm.trans (W.mg_of X G a70);have Wq:=F70;obtain⟨_,_,_,_,_,_,_,_,_,rfl,_⟩:=F70.ex;have g {n:Str}{v:NR} (e:W.nsIn K mainGlobals n=some (some v)):mg n=some v:=W.mg_of X G e;exact⟨_,fun s v=> .of_eq rfl,fun base _ _=>KJ (⟨f0,_,f1,_,f2,_,f3,_,f4,_,f5,_,f6,_,f7,_,f8,_,f9,_,f10,_,f11,_,f12,_,f13,_,f14,_,f15,_,f16,_,f17,_,f18,_,f19,_,f20,_,f21,_,f22,_,f23,_,f24,_,f25,_,f26,_,f27,_,f28,_,f29,_,f30,_,f31,_,f32,_,f33,_,f34,_,f35,_,f36,_,f37,_,f38,_,f39,_,f40,_,f41,_,f42,_,f43,_,f44,_,f45,_,f46,_,f47,_,f48,_,f49,_,f50,_,f51,_,f52,_,f53,_,f54,_,f55,_,f56,_,f57,_,f58,_,f59,_,f60,_,f61,_,f62,_,f63,_,f64,_,f65,_,f66,_,f67,_,f68,_,f69,_,fa,_,fb1 F0 (g a0) rfl fun _ _ _ _ _ _ _=>rfl,fb3 F1 (g a1) rfl fun _ _ _ _ _ _ _ _ _=>rfl,fb2 F2 (g a2) rfl fun _ _ _ _ _ _ _ _=>rfl,fb2 F3 (g a3) rfl fun _ _ _ _ _ _ _ _=>rfl,fb1 F4 (g a4) rfl fun _ _ _ _ _ _ _=>rfl,fb2 F5 (g a5) rfl fun _ _ _ _ _ _ _ _=>rfl,fb2 F6 (g a6) rfl fun _ _ _ _ _ _ _ _=>rfl,fb1 F7 (g a7) rfl fun _ _ _ _ _ _ _=>rfl,fb2 F8 (g a8) rfl fun _ _ _ _ _ _ _ _=>rfl,fb2 F9 (g a9) rfl fun _ _ _ _ _ _ _ _=>rfl,fb1 F10 (g a10) rfl fun _ _ _ _ _ _ _=>rfl,fb2 F11 (g a11) rfl fun _ _ _ _ _ _ _ _=>rfl,fb3 F12 (g a12) rfl fun _ _ _ _ _ _ _ _ _=>rfl,fb1 F13 (g a13) rfl fun _ _ _ _ _ _ _=>rfl,fb1 F14 (g a14) rfl fun _ _ _ _ _ _ _=>rfl,fb2 F15 (g a15) rfl fun _ _ _ _ _ _ _ _=>rfl,fb3 F16 (g a16) rfl fun _ _ _ _ _ _ _ _ _=>rfl,fb1 F17 (g a17) rfl fun _ _ _ _ _ _ _=>rfl,fb2 F18 (g a18) rfl fun _ _ _ _ _ _ _ _=>rfl,fb2 F19 (g a19) rfl fun _ _ _ _ _ _ _ _=>rfl,fb4 F20 (g a20) rfl fun _ _ _ _ _ _ _ _ _ _=>rfl,fb2 F21 (g a21) rfl fun _ _ _ _ _ _ _ _=>rfl,fb1 F22 (g a22) rfl fun _ _ _ _ _ _ _=>rfl,fb1 F23 (g a23) rfl fun _ _ _ _ _ _ _=>rfl,fb1 F24 (g a24) rfl fun _ _ _ _ _ _ _=>rfl,fb1 F25 (g a25) rfl fun _ _ _ _ _ _ _=>rfl,fb1 F26 (g a26) rfl fun _ _ _ _ _ _ _=>rfl,fb1 F27 (g a27) rfl fun _ _ _ _ _ _ _=>rfl,fb2 F28 (g a28) rfl fun _ _ _ _ _ _ _ _=>rfl,fb2 F29 (g a29) rfl fun _ _ _ _ _ _ _ _=>rfl,fb2 F30 (g a30) rfl fun _ _ _ _ _ _ _ _=>rfl,fb1 F31 (g a31) rfl fun _ _ _ _ _ _ _=>rfl,fb4 F32 (g a32) rfl fun _ _ _ _ _ _ _ _ _ _=>rfl,fb3 F33 (g a33) rfl fun _ _ _ _ _ _ _ _ _=>rfl,fb4 F34 (g a34) rfl fun _ _ _ _ _ _ _ _ _ _=>rfl,fb2 F35 (g a35) rfl fun _ _ _ _ _ _ _ _=>rfl,fb2 F36 (g a36) rfl fun _ _ _ _ _ _ _ _=>rfl,fb1 F37 (g a37) rfl fun _ _ _ _ _ _ _=>rfl,fb3 F38 (g a38) rfl fun _ _ _ _ _ _ _ _ _=>rfl,fb1 F39 (g a39) rfl fun _ _ _ _ _ _ _=>rfl,fb2 F40 (g a40) rfl fun _ _ _ _ _ _ _ _=>rfl,fb2 F41 (g a41) rfl fun _ _ _ _ _ _ _ _=>rfl,fb4 F42 (g a42) rfl fun _ _ _ _ _ _ _ _ _ _=>rfl,fb2 F43 (g a43) rfl fun _ _ _ _ _ _ _ _=>rfl,fb2 F44 (g a44) rfl fun _ _ _ _ _ _ _ _=>rfl,fb2 F45 (g a45) rfl fun _ _ _ _ _ _ _ _=>rfl,fb1 F46 (g a46) rfl fun _ _ _ _ _ _ _=>rfl,fb1 F47 (g a47) rfl fun _ _ _ _ _ _ _=>rfl,fb3 F48 (g a48) rfl fun _ _ _ _ _ _ _ _ _=>rfl,fb2 F49 (g a49) rfl fun _ _ _ _ _ _ _ _=>rfl,fb1 F50 (g a50) rfl fun _ _ _ _ _ _ _=>rfl,fb3 F51 (g a51) rfl fun _ _ _ _ _ _ _ _ _=>rfl,fb2 F52 (g a52) rfl fun _ _ _ _ _ _ _ _=>rfl,fb2 F53 (g a53) rfl fun _ _ _ _ _ _ _ _=>rfl,fb4 F54 (g a54) rfl fun _ _ _ _ _ _ _ _ _ _=>rfl,fb4 F55 (g a55) rfl fun _ _ _ _ _ _ _ _ _ _=>rfl,fb1 F56 (g a56) rfl fun _ _ _ _ _ _ _=>rfl,fb2 F57 (g a57) rfl fun _ _ _ _ _ _ _ _=>rfl,fb4 F58 (g a58) rfl fun _ _ _ _ _ _ _ _ _ _=>rfl,fb4 F59 (g a59) rfl fun _ _ _ _ _ _ _ _ _ _=>rfl,fb2 F60 (g a60) rfl fun _ _ _ _ _ _ _ _=>rfl,fb2 F61 (g a61) rfl fun _ _ _ _ _ _ _ _=>rfl,fb1 F62 (g a62) rfl fun _ _ _ _ _ _ _=>rfl,fb2 F63 (g a63) rfl fun _ _ _ _ _ _ _ _=>rfl,fb4 F64 (g a64) rfl fun _ _ _ _ _ _ _ _ _ _=>rfl,fb1 F65 (g a65) rfl fun _ _ _ _ _ _ _=>rfl,fb2 F66 (g a66) rfl fun _ _ _ _ _ _ _ _=>rfl,fb2 F67 (g a67) rfl fun _ _ _ _ _ _ _ _=>rfl,fb1 F68 (g a68) rfl fun _ _ _ _ _ _ _=>rfl,fb2 F69 (g a69) rfl fun _ _ _ _ _ _ _ _=>rfl,fb1 Wq (g a70) rfl fun _ _ _ _ _ _ _=>rfl,B1 X G (zz _ (by decide)),B1 X G (zz _ (by decide)),B1 X G (zz _ (by decide)),B1 X G (zz _ (by decide)),B1 X G (zz _ (by decide)),B1 X G (zz _ (by decide)),B1 X G (zz _ (by decide)),B1 X G (zz _ (by decide)),B1 X G (zz _ (by decide)),B1 X G (zz _ (by decide)),B1 X G (zz _ (by decide)),B1 X G (zz _ (by decide)),B1 X G (zz _ (by decide)),B1 X G (zz _ (by decide)),B1 X G (zz _ (by decide)),B1 X G (zz _ (by decide)),K_LEFT,g mi_LEFT,K_RIGHT,g mi_RIGHT,A_NARROW,g da_NARROW,dt_NARROW,A_WIDE,g da_WIDE,dt_WIDE,C_NoBound,g ca_NoBound,C_NoDrawing,g ca_NoDrawing,C_NoEnds,g ca_NoEnds,cx_NoBound,xc_NoBound,cx_NoDrawing,xc_NoDrawing,cx_NoEnds,xc_NoEnds⟩:Fns K mg)⟩
theorem walk {q:Qp}{Mm:Qt Str}{XP:(Str->Qw NR)->Qv->Prop}{YP:Qr->Qv->Prop}{d:DefRec}{K:Params->W.Frag} (hn:l.most=some 63) (hdf:d.params.defaults=[])
  (hY:∀(w:Qr) (h:Qv),YP w h->(K w.params).In h)
  (F:∀(w:Qr) (mg:Str->Qw NR) (fa:Qo) (h:Qv),(K w.params).In h->h.Ns mainGlobals mg->mg d.name=some (.ref fa)->
   ∃fd:Qq,(∀(s:Qn) (u:NR),BindsTo s fd ⟨[u],[]⟩ [("_law_script",u)])/\∀base:Qv,(K w.params).In base->base.Ns mainGlobals mg->FnOk l.prog w (K w.params) mg base CX0 59 fa fd ["_law_script"] (sp_law (K w.params))):
  W.WalkO q Mm XP YP l.row.toRowW d [] (fun f vs=>PySem.call f vs):=
 L2.zn (n:=63) (k:=59) (x:="_law_script") (CX:=fun _=>CX0) (sp:=fun w=>sp_law (K w.params)) hn (by decide) hdf ⟨rfl,by decide,by decide⟩ hY F (fun _ _ a ns hl _ hS=>⟨a,ns,rfl,hS,hl,fun _=>rfl⟩) fun _ _ _ _ _ z=>z
end Mine
open PySem PySem.W PyProof.Rows
set_option genSizeOf false
set_option genInjectivity false
structure PySem.W.Fast:Prop where
 (tw1580760090961073186 tw13457203253073459260 tw13042776623293471810 tw16790589838558439730 tw2608261975012729912 tw7790351495642112193 tw15882738390113247077 tw5285272303189904343 tw8179470190990984675 tw9146366280271848551 tw17484809342931774812 tw3438244508021092005 tw14456428841002424426 tw16605273627557940429 tw15597929861818425175 tw4790499391393005580 tw16599736441367747299 tw13596561481633264060 tw8728164286181233023 tw1518455137869242237 tw6216548136170857400 tw4670710339278674230 tw14202957908429706340 tw3712213874280476170 tw17573044650271598712 tw12439697129180336061 tw3757684317464386259 tw6395114168545992320 tw17274238651002368588 tw11176416282348757059 tw4267520042334744630 tw12718780387198255568 tw13933504605828008587 tw3769849692324262478 tw14108959439806483257 tw14491418594446544577 tw578882225032911314 tw10678698106399185235 tw8780456950580212911 tw6951232562283000785 tw8934386278783679844 tw8698221291752079639 tw1785090367302327707 tw18182472212625645689 tw11039055607834862839 tw9735620811163870764 tw15222709422899402487 tw17382862884783720053 tw15512815526574255227 tw6351180852485979125 tw12174894545056086245 tw10594956979027516116 tw18286495503705080451 tw15626466376776409029 tw14180056608621599 tw4862208833074564922 tw1866774628914681474 tw908824424206716940 tw16587864492487817298 tw16783944424806665024 tw8251135497213366939 tw3975262094969784994 tw11051628215002970941 tw12426424075493621280 tw3608928582049723601 tw16390859737194502973 tw9093984135014745530 tw3304676254208287664 tw7388056736884795312 tw8806256484072747936 tw14765699352562500566 tw4518772511524907610 tw7236429823058336640 tw241813469456307976 tw1666573143722209449 tw9356281923936428 tw14842397145287264049 tw9243442813486554544 tw13555187800427978374 tw17069567930366610253 tw10599283141802412430 tw535967085268806019 tw17137032010253477699 tw1602224000189951519 tw17217882340661982601 tw1531378399015372503 tw4132297857365440512 tw9155434751860839710 tw13618941729448663930 tw8611905707256721614 tw9013687319012193386 tw16712782909766817063 tw12325369615871989282 tw13507301858440275443 tw18317327265251106483 tw2620357412508972999 tw9484235375309081661 tw6079462794509854008 tw16897354083017517512 tw6748015072972509358 tw14843080233602067465 tw14173574343877690875 tw3580018853620039775 tw17083754296171615534 tw5002909365736128613 tw8506033365736402371 tw1299794377966659054 tw4127034468455648951 tw11936301824219349260 tw10291923791242728631 tw7481883998318911441 tw4551746235308522813 tw12692516221295036872 tw10608998665257439367 tw5566297230261490625 tw5390367283504763363 tw7927489133664200985 tw12776929112921420837 tw5569671568239412579 tw12954202328388039955 tw7810359819286878775 tw14724266712587133074 tw16509114538490741041 tw1125234032952753801 tw3295365379794533225 tw6416522172258149246 tw17970640554545770783 tw6867646344793157304 tw14082924524026884089 tw12210070178993855614 tw3507542278062885905 tw16966055338769642866 tw4837304862553757458 tw10069448480475617503 tw12934629526360896581 tw7018035689486727300 tw14961823290294090297 tw11944479299869242856 tw16159461832474226870 tw8301730382460733740 tw3688266235800502113 tw12405378010170665620 tw11840701020465104052 tw8368882407826841263 tw10804436347707371267 tw2404448677931789642 tw9195043535937083480 tw767651897923002988 tw7397917080053208314 tw213308943101122762 tw7227319348266690899 tw7582810831641831895 tw4599564174429133298 tw11965800692455334747 tw10102698628872705863 tw6705733009582502793 tw8631051000346642959 tw10931898048986714398 tw17278116094990377834 tw70312612458830395 tw9235998446658764553 tw18224350385729864785 tw4248528388486611628 tw9466601987510478230 tw11987831659238134888 tw17342155514348409251 tw16224154190982849925 tw10389981232820447741 tw6132261502994715928 tw4816114401383510695 tw11575646513670358150 tw16817935211873144612 tw12526160965503720005 tw4316769889223038313 tw13569286065860881876 tw1115588830096204108 tw3631721319043008360 tw11414496568398990557 tw8854584524650210682 tw6630645914167278572 tw11533205495213987663 tw16808603187367300246 tw16855516334542768904 tw12944105828602303618 tw3999139251302814172 tw8629204932997900255 tw15015188514918584677 tw14320437426257321505 tw8433550800756567488 tw14709832134527040439 tw2054763568666475895 tw10311661831425435095 tw5191312367560473800 tw11085090368363278456 tw6740195083041346901 tw4370814075829517440 tw12085116537203778021 tw13706805068799609633 tw10617571127432566733 tw15548315321878445159 tw5445915123032318217 tw156459797825971468 tw15042838130097904993 tw10273750786630742103 tw3662240786334537082 tw7841479558398974980 tw15273133213784541017 tw7119974807173117766 tw15827810752786051087 tw17957890185836907645 tw12477326031328817653 tw9610168235034787463 tw12135240029349788708 tw6260520910728474393 tw6301758672265033641 tw1590912662913704098 tw5160384596376884278 tw1788200943558352913 tw14957287322340118265 tw13229739545621900336 tw5369087915357172086 tw10656037647012529052 tw13424691874838333161 tw18282962601579220561 tw15309222790394355382 tw11646960460028360591 tw15132187875920790697 tw5891910237932412861 tw12319347223145392675 tw832195277452444971 tw8150316894567980547 tw11607502046281325479 tw3152139796834691216 tw4454284861809596476 tw16321453028634041722 tw732479767945315100 tw906560988429238314 tw7042694345275632094 tw11712454925934694605 tw853307112882942185 tw10467171853397311582 tw10177167073522758870 tw2772798546689772475 tw10784442388824244787 tw16094438638403712131 tw730322431514123246 tw13691791563768020039 tw17290835501292785906 tw10672236446622745140 tw7057220456453681483 tw16109634126943088682 tw977215291785275273 tw423267182519518333 tw18013075076460196319 tw17753583506856733191 tw1412359156526586871 tw2785071529893836429 tw7729791284253685058 tw5138517972564025448 tw11604031539252390929 tw14921526221303768101 tw13144015689853605806 tw17381834905256811453 tw10703936631937845735 tw17577466344408235300 tw1093789801529101923 tw11202520520777356593 tw8413410642032247732 tw3811564450759966827 tw18088063859591715899 tw11483362244249122731 tw15166466959904999866 tw4748894250107187803 tw7826500064197210040 tw17525533701046841897 tw10669807838833897374 tw11047239897236721242 tw11667787039849055415 tw1010979480214903393 tw12156664989929938066 tw1631898922550345184 tw901299610768375842 tw13982427943625706336 tw8153816219985854547 tw9082851298279921978 tw10398072696278815526 tw7997367907770167961 tw3367890236761276099 tw7710837861256459619 tw13849330421490632550 tw3075104073790967352 tw1354787253633940163 tw16503552371560776288 tw485089925586382928 tw1418574695664610867 tw14666331525692362256 tw5909369596793381171 tw12506766660431103015 tw13489525151993899257 tw1299321398968255280 tw4810566473792318691 tw6613877330278034352 tw17615445124345462900 tw4458592461006038 tw7917014120216905094 tw16740739716677422448 tw11686577585944328569 tw9963063937759980289 tw16104012406382138369 tw18310127474936854335 tw16372478065239360932 tw6160702043313789548 tw10915669077937292369 tw3810078362842006746 tw848134807144479353 tw1775059441540998702 tw11059692801025018809 tw15765239747567040126 tw10882578373987816783 tw13057818435941436305 tw1389802333948103960 tw3709080525482228062 tw15600318979634402940 tw17888076950344432158 tw18303745831963570736 tw4218995168154338241 tw4822172599748198482 tw11000365674070502446 tw2508418856394898670 tw646306033291016743 tw4377873039357316275 tw3127527852620430908 tw9267499907575572294 tw8392139980556762192 tw7712322651514027046 tw9372812806555595939 tw1959921671842052072 tw5770776608718372024 tw15015233041163469720 tw11097078679780364972 tw6434393573651735874 tw17810787430973145672 tw17972736168953425642 tw10940735955846768033 tw10663693605893548554 tw15864018047818504182 tw5703647018163764412 tw2871834537278662897 tw4122619064795853128 tw11996495616314513460 tw6035047940656027719 tw8172126328419328825 tw3361133706821349064 tw7894641001760822704 tw2809498192093137950 tw13975069362504765506 tw8515372493749312498 tw16153960680560804014 tw9568434475749507502 tw10209462848334363132 tw3429809842860461086 tw3315653802165195721 tw11171735966235301386 tw4125219160355345396 tw2374224378613326349 tw4670700366107390801 tw9829993590454664049 tw17896482560788572294 tw10702780977843321549 tw16977951042854685586 tw1491602793284439405 tw10056052310268566958 tw2151542805607770094 tw10895409195825445149 tw12973003995624292701 tw15689173024144850039 tw16959556963243674339 tw6360011527010715610 tw3612664429835818447 tw7479441723869713703 tw18151242320053318753 tw9341179526469900505 tw9143213477988959371 tw5487070631917409911 tw7397257382723784047:True)
set_option maxRecDepth 100000 in
set_option maxHeartbeats 0 in
theorem PySem.Challenge.cw_floorcurves_k56_whole_without_holes_holds : PySem.Challenge.rw_floorcurves_k56_whole_without_holes.Holds := by
 w_on; o_law; k_head; (case hw => w_witness2)
 k_fill
 refine Mine.walk (l := PySem.Challenge.rw_floorcurves_k56_whole_without_holes) rfl rfl (fun w h Y => PySem.W.kIn_of Y) ?F
 case F =>
  intro w mg fa h KX G hmg
  refine' Mine.KM KX G hmg ?h0 ?h1 ?h2 ?h3 ?h4 ?h5 ?h6 ?h7 ?h8 ?h9 ?h10 ?h11 ?h12 ?h13 ?h14 ?h15 ?h16 ?h17 ?h18 ?h19 ?h20 ?h21 ?h22 ?h23 ?h24 ?h25 ?h26 ?h27 ?h28 ?h29 ?h30 ?h31 ?h32 ?h33 ?h34 ?h35 ?h36 ?h37 ?h38 ?h39 ?h40 ?h41 ?h42 ?h43 ?h44 ?h45 ?h46 ?h47 ?h48 ?h49 ?h50 ?h51 ?h52 ?h53 ?h54 ?h55 ?h56 ?h57 ?h58 ?h59 ?h60 ?h61 ?h62 ?h63 ?h64 ?h65 ?h66 ?h67 ?h68 ?h69 ?h70 ?zz ?mi_LEFT ?mi_RIGHT ?da_NARROW ?dt_NARROW ?da_WIDE ?dt_WIDE ?ca_NoBound ?ca_NoDrawing ?ca_NoEnds ?cx_NoBound ?xc_NoBound ?cx_NoDrawing ?xc_NoDrawing ?cx_NoEnds ?xc_NoEnds
  (case h0 | h1 | h2 | h3 | h4 | h5 | h6 | h7 | h8 | h9 | h10 | h11 | h12 | h13 | h14 | h15 | h16 | h17 | h18 | h19 | h20 | h21 | h22 | h23 | h24 | h25 | h26 | h27 | h28 | h29 | h30 | h31 | h32 | h33 | h34 | h35 | h36 | h37 | h38 | h39 | h40 | h41 | h42 | h43 | h44 | h45 | h46 | h47 | h48 | h49 | h50 | h51 | h52 | h53 | h54 | h55 | h56 | h57 | h58 | h59 | h60 | h61 | h62 | h63 | h64 | h65 | h66 | h67 | h68 | h69 | h70 => refine' Mine.KL ?a ?l ?c ?k; (case a => k_is); (case l => k_is); (case c => k_is); (case k => k_is))
  (case zz => intro n hn; simp only [List.mem_cons, List.not_mem_nil, or_false] at hn; rcases hn with rfl | rfl | rfl | rfl | rfl | rfl | rfl | rfl | rfl | rfl | rfl | rfl | rfl | rfl | rfl | rfl <;> k_is)
  (case mi_LEFT | mi_RIGHT | da_NARROW | da_WIDE => k_is)
  (case dt_NARROW | dt_WIDE => first | k_is | kit_is | kts_exm | kernel_rfl)
  (case ca_NoBound | ca_NoDrawing | ca_NoEnds | cx_NoBound | cx_NoDrawing | cx_NoEnds => first | k_is | kit_is | kts_exm | kernel_rfl)
  (case xc_NoBound | xc_NoDrawing | xc_NoEnds => constructor <;> first | k_is | kit_is | kts_exm | kernel_rfl)
