import PyProof.Rows.All
import Wide.All
import OpenK.AllK
import Wide.FinOn
import Lean
import PyProof.EqAt
import PyProof.EqKinds
import PyProof.TupleCall
import PySem.Challenge.RW_apartbook_k04_names_times_names
set_option Elab.async false
set_option linter.all false
set_option maxRecDepth 100000
namespace PySem.W.Fast
noncomputable def tw1114115663727299569:=PySem.Challenge.pw_apartbook_k04_names_times_names
theorem te1114115663727299569:PySem.Challenge.pw_apartbook_k04_names_times_names=tw1114115663727299569:=rfl
def tw329491347443371436:=0
def tw11427721106674592577:=0
def tw8255757924211180260:=0
def tw6521891964161272237:=0
def tw7091660564225153327:=0
def tw16592905162470646069:=0
def tw821785786121663746:=0
def tw6847905179684151271:=0
def tw5392817819617316495:=0
def tw9769503934758405969:=0
def tw1976582137016636922:=0
def tw11420498044657521881:=0
def tw15013331539245805644:=0
def tw1987440626882928802:=0
def tw17583301006001161540:=0
def tw17627312035807977374:=0
def tw55387962071027687:=0
def tw8454967721346285435:=0
def tw13663390240865024264:=0
def tw17408803196932098230:=0
def tw5242244925960710978:=0
def tw4320228500881130700:=0
def tw12471508707925865497:=0
def tw3327036595079018796:=0
def tw5253817418608391097:=0
def tw10059829483703402559:=0
def tw14463094850420379470:=0
def tw1016389721670320297:=0
def tw16588987662268614423:=0
def tw2141308650585799684:=0
def tw11828052836618831283:=0
def tw16342466530358172064:=0
def tw132817098628196939:=0
def tw3380099443927077477:=0
def tw8370860365455950807:=0
def tw5528060324428965526:=0
def tw16701646875885338304:=0
def tw12010467935287670845:=0
def tw4493675261179641855:=0
end PySem.W.Fast
set_option compiler.extract_closed false
noncomputable section
abbrev qa:=PySem.Str->Option PySem.Value
abbrev qc:=List (PySem.Addr×PySem.Obj)
abbrev qd:=PySem.Value->PySem.Shared->Prop
abbrev qe:=PySem.Addr->Bool
abbrev qf:=Array (Option PySem.Value)
abbrev qg:=List (PySem.Str×Nat)
abbrev zax.{u}:=@List.getElem?_eq_getElem.{u}
abbrev zay:=@PySem.wpAny_bind
abbrev zaz:=@PySem.Heap.get?_push_of_some
abbrev zav.{u,v}:=@List.length_map.{u,v}
abbrev zaw.{u}:=@List.mem_cons_of_mem.{u}
abbrev zaa.{u}:=@List.mem_cons_self.{u}
abbrev zab:=@PySem.wpAny_pure
abbrev zac:=@Nat.le_refl
abbrev zbx.{u}:=@List.size_toArray.{u}
abbrev zby.{u}:=@Option.some.inj.{u}
abbrev zbz:=@PySem.Heap.get?_push_size
abbrev zbv:=@PySem.Heap.lt_size
abbrev zbw.{u}:=@List.getElem?_set_ne.{u}
abbrev zba.{u,v}:=@List.getElem?_map.{u,v}
abbrev zbb.{u}:=@List.getElem?_eq_some_iff.{u}
abbrev zbc.{u}:=@List.contains_iff_mem.{u}
abbrev zcx:=@Nat.lt_of_lt_of_le
abbrev zcy.{u}:=@List.mem_append_right.{u}
abbrev zcz.{u}:=@List.getElem?_set_self.{u}
abbrev zcv:=@Nat.ne_of_lt
abbrev zcw:=@Int.emod_nonneg
abbrev zca:=@Int.emod_lt_of_pos
abbrev zcb.{u}:=@List.length_append.{u}
abbrev zcc.{u}:=@List.mem_singleton.{u}
abbrev zdx.{u}:=@List.mem_append.{u}
abbrev zdy:=@Nat.le_trans
open PySem PySem.Spec namespace L2
open PyProof.Rows
abbrev zsE(e:Expr)(es:List Expr)(v:Env):Prop:=starEach (e::es) v=(false,eval e v)::starEach es v
abbrev zbT(p:Pos)(es:List Expr)(v:Env):Prop:=(backTo p (starEach es v)).any (·.1)=false
abbrev Key:=Sum Int Str
def jFq:Key->Value->Bool
 | .inl k,v=>Value.isInt k v
 | .inr x,v=>Value.isStrOf x v
def keyH(w:World):Key->Int
 | .inl k=>hashInt k
 | .inr x=>hashStr w x
def jck:∀ {k:Key} {v:Value},jFq k v=true->(∃ i t,k=Sum.inl i/\v=Value.int i t)\/(∃ x t,k=Sum.inr x/\v=Value.str x t)
 | .inl i,v,h=>by
  obtain⟨t,e⟩:=Value.isInt_shape (k:=i) (v:=v) h;exact .inl ⟨i,t,rfl,e⟩
 | .inr x,v,h=>by
  obtain⟨t,e⟩:=Value.isStrOf_shape (x:=x) (v:=v) h;exact .inr ⟨x,t,rfl,e⟩
def jFr(a b:Int):decide ((Sum.inl a:Key)=Sum.inl b)=(a == b):=by
 by_cases e:a=b
 ·subst e;simp
 ·have h:¬ (Sum.inl a:Key)=Sum.inl b:=fun q=>e (Sum.inl.inj q)
  rw[decide_eq_false h];exact (beq_eq_false_iff_ne.mpr e).symm
def jFu(a b:Str):decide ((Sum.inr a:Key)=Sum.inr b)=decide (a=b):=by
 by_cases e:a=b
 ·subst e;simp
 ·have h:¬ (Sum.inr a:Key)=Sum.inr b:=fun q=>e (Sum.inr.inj q)
  rw[decide_eq_false h,decide_eq_false e]
def jFs(a:Int)(b:Str):decide ((Sum.inl a:Key)=Sum.inr b)=false:=decide_eq_false (fun q=>nomatch q)
def jFt(a:Str)(b:Int):decide ((Sum.inr a:Key)=Sum.inl b)=false:=decide_eq_false (fun q=>nomatch q)
def jqp(prog:Program)(w:World):PySem.KeyKind prog w Key where
 is:=jFq
 hash:=keyH w
 inj:=fun v a b ha hb=>by
  rcases jck ha with ⟨i,t,rfl,rfl⟩|⟨x,t,rfl,rfl⟩
  ·rcases jck hb with ⟨j,u,rfl,e⟩|⟨y,u,rfl,e⟩
   ·injection e with e1 _;rw[e1]
   ·exact nomatch e
  ·rcases jck hb with ⟨j,u,rfl,e⟩|⟨y,u,rfl,e⟩
   ·exact nomatch e
   ·injection e with e1 _;rw[e1]
 byValue:=fun k v h=>by
  rcases jck h with ⟨i,t,rfl,rfl⟩|⟨x,t,rfl,rfl⟩<;>rfl
 pyHash:=fun hv h=>by
  rcases jck hv with ⟨i,t,rfl,rfl⟩|⟨x,t,rfl,rfl⟩
  ·exact wpAny_pyHash_int h
  ·exact wpAny_pyHash_str h
 eqBool:=fun hu hv h=>by
  rcases jck hu with ⟨i,t,rfl,rfl⟩|⟨x,t,rfl,rfl⟩
  ·rcases jck hv with ⟨j,u,rfl,rfl⟩|⟨y,u,rfl,rfl⟩
   ·rw[jFr] at h;exact wpAny_eqBool_int h
   ·rw[jFs] at h;exact SeqAt.EqAt.int_str i t y u _ _ _ _ h
  ·rcases jck hv with ⟨j,u,rfl,rfl⟩|⟨y,u,rfl,rfl⟩
   ·rw[jFt] at h;exact SeqAt.EqAt.str_int x t j u _ _ _ _ h
   ·rw[jFu] at h;exact wpAny_eqBool_str h
 «strs»:=fun k x t v h=>by
  rcases jck h with ⟨i,u,rfl,e⟩|⟨y,u,rfl,e⟩
  ·exact nomatch e
  ·injection e with e1 _
   subst e1;cases v<;>rfl
inductive V where
 | non|bl (b:Bool)|int (i:Int)|str (x:Str)|ref (a:Addr)|ty (n:String)
 deriving DecidableEq
def RelV:V->Value->Prop
 | .non,u=>u=Value.none
 | .bl b,u=>u=Value.bool b
 | .int i,u=>∃ t,u=Value.int i t
 | .str x,u=>∃ t,u=Value.str x t
 | .ref a,u=>u=Value.ref a
 | .ty n,u=>u=Value.type n
abbrev Vals:List V->List Value->Prop:=Paired RelV
def Vals.length{xs:List V}{us:List Value}(r:Vals xs us):xs.length=us.length:=Paired.length r
theorem Vals.get:∀ {xs:List V} {us:List Value} {i:Nat} {x:V},Vals xs us->xs[i]? = some x->∃ u,us[i]? = some u/\RelV x u
 | _,_,_,_,.nil,e=>by simp at e
 | _,_,0,_,.cons r _,e=>by simp at e;subst e;exact⟨_,rfl,r⟩
 | _,_,i+1,x,.cons _ t,e=>by
  obtain⟨u,h1,h2⟩:=Vals.get (i:=i) (x:=x) t (by simpa using e);exact⟨u,by simpa using h1,h2⟩
theorem Vals.append:∀ {xs ys:List V} {us ws:List Value},Vals xs us->Vals ys ws->Vals (xs++ys) (us++ws)
 | _,_,_,_,.nil,s=>s
 | _,_,_,_,.cons r t,s=>.cons r (Vals.append t s)
theorem Vals.take:∀ {xs:List V} {us:List Value} (n:Nat),Vals xs us->Vals (xs.take n) (us.take n)
 | _,_,0,_=>.nil
 | _,_,_+1,.nil=>.nil
 | _,_,n+1,.cons r t=>.cons r (Vals.take n t)
theorem Vals.drop:∀ {xs:List V} {us:List Value} (n:Nat),Vals xs us->Vals (xs.drop n) (us.drop n)
 | _,_,0,r=>r
 | _,_,_+1,.nil=>.nil
 | _,_,n+1,.cons _ t=>Vals.drop n t
def RelO:Option V->Option Value->Prop
 | some v,some u=>RelV v u
 | none,none=>True
 | _,_=>False
def KV{κ:Type}:List (κ×V)->List (κ×Value)->Prop:=Paired fun (p:κ×V) (q:κ×Value)=>p.1=q.1/\RelV p.2 q.2
def kV:Key->V
 | .inl i=>.int i
 | .inr x=>.str x
inductive HO where
  | lst (xs:List V)
  | tup (xs:List V)
  | dK (kvs:List (Key×V))|dT (kvs:List (List Key×V))
  | ins (C dx:Addr) (fs:List (Str×V))
  | own (x:Addr)
  | xd (fs:List (Str×V))
  | met (f x:Addr)
  | rng (lo hi:Int)
  | frz (o:Obj) (u:HO)
  | tbl (ps:Array Value)
  | ext (φ:Heap->Prop)
abbrev Hp:=Addr->Option HO
def upd(H:Hp)(a:Addr)(o:HO):Hp:=fun b=>if b=a then some o else H b
def jam{H:Hp}{a:Addr}{o:HO}:upd H a o a=some o:=by unfold upd;rw[if_pos rfl]
def jaj{H:Hp}{a b:Addr}{o:HO}(h:b≠a):upd H a o b=H b:=by unfold upd;rw[if_neg h]
def jC4{H:Hp}{a b:Addr}{o u:HO}(h:H a=some o)(h':H b=some u)(d:o≠u):a≠b:=by
 intro e;subst e;rw[h] at h';exact d (zby h')
def ja6{H:Hp}{a b:Addr}{o:HO}(h:H a=some o)(h':H b=none):a≠b:=by
 intro e;subst e;rw[h] at h';cases h'
section
variable (P:Program)(w:World)
def ObjOk(H:Hp)(h:Heap)(a:Addr):HO->Prop
 | .lst xs=>xs.length<=sizeLine/\∃ (its:List Value) (n:Nat),Vals xs its/\h.get? a=some { cls:=.type "list",data:=.seq its.toArray n }
 | .tup xs=>xs.length<=sizeLine/\∃ its:List Value,Vals xs its/\IsTup h a its.toArray
 | .dK kvs=>kvs.length<=sizeLine/\(a == sysModules)=false/\∃ vs,KV kvs vs/\h.DictOf (jqp P w) a vs
 | .dT kvs=>kvs.length<=sizeLine/\(a == sysModules)=false/\∃ xs:List (List Key×Addr×Value),
   Paired (fun (p:List Key×V) (q:List Key×Addr×Value)=>p.1=q.1/\H q.2.1=some (.tup (p.1.map kV))/\RelV p.2 q.2.2) kvs xs /\
   ∃ o es ep,h.get? a=some o/\o.ExactDict/\o.data=.dict es ep/\es.toList=xs.map (entryOfKey (tupleKind (jqp P w)))/\(xs.map (·.1)).Nodup
 | .ins C dx fs=>H dx=some (.own a)/\fs.length<=1000/\dx≠a/\h.get? a=some (W.instObj C dx) /\
   ∃ mA,h.Ns1 dx mA/\(∀ f,RelO (fs.lookup f) (mA f))/\PySem.Within mA (fs.map (·.1))
 | .own _=>∃ o,h.get? a=some o
 | .xd fs=>∃ mA,h.Ns1 a mA/\∀ f,RelO (fs.lookup f) (mA f)
 | .rng lo hi=>∃ t u v,h.get? a=some { cls:=.type "range",data:=.fields #[.int lo t,.int hi u,.int 1 v] }
 | .frz o u=>h.get? a=some o/\ObjOk H h a u
 | .tbl ps=>h.get? a=some { cls:=.none,data:=.fields ps }
 | .met f x=>h.get? a=some (W.methodObj (.ref f) (.ref x))
 | .ext φ=>φ h/\(∃ o,h.get? a=some o)/\∀ h1 h2:Heap,φ h1->(∀ o,h1.get? a=some o->h2.get? a=some o)->φ h2
def HOk(H:Hp)(h:Heap):Prop:=∀ a o,H a=some o->ObjOk P w H h a o
end
section
variable {P:Program}{w:World}{H H':Hp}{h h':Heap}{a:Addr}{o:HO}
theorem ObjOk.lt(x:ObjOk P w H h a o):a<h.objs.size:=by
 cases o with
 | lst xs=>obtain⟨_,_,_,_,e⟩:=x;exact zbv e
 | tup xs=>obtain⟨_,_,_,p⟩:=x;exact p.lt
 | dK kvs=>obtain⟨_,_,_,_,o,_,_,e,_⟩:=x;exact zbv e
 | dT kvs=>obtain⟨_,_,_,_,o,_,_,e,_⟩:=x;exact zbv e
 | ins C dx fs=>obtain⟨_,_,_,e,_⟩:=x;exact zbv e
 | own y=>obtain⟨_,e⟩:=x;exact zbv e
 | xd fs=>obtain⟨_,⟨_,_,_,e,_⟩,_⟩:=x;exact zbv e
 | rng lo hi=>obtain⟨_,_,_,e⟩:=x;exact zbv e
 | frz ob u=>obtain⟨e,_⟩:=x;exact zbv e
 | tbl ps=>exact zbv (show h.get? a=some _ from x)
 | met f y=>exact zbv (show h.get? a=some _ from x)
 | ext φ=>obtain⟨_,⟨_,e⟩,_⟩:=x;exact zbv e
theorem Paired.mapP{α β:Type}{F G:α->β->Prop}:∀ {l₁:List α} {l₂:List β},Paired F l₁ l₂->(∀ a b,F a b->G a b)->Paired G l₁ l₂
 | _,_,.nil,_=>.nil
 | _,_,.cons r t,f=>.cons (f _ _ r) (Paired.mapP t f)
def ObjOk.stay(x:ObjOk P w H h a o)(k:∀ b u,(b=a\/H b=some (.own a))->h.get? b=some u->h'.get? b=some u)
  (ho:∀ b,H b=some (.own a)->H' b=some (.own a)) (ht:∀ b xs,H b=some (.tup xs)->H' b=some (.tup xs)):ObjOk P w H' h' a o:=by
 induction o with
 | lst xs=>obtain⟨z,its,n,r,e⟩:=x;exact⟨z,its,n,r,k _ _ (.inl rfl) e⟩
 | tup xs=>obtain⟨z,its,r,ob,e,c⟩:=x;exact⟨z,its,r,ob,k _ _ (.inl rfl) e,c⟩
 | dK kvs=>obtain⟨z,y,vs,r,ob,es,ep,e,c⟩:=x;exact⟨z,y,vs,r,ob,es,ep,k _ _ (.inl rfl) e,c⟩
 | dT kvs =>
  obtain⟨z,y,xs,r,ob,es,ep,e,c⟩:=x;exact⟨z,y,xs,Paired.mapP r fun p q z=>⟨z.1,ht _ _ z.2.1,z.2.2⟩,ob,es,ep,k _ _ (.inl rfl) e,c⟩
 | ins C dx fs =>
  obtain⟨d,z,ne,e,mA,⟨od,es,ep,e2,c⟩,r⟩:=x;exact⟨ho _ d,z,ne,k _ _ (.inl rfl) e,mA,⟨od,es,ep,k _ _ (.inr d) e2,c⟩,r⟩
 | own y=>obtain⟨ob,e⟩:=x;exact⟨ob,k _ _ (.inl rfl) e⟩
 | xd fs=>obtain⟨mA,⟨od,es,ep,e,c⟩,r⟩:=x;exact⟨mA,⟨od,es,ep,k _ _ (.inl rfl) e,c⟩,r⟩
 | rng lo hi=>obtain⟨t,u,v,e⟩:=x;exact⟨t,u,v,k _ _ (.inl rfl) e⟩
 | frz ob u ih=>obtain⟨e,q⟩:=x;exact⟨k _ _ (.inl rfl) e,ih q⟩
 | tbl ps =>
  have e:h.get? a=some { cls:=.none,data:=.fields ps }:=x;show h'.get? a=some { cls:=.none,data:=.fields ps };exact k a _ (.inl rfl) e
 | met f y =>
  have e:h.get? a=some (W.methodObj (.ref f) (.ref y)):=x;show h'.get? a=some (W.methodObj (.ref f) (.ref y));exact k a _ (.inl rfl) e
 | ext φ=>obtain⟨p,⟨o,e⟩,st⟩:=x;exact⟨st _ _ p fun o q=>k _ _ (.inl rfl) q,⟨o,k _ _ (.inl rfl) e⟩,st⟩
def HOk.lt(x:HOk P w H h)(e:H a=some o):a<h.objs.size:=(x a o e).lt
def HOk.fresh(x:HOk P w H h)(e:h.objs.size<=a):H a=none:=by
 cases q:H a with
 | none=>rfl
 | some u=>exact absurd (zcx (x.lt q) e) (Nat.lt_irrefl _)
def HOk.kept(x:HOk P w H h)(k:∀ b u,h.get? b=some u->h'.get? b=some u):HOk P w H h':=fun a o e =>
 (x a o e).stay (fun b u _ q=>k b u q) (fun _ q=>q) fun _ _ q=>q
def HOk.laid(x:HOk P w H h)(k:∀ b u,h.get? b=some u->h'.get? b=some u)(hp:h.objs.size<=a)(new:ObjOk P w (upd H a o) h' a o):HOk P w (upd H a o) h':=fun b u e=>by
 have hn:=x.fresh hp
 by_cases hb:b=a
 ·subst hb;rw[jam] at e;cases e;exact new
 ·rw[jaj hb] at e;exact (x b u e).stay (fun c v _ q=>k c v q) (fun c q=>by rw[jaj (ja6 q hn)];exact q) fun c xs q=>by rw[jaj (ja6 q hn)];exact q
end
def Rd(H:Hp)(a:Addr)(u:HO):Prop:=H a=some u\/∃ o,H a=some (.frz o u)
def Rd.ok{P:Program}{w:World}{H:Hp}{h:Heap}{a:Addr}{u:HO}(r:Rd H a u)(x:HOk P w H h):ObjOk P w H h a u:=by
 rcases r with r|⟨o,r⟩
 ·exact x a u r
 ·obtain⟨_,q⟩:=x a _ r;exact q
def Mut:Option HO->Prop
 | some (.lst _)=>True
 | some (.dK _)=>True
 | some (.dT _)=>True
 | some (.ins _ _ _)=>True
 | some (.ext _)=>True
 | _=>False
section
variable {P:Program}{w:World}{H:Hp}{h h':Heap}{x e:Addr}{o':HO}
def HOk.write(ok:HOk P w H h)(mu:Mut (H x))(he:e=x\/H e=some (.own x))(k:∀ b u,b≠e->h.get? b=some u->h'.get? b=some u)(heo:∃ u,h'.get? e=some u)
  (new:ObjOk P w (upd H x o') h' x o'):HOk P w (upd H x o') h':=fun b u q=>by
 have nown:∀ c y,H c=some (.own y)->c≠x:=fun c y r z=>by subst z;rw[r] at mu;exact mu
 have ntup:∀ c xs,H c=some (.tup xs)->c≠x:=fun c xs r z=>by subst z;rw[r] at mu;exact mu
 by_cases hb:b=x
 ·subst hb;rw[jam] at q;cases q;exact new
 ·rw[jaj hb] at q
  by_cases hbe:b=e
  ·have q':H b=some (.own x):=by
    rcases he with z|z
    ·exact absurd (hbe.trans z) hb
    ·rw[hbe];exact z
   rw[q] at q';cases q'
   obtain⟨v,hv⟩:=heo;exact⟨v,by rw[hbe];exact hv⟩
  ·refine (ok b u q).stay (fun c v hc r=>k c v ?_ r) (fun c r=>by rw[jaj (nown c b r)];exact r) fun c xs r=>by rw[jaj (ntup c xs r)];exact r
   rcases hc with rfl|hc
   ·exact hbe
   ·rintro rfl;rcases he with z|z
    ·exact nown c b hc z
    ·rw[hc] at z;cases z;exact hb rfl
end
structure Un(fs ex:List Addr)(H H':Hp)(h h':Heap):Prop where
 keep:∀ b o,h.get? b=some o->H b=none->b∉fs->b∉ex->h'.get? b=some o
 slot:∀ b o,h.get? b=some o->H b=none->b∈fs->b∉ex->∃ sl,h'.get? b=some { o with slots:=sl }
 free:∀ b o,h.get? b=some o->H b=none->b∉ex->H' b=none
 there:∀ b o,h.get? b=some o->b∉ex->∃ o',h'.get? b=some o'
 tups:∀ b xs,H b=some (.tup xs)->H' b=some (.tup xs)
 frzs:∀ b o u,H b=some (.frz o u)->H' b=some (.frz o u)
 tbls:∀ b ps,H b=some (.tbl ps)->∃ more,H' b=some (.tbl (ps++more))
section
variable {fs ex:List Addr}{H H1:Hp}{h h1 h':Heap}{a x e:Addr}{o:HO}
def Un.any(u:Un fs ex H H1 h h1){b:Addr}{ob:Obj}(q:h.get? b=some ob)(n:H b=none)(hx:b∉ex):∃ sl,h1.get? b=some { ob with slots:=sl }:=by
 by_cases hb:b∈fs
 ·exact u.slot b ob q n hb hx
 ·exact⟨ob.slots,u.keep b ob q n hb hx⟩
def Un.kept(k:∀ b u,h.get? b=some u->h'.get? b=some u):Un fs ex H H h h' :=
 ⟨fun b ob q _ _ _=>k b ob q,fun b ob q _ _ _=>⟨ob.slots,k b ob q⟩,fun _ _ _ n _=>n,fun b ob q _=>⟨ob,k b ob q⟩,fun _ _ q=>q,fun _ _ _ q=>q,fun _ ps q=>⟨#[],by rw[q];simp⟩⟩
def Un.refl:Un fs ex H H h h:=Un.kept fun _ _ q=>q
def Un.laid(k:∀ b u,h.get? b=some u->h'.get? b=some u)(hp:h.objs.size<=a)(hn:H a=none):Un fs ex H (upd H a o) h h' where
 keep:=fun b u q _ _ _=>k b u q
 slot:=fun b u q _ _ _=>⟨u.slots,k b u q⟩
 free:=fun b u q n _=>by rw[jaj (zcv (zcx (zbv q) hp))];exact n
 there:=fun b u q _=>⟨u,k b u q⟩
 tups:=fun b xs q=>by rw[jaj (ja6 q hn)];exact q
 frzs:=fun b u xs q=>by rw[jaj (ja6 q hn)];exact q
 tbls:=fun b ps q=>⟨#[],by rw[jaj (ja6 q hn),q];simp⟩
def Un.write(mu:Mut (H x))(he:e=x\/H e=some (.own x))(k:∀ b u,b≠e->h.get? b=some u->h'.get? b=some u)(heo:∃ u,h'.get? e=some u):Un fs ex H (upd H x o) h h':=by
 have hx:∀ b,H b=none->b≠x:=fun b n z=>by subst z;rw[n] at mu;exact mu
 have hb:∀ b,H b=none->b≠e:=fun b n z=>by
  subst z;rcases he with r|r
  ·exact hx b n r
  ·rw[n] at r;cases r
 have hm:∀ b u,H b=some u->¬ Mut (some u)->b≠x:=fun b u q nm z=>by subst z;rw[q] at mu;exact nm mu
 refine⟨fun b u q n _ _=>k b u (hb b n) q,fun b u q n _ _=>⟨u.slots,k b u (hb b n) q⟩,fun b u q n _=>by rw[jaj (hx b n)];exact n,fun b u q _=>?_,
  fun b xs q=>by rw[jaj (hm b _ q fun z=>z)];exact q,fun b u xs q=>by rw[jaj (hm b _ q fun z=>z)];exact q,fun b ps q=>⟨#[],by rw[jaj (hm b _ q fun z=>z),q];simp⟩⟩
 by_cases hbe:b=e
 ·subst hbe;exact heo
 ·exact⟨u,k b u hbe q⟩
end
def trk(h:Heap)(H:Hp):List Addr:=(List.range h.objs.size).filter fun a=>(H a).isSome
def hidT(h:Heap)(H:Hp):Heap:=W.hideAll h (trk h H)
def ju1(h:Heap)(H:Hp):(hidT h H).objs.size=h.objs.size:=W.hideAll_size _ _
def jyd{h:Heap}{H:Hp}{b:Addr}{o:Obj}(e:h.get? b=some o)(n:H b=none):(hidT h H).get? b=some o :=
 W.hideAll_get _ e fun hm=>by
  have q:(H b).isSome=true:=(List.mem_filter.mp hm).2;rw[n] at q;simp at q
def jC8{h:Heap}{H:Hp}{b:Addr}{o:Obj}(e:(hidT h H).get? b=some o):h.get? b=some o/\H b=none:=by
 have e':h.get? b=some o:=W.of_hideAll (trk h H) e;refine⟨e',?_⟩
 cases q:H b with
 | none=>rfl
 | some x =>
  have hm:b∈trk h H:=List.mem_filter.mpr ⟨List.mem_range.mpr (zbv e'),by simp[q]⟩;have z:(hidT h H).get? b=none:=W.hideAll_none (trk h H) hm;rw[z] at e;cases e
def jBk(g h:Heap)(L:Addr):qc:=(List.range h.objs.size).filterMap fun a=>if a=L\/(g.get? a).isSome=true then none else (h.get? a).map fun o=>(a,o)
def rest(g h:Heap)(L d:Addr):qc:=(jBk g h L).filter fun p=>decide (p.1≠d)
structure Mod(K:W.Frag)(mg:qa)(base:Heap):Prop where
 kin:K.In base
 glob:base.Ns mainGlobals mg
 blt:∃ mb,base.Ns builtinsNs mb/\∀ x:Str,x≠"__name__"->mb x=bootBuiltins x
 nolimit:base.NoLimit
structure Cx where
 prog:Program
 w:World
 K:W.Frag
 mg:qa
 base:Heap
 A:Around
 N:List Str
 s₀:Shared
 Hz:Hp
 env:Env
 outer:List Env
 stack:List Env
 ex:List Addr
 fn:Str->Bool
 calm:Bool
 pn:qc
 xe:qd
def frs(l:List Env):List Addr:=l.filterMap (·.frame)
abbrev Cx.fs(X:Cx):List Addr:=frs X.outer
def Vis(sc:Scope)(x:Str):Prop:=sc.names.lookup x=some .local\/sc.names.lookup x=some .cell\/sc.names.lookup x=some .free
def Loc(sc:Scope)(x:Str):Prop:=sc.names.lookup x=some .local\/sc.names.lookup x=some .cell
def Look(env:Env)(h:Heap)(m:qa)(x:Str)(u:Value):Prop :=
 (env.kindOf x=some .local/\m x=some u)\/((env.kindOf x=some .cell\/env.kindOf x=some .free)/\∃ c,env.cells.lookup x=some c/\h.IsCell c (some u))
structure Cx.Ok(X:Cx):Prop where
 mod:Mod X.K X.mg X.base
 kind:X.env.scope.kind=.function
 glob:X.env.globals=mainGlobals
 blt:X.env.builtins=builtinsNs
 above:X.s₀.heap.objs.size<=X.env.locals
 inj:∀ x y c,X.env.cells.lookup x=some c->X.env.cells.lookup y=some c->x=y
 has:∀ x,(X.env.kindOf x=some .cell\/X.env.kindOf x=some .free)->∃ c,X.env.cells.lookup x=some c
 cab:∀ x c,X.fn x=true->X.env.cells.lookup x=some c->X.s₀.heap.objs.size<=c
 hd:X.calm=true->X.A.handled=none
 frames:X.A.frames=some X.stack
 stk:X.stack=X.outer\/(X.stack=X.env::X.outer/\X.env.frame=some X.env.locals)
 exf:∀ b∈X.ex,b≠X.env.locals/\∀ x c,X.env.cells.lookup x=some c->c≠b
 bs:∀ b o,X.base.get? b=some o->X.s₀.heap.get? b=some o/\X.Hz b=none
 bsz:X.base.objs.size<=X.s₀.heap.objs.size
 noex:∀ b o,X.base.get? b=some o->b∉X.ex
 exfs:∀ b∈X.ex,b∉X.fs
 funs:X.s₀.heap.FunFrames X.base X.outer
 frf:∀ b∈X.fs,X.Hz b=none
structure Inv(X:Cx)(U:qc)(Z:List (Option V))(H:Hp)(s:Shared):Prop where
 ok:X.Ok
 os:s.os=X.s₀.os
 bare:AllBare s.gens
 base:Un X.fs X.ex X.Hz H X.s₀.heap s.heap
 loc:∃ m,s.heap.Ns X.env.locals m/\∀ (i:Nat) (x:Str) (v:V),X.N[i]? = some x->Z[i]? = some (some v)->Vis X.env.scope x->∃ u,RelV v u/\Look X.env s.heap m x u
 cell:∀ x c,X.env.cells.lookup x=some c->∃ v,s.heap.IsCell c v
 free:H X.env.locals=none
 freeC:∀ x c,X.env.cells.lookup x=some c->H c=none
 pin:∀ p∈X.pn++U,s.heap.get? p.1=some p.2/\H p.1=none/\p.1≠X.env.locals/\p.1∉X.fs/\∀ v,p.2.data≠.cell v
 hok:HOk X.prog X.w H s.heap
 len:Z.length=X.N.length
section
variable {X:Cx}{U:qc}{Z:List (Option V)}{H H':Hp}{s:Shared}{h':Heap}
def Cx.Ok.nofr(ok:X.Ok){b:Addr}{o:Obj}(e:X.base.get? b=some o):b∉X.fs:=fun hb=>by
 have:=(ok.funs.mem hb).1;rw[e] at this;cases this
def Inv.bs(I:Inv X U Z H s):∀ b o,X.base.get? b=some o->s.heap.get? b=some o/\H b=none:=fun b o e =>
 ⟨I.base.keep b o (I.ok.bs b o e).1 (I.ok.bs b o e).2 (I.ok.nofr e) (I.ok.noex b o e),I.base.free b o (I.ok.bs b o e).1 (I.ok.bs b o e).2 (I.ok.noex b o e)⟩
def Inv.bk(I:Inv X U Z H s):∀ b o,X.base.get? b=some o->s.heap.get? b=some o:=fun b o e=>(I.bs b o e).1
def Inv.mod(I:Inv X U Z H s):Mod X.K X.mg X.base:=I.ok.mod
def Inv.kIn(I:Inv X U Z H s):X.K.In s.heap:=I.ok.mod.kin.keeps I.bk
def Inv.lt(I:Inv X U Z H s):X.env.locals<s.heap.objs.size:=let ⟨_,hn,_⟩:=I.loc;hn.lt
def Inv.sz(I:Inv X U Z H s):X.s₀.heap.objs.size<=s.heap.objs.size:=zdy I.ok.above (Nat.le_of_lt I.lt)
def Inv.nofs(I:Inv X U Z H s){a:Addr}(h:s.heap.objs.size<=a):a∉X.fs:=fun hb=>by
 obtain⟨_,o,ho,_⟩:=I.ok.funs.mem hb;exact absurd (zcx (zbv ho) (zdy I.sz h)) (Nat.lt_irrefl _)
def Inv.cne(I:Inv X U Z H s):∀ x c,X.env.cells.lookup x=some c->c≠X.env.locals:=fun x c e z=>by
 obtain⟨v,o,ho,hd⟩:=I.cell x c e;obtain⟨m,⟨o',es,ep,ho',hd',_⟩,_⟩:=I.loc;rw[z,ho'] at ho;cases ho;rw[hd'] at hd;cases hd
def Inv.funs(I:Inv X U Z H s):s.heap.FunFrames X.base X.outer:=by
 have all:∀ (l:List Env),(∀ b∈frs l,b∈X.fs)->X.s₀.heap.FunFrames X.base l->s.heap.FunFrames X.base l:=by
  intro l
  induction l with
  | nil=>intro _ _;trivial
  | cons env r ih =>
   intro hs hl;obtain⟨hk,⟨L,o,hf,hn,ho,hd⟩,hr⟩:=hl;have hL:L∈X.fs:=hs L (by unfold frs;rw[List.filterMap_cons,hf];exact zaa);obtain⟨sl,e⟩:=I.base.slot L o ho (I.ok.frf L hL) hL fun z=>I.ok.exfs L z hL
   exact⟨hk,⟨L,_,hf,hn,e,hd⟩,ih (fun b hb=>hs b (by unfold frs;rw[List.filterMap_cons,hf];exact zaw _ hb)) hr⟩
 exact all X.outer (fun _ hb=>hb) I.ok.funs
def Inv.stack(I:Inv X U Z H s):s.heap.FunFrames X.base X.stack:=by
 rcases I.ok.stk with e|⟨e,hf⟩
 ·rw[e];exact I.funs
 ·rw[e];obtain⟨m,hn,_⟩:=I.loc;refine .cons (by rw[I.ok.kind];decide) hf hn ?_ I.funs;exact Heap.get?_none_of_le (zdy I.ok.bsz I.ok.above)
def Inv.stkSub(I:Inv X U Z H s):∀ b∈frs X.stack,b∈X.env.locals::X.fs:=fun b hb=>by
 rcases I.ok.stk with e|⟨e,hf⟩
 ·rw[e] at hb;exact zaw _ hb
 ·rw[e] at hb;unfold frs at hb;rw[List.filterMap_cons,hf] at hb;exact hb
def Inv.stkFree(I:Inv X U Z H s):∀ b∈frs X.stack,H b=none:=fun b hb=>by
 rcases List.mem_cons.mp (I.stkSub b hb) with e|hb
 ·rw[e];exact I.free
 ·obtain⟨_,o,ho,_⟩:=I.ok.funs.mem hb;exact I.base.free b o ho (I.ok.frf b hb) fun z=>I.ok.exfs b z hb
def Inv.step{g':Array GenState}{t':Nat}{d':Drawn}{ch:List Addr}(I:Inv X U Z H s)
  (hch:∀ b∈ch,(b∈X.ex\/X.s₀.heap.objs.size<=b)/\b≠X.env.locals/\(∀ x c,X.env.cells.lookup x=some c->c≠b)/\∀ p∈X.pn++U,p.1≠b)
  (keep:∀ b o,b≠X.env.locals->b∉X.fs->b∉ch->s.heap.get? b=some o->H b=none->h'.get? b=some o)
  (slot:∀ b o,b≠X.env.locals->b∈X.fs->b∉ch->s.heap.get? b=some o->H b=none->∃ sl,h'.get? b=some { o with slots:=sl }) (free:∀ b o,b∉ch->s.heap.get? b=some o->H b=none->H' b=none)
  (there:∀ b o,b∉ch->s.heap.get? b=some o->∃ o',h'.get? b=some o')
  (tups:∀ b xs,H b=some (.tup xs)->H' b=some (.tup xs)) (frzs:∀ b o u,H b=some (.frz o u)->H' b=some (.frz o u)) (tbls:∀ b ps,H b=some (.tbl ps)->∃ more,H' b=some (.tbl (ps++more)))
  (ns:∀ m,s.heap.Ns X.env.locals m->h'.Ns X.env.locals m) (hok:HOk X.prog X.w H' h') (hg:AllBare g') :
  Inv X U Z H' { s with heap:=h',gens:=g',drawn:=d',toks:=t' }:=by
 have neL:∀ b o,X.s₀.heap.get? b=some o->b≠X.env.locals:=fun b o e=>zcv (zcx (zbv e) I.ok.above)
 have neC:∀ b o,X.s₀.heap.get? b=some o->b∉X.ex->b∉ch:=fun b o e hx hb=>by
  rcases (hch b hb).1 with z|z
  ·exact hx z
  ·exact absurd (zcx (zbv e) z) (Nat.lt_irrefl _)
 have cellK:∀ x c,X.env.cells.lookup x=some c->∀ v,s.heap.IsCell c v->h'.IsCell c v:=fun x c e v ⟨o,ho,hd⟩=>by
  have nch:c∉ch:=fun z=>(hch c z).2.2.1 x c e rfl
  by_cases hc:c∈X.fs
  ·obtain⟨sl,q⟩:=slot c o (I.cne x c e) hc nch ho (I.freeC x c e);exact⟨_,q,hd⟩
  ·exact⟨o,keep c o (I.cne x c e) hc nch ho (I.freeC x c e),hd⟩
 refine⟨I.ok,I.os,hg,⟨fun b o e n hb hx=>?_,fun b o e n hb hx=>?_,fun b o e n hx=>?_,fun b o e hx=>?_,fun b xs e=>tups b xs (I.base.tups b xs e),fun b o xs e=>frzs b o xs (I.base.frzs b o xs e),fun b ps e=>?_⟩,?_,fun x c e=>?_,?_,fun x c e=>?_,fun p hp=>?_,hok,I.len⟩
 ·exact keep b o (neL b o e) hb (neC b o e hx) (I.base.keep b o e n hb hx) (I.base.free b o e n hx)
 ·obtain⟨sl,e1⟩:=I.base.slot b o e n hb hx;obtain⟨sl',e2⟩:=slot b _ (neL b o e) hb (neC b o e hx) e1 (I.base.free b o e n hx);exact⟨sl',e2⟩
 ·obtain⟨o',e1⟩:=I.base.there b o e hx;exact free b o' (neC b o e hx) e1 (I.base.free b o e n hx)
 ·obtain⟨o',e1⟩:=I.base.there b o e hx;exact there b o' (neC b o e hx) e1
 ·obtain⟨m1,e1⟩:=I.base.tbls b ps e;obtain⟨m2,e2⟩:=tbls b _ e1;exact⟨m1++m2,by rw[e2,Array.append_assoc]⟩
 ·obtain⟨m,hn,hl⟩:=I.loc;refine⟨m,ns m hn,fun i x v e1 e2 e3=>?_⟩;obtain⟨u,r,l⟩:=hl i x v e1 e2 e3;refine⟨u,r,?_⟩;rcases l with l|⟨k,c,e,z⟩
  ·exact .inl l
  ·exact .inr ⟨k,c,e,cellK x c e _ z⟩
 ·obtain⟨v,z⟩:=I.cell x c e;exact⟨v,cellK x c e v z⟩
 ·obtain⟨m,⟨o,_,_,ho,_⟩,_⟩:=I.loc;exact free _ o (fun z=>(hch _ z).2.1 rfl) ho I.free
 ·obtain⟨v,o,ho,hd⟩:=I.cell x c e;exact free c o (fun z=>(hch c z).2.2.1 x c e rfl) ho (I.freeC x c e)
 ·obtain⟨e,n,ne,nf,d⟩:=I.pin p hp;have nch:p.1∉ch:=fun z=>(hch p.1 z).2.2.2 p hp rfl
  exact⟨keep p.1 p.2 ne nf nch e n,free p.1 p.2 nch e n,ne,nf,d⟩
def Inv.un{t':Nat}(I:Inv X U Z H s)(u:Un X.fs [] H H' s.heap h')(hok:HOk X.prog X.w H' h'):Inv X U Z H' { s with heap:=h',toks:=t' }:=by
 obtain⟨m,⟨o,es,ep,ho,r⟩,_⟩:=id I.loc;obtain⟨sl,hL⟩:=u.any ho I.free (by simp);exact I.step (g':=s.gens) (d':=s.drawn) (ch:=[]) (fun _ z=>nomatch z) (fun b o _ hb _ e n=>u.keep b o e n hb (by simp)) (fun b o _ hb _ e n=>u.slot b o e n hb (by simp)) (fun b o _ e n=>u.free b o e n (by simp)) (fun b o _ e=>u.there b o e (by simp)) u.tups u.frzs u.tbls (fun m' hm=>by
  obtain⟨o',es',ep',ho',r'⟩:=hm;rw[ho] at ho';cases ho'
  exact⟨_,es',ep',hL,r'⟩) hok I.bare
def Inv.call{g':Array GenState}{t':Nat}{d':Drawn}{ch:List Addr}(I:Inv X U Z H s)(u:Un (frs X.stack) ch H H' s.heap h')(hok:HOk X.prog X.w H' h')(hg:AllBare g')
  (hch:∀ b∈ch,(b∈X.ex\/X.s₀.heap.objs.size<=b)/\b≠X.env.locals/\(∀ x c,X.env.cells.lookup x=some c->c≠b)/\∀ p∈X.pn++U,p.1≠b) :
  Inv X U Z H' { s with heap:=h',gens:=g',drawn:=d',toks:=t' }:=by
 obtain⟨m,⟨o,es,ep,ho,r⟩,_⟩:=id I.loc;obtain⟨sl,hL⟩:=u.any ho I.free fun z=>(hch _ z).2.1 rfl
 exact I.step (ch:=ch) hch (fun b o hL hb hc e n=>u.keep b o e n (fun z=>(List.mem_cons.mp (I.stkSub b z)).elim hL hb) hc) (fun b o _ _ hc e n=>u.any e n hc) (fun b o hc e n=>u.free b o e n hc) (fun b o hc e=>u.there b o e hc) u.tups u.frzs u.tbls (fun m' hm=>by
  obtain⟨o',es',ep',ho',r'⟩:=hm;rw[ho] at ho';cases ho'
  exact⟨_,es',ep',hL,r'⟩) hok hg
def Inv.turned{t':Nat}{it:Addr}(I:Inv X U Z H s)(k:∀ b o,b≠it->s.heap.get? b=some o->h'.get? b=some o)(hn:H it=none)(hL:it≠X.env.locals)
  (h1:it∈X.ex\/X.s₀.heap.objs.size<=it) (h2:∀ x c,X.env.cells.lookup x=some c->c≠it) (h3:∀ p∈X.pn++U,p.1≠it):Inv X U Z H { s with heap:=h',toks:=t' }:=by
 have nit:∀ b u,H b=some u->b≠it:=fun b u e z=>by rw[z,hn] at e;cases e
 refine I.step (g':=s.gens) (d':=s.drawn) (ch:=[it]) (fun b hb=>?_) (fun b o _ _ hc e _=>k b o (fun z=>hc (by simp[z])) e) (fun b o _ _ hc e _=>⟨o.slots,k b o (fun z=>hc (by simp[z])) e⟩) (fun _ _ _ _ n=>n)
  (fun b o hc e=>⟨o,k b o (fun z=>hc (by simp[z])) e⟩) (fun _ _ e=>e) (fun _ _ _ e=>e) (fun b ps e=>⟨#[],by rw[e];simp⟩) (fun m hm=>?_) (fun b u e=>?_) I.bare
 ·have e:b=it:=by simpa using hb
  subst e;exact⟨h1,hL,h2,h3⟩
 ·obtain⟨o,es,ep,ho,r⟩:=hm;exact⟨o,es,ep,k _ o (Ne.symm hL) ho,r⟩
 ·refine (I.hok b u e).stay (fun c v hc q=>k c v ?_ q) (fun _ q=>q) fun _ _ q=>q
  rcases hc with z|z
  ·rw[z];exact nit b u e
  ·exact nit c _ z
def Inv.tok(I:Inv X U Z H s)(t:Nat):Inv X U Z H { s with toks:=t }:=I.un (h':=s.heap) (t':=t) Un.refl I.hok
def Inv.kept{t':Nat}(I:Inv X U Z H s)(k:∀ b u,s.heap.get? b=some u->h'.get? b=some u):Inv X U Z H { s with heap:=h',toks:=t' }:=I.un (Un.kept k) (I.hok.kept k)
def Inv.laid{a:Addr}{o:HO}{t':Nat}(I:Inv X U Z H s)(k:∀ b u,s.heap.get? b=some u->h'.get? b=some u)(hp:s.heap.objs.size<=a)(new:ObjOk X.prog X.w (upd H a o) h' a o) :
  Inv X U Z (upd H a o) { s with heap:=h',toks:=t' }:=I.un (Un.laid k hp (I.hok.fresh hp)) (I.hok.laid k hp new)
def Inv.write{x e:Addr}{o:HO}{t':Nat}(I:Inv X U Z H s)(mu:Mut (H x))(he:e=x\/H e=some (.own x))(k:∀ b u,b≠e->s.heap.get? b=some u->h'.get? b=some u)(heo:∃ u,h'.get? e=some u)
  (new:ObjOk X.prog X.w (upd H x o) h' x o):Inv X U Z (upd H x o) { s with heap:=h',toks:=t' }:=I.un (Un.write mu he k heo) (I.hok.write mu he k heo new)
def Inv.pins_of{pins':qc}(I:Inv X U Z H s)(h:∀ p∈pins',s.heap.get? p.1=some p.2/\H p.1=none/\p.1≠X.env.locals/\p.1∉X.fs/\∀ v,p.2.data≠.cell v):Inv X pins' Z H s :=
 ⟨I.ok,I.os,I.bare,I.base,I.loc,I.cell,I.free,I.freeC,fun p hp=>(zdx.mp hp).elim (fun z=>I.pin p (List.mem_append_left _ z)) (h p),I.hok,I.len⟩
def jnj{N:List Str}(hN:N.Nodup){i j:Nat}{x:Str}(a:N[i]? = some x)(b:N[j]? = some x):i=j:=by
 obtain⟨h1,e1⟩:=zbb.mp a;obtain⟨h2,e2⟩:=zbb.mp b;exact (List.getElem_inj hN).mp (e1.trans e2.symm)
def jxb{M:Model}{A:Around}{E:qd}{i:Nat}{x:Str}{v:V}{u:Value}{Q:Unit->Shared->Prop}(I:Inv X U Z H s)(hN:X.N.Nodup)(hi:X.N[i]? = some x)(hx:Loc X.env.scope x)(r:RelV v u)
  (h:∀ s',Inv X U (Z.set i (some v)) H s'->(∃ a,Heap.SameBut a s.heap s'.heap/\(a=X.env.locals\/X.env.cells.lookup x=some a))->Q () s') (hf:X.fn x=true\/X.env.scope.names.lookup x=some .local:=by first|exact .inl rfl|exact .inr rfl|assumption):wpAny M A (storeName X.env x u) Q E s:=by
 obtain⟨m,hn,hl⟩:=id I.loc;have hcls:(X.env.scope.kind == .class || (X.env.scope.kind == .module&&X.env.locals != X.env.globals))=false:=by rw[I.ok.kind];rfl
 have hiZ:i<Z.length:=by rw[I.len];exact (zbb.mp hi).1
 have cne:=I.cne;have tracked:∀ {a:Addr} {h':Heap},(∃ o,s.heap.get? a=some o/\H a=none)->Heap.SameBut a s.heap h'->HOk X.prog X.w H h':=fun {a h'} ha hs b ob e=>by
  obtain⟨_,_,hfree⟩:=ha;refine (I.hok b ob e).stay (fun c w' hc q=>(hs.2 c ?_).trans q) (fun _ q=>q) fun _ _ q=>q
  rintro rfl;rcases hc with rfl|hc
  ·rw[hfree] at e;cases e
  ·rw[hfree] at hc;cases hc
 rcases hx with hk|hk
 ·refine wpAny_storeName_local hk hn (fun h' hn' hs=>?_) hcls;obtain⟨oL,_,_,hoL,_⟩:=id hn;refine h _ ⟨I.ok,I.os,I.bare,⟨fun b o e n hb hx=>?_,fun b o e n hb hx=>?_,I.base.free,fun b o e hx=>?_,I.base.tups,I.base.frzs,I.base.tbls⟩,⟨_,hn',fun j y v' e1 e2 e3=>?_⟩,fun y c e=>?_,I.free,I.freeC,fun p hp=>?_,tracked ⟨oL,hoL,I.free⟩ hs,by simpa using I.len⟩ ⟨_,hs,.inl rfl⟩
  ·exact (hs.2 b (zcv (zcx (zbv e) I.ok.above))).trans (I.base.keep b o e n hb hx)
  ·obtain⟨sl,e1⟩:=I.base.slot b o e n hb hx;exact⟨sl,(hs.2 b (zcv (zcx (zbv e) I.ok.above))).trans e1⟩
  ·obtain⟨o',e1⟩:=I.base.there b o e hx;exact⟨o',(hs.2 b (zcv (zcx (zbv e) I.ok.above))).trans e1⟩
  ·by_cases hj:j=i
   ·subst hj;rw[hi] at e1;cases e1
    rw[zcz hiZ] at e2;cases e2;exact⟨u,r,.inl ⟨hk,by simp⟩⟩
   ·rw[zbw (Ne.symm hj)] at e2;obtain⟨u',r',q⟩:=hl j y v' e1 e2 e3;refine⟨u',r',?_⟩;rcases q with ⟨k,e⟩|⟨k,c,e,z⟩
    ·refine .inl ⟨k,?_⟩;have:y≠x:=fun e=>hj (jnj hN e1 (e ▸ hi))
     simp[this,e]
    ·exact .inr ⟨k,c,e,z.sameBut hs (cne y c e)⟩
  ·obtain⟨w',z⟩:=I.cell y c e;exact⟨w',z.sameBut hs (cne y c e)⟩
  ·obtain⟨e,n,ne,nf,d⟩:=I.pin p hp;exact⟨(hs.2 p.1 ne).trans e,n,ne,nf,d⟩
 ·have hfn:X.fn x=true:=by
   rcases hf with z|z
   ·exact z
   ·rw[z] at hk;cases hk
  obtain⟨c,hc⟩:=I.ok.has x (.inl hk);obtain⟨w',z⟩:=I.cell x c hc;refine wpAny_storeName_cell I.ok.kind hk hc z (fun h' hc' hs=>?_);obtain⟨oc,hoc,hocd⟩:=id z;refine h { s with heap:=h' } ⟨I.ok,I.os,I.bare,⟨fun b o e n hb hx=>?_,fun b o e n hb hx=>?_,I.base.free,fun b o e hx=>?_,I.base.tups,I.base.frzs,I.base.tbls⟩,⟨m,hn.sameBut hs (Ne.symm (cne x c hc)),fun j y v' e1 e2 e3=>?_⟩,fun y c' e=>?_,I.free,I.freeC,fun p hp=>?_,tracked ⟨oc,hoc,I.freeC x c hc⟩ hs,by simpa using I.len⟩ ⟨c,hs,.inr hc⟩
  ·exact (hs.2 b (zcv (zcx (zbv e) (I.ok.cab x c hfn hc)))).trans (I.base.keep b o e n hb hx)
  ·obtain⟨sl,e1⟩:=I.base.slot b o e n hb hx;exact⟨sl,(hs.2 b (zcv (zcx (zbv e) (I.ok.cab x c hfn hc)))).trans e1⟩
  ·obtain⟨o',e1⟩:=I.base.there b o e hx;exact⟨o',(hs.2 b (zcv (zcx (zbv e) (I.ok.cab x c hfn hc)))).trans e1⟩
  ·by_cases hj:j=i
   ·subst hj;rw[hi] at e1;cases e1
    rw[zcz hiZ] at e2;cases e2;exact⟨u,r,.inr ⟨.inl hk,c,hc,hc'⟩⟩
   ·rw[zbw (Ne.symm hj)] at e2;obtain⟨u',r',q⟩:=hl j y v' e1 e2 e3;refine⟨u',r',?_⟩;rcases q with q|⟨k,c',e,z'⟩
    ·exact .inl q
    ·refine .inr ⟨k,c',e,z'.sameBut hs ?_⟩;rintro rfl;exact hj (jnj hN e1 (I.ok.inj _ _ _ e hc ▸ hi))
  ·by_cases hcc:c'=c
   ·subst hcc;exact⟨_,hc'⟩
   ·obtain⟨w2,z2⟩:=I.cell y c' e;exact⟨w2,z2.sameBut hs hcc⟩
  ·obtain⟨e,n,ne,nf,d⟩:=I.pin p hp;refine⟨(hs.2 p.1 ?_).trans e,n,ne,nf,d⟩;intro q;rw[q,hoc] at e;have q':oc=p.2:=zby e;exact d w' (by rw[<- q'];exact hocd)
def jh1{M:Model}{A:Around}{E:qd}{i:Nat}{x:Str}{v:V}{u:Value}{Q:Unit->Shared->Prop}(I:Inv X U Z H s)(hN:X.N.Nodup)(hi:X.N[i]? = some x)(hx:Loc X.env.scope x)(r:RelV v u)
  (h:∀ s',Inv X U (Z.set i (some v)) H s'->Q () s') (hf:X.fn x=true\/X.env.scope.names.lookup x=some .local:=by first|exact .inl rfl|exact .inr rfl|assumption):wpAny M A (storeName X.env x u) Q E s :=
 jxb I hN hi hx r (fun s' I' _=>h s' I') hf
def Inv.call'{s':Shared}{ch:List Addr}(I:Inv X U Z H s)(ho:s'.os=s.os)(u:Un (frs X.stack) ch H H' s.heap s'.heap)(hok:HOk X.prog X.w H' s'.heap)(hg:AllBare s'.gens)
  (hch:∀ b∈ch,(b∈X.ex\/X.s₀.heap.objs.size<=b)/\b≠X.env.locals/\(∀ x c,X.env.cells.lookup x=some c->c≠b)/\∀ p∈X.pn++U,p.1≠b):Inv X U Z H' s':=by
 obtain⟨h',g',d',t',o'⟩:=s';have e:o'=s.os:=ho;subst e;exact I.call (g':=g') (t':=t') (d':=d') u hok hg hch
end
abbrev XK:=Value->Option Addr->Hp->Prop
abbrev St:=List (Option V)
abbrev VK:=V->Hp->Prop
abbrev TE:=St->Hp->VK->Prop
abbrev TT:=St->Hp->(Bool->Hp->Prop)->Prop
abbrev TA:=St->Hp->(List V->Hp->Prop)->Prop
structure Ends where
 nx:St->Hp->Prop
 rt:VK
 bk:St->Hp->Prop:=fun _ _=>False
 ct:St->Hp->Prop:=fun _ _=>False
abbrev TS:=Ends->St->Hp->Prop
inductive EP(X:Cx)(U:qc)(Z:St)(Q:VK)(u:Value)(s':Shared):Prop
 | mk (v:V) (H':Hp) (h0:Inv X U Z H' s') (h1:RelV v u) (h2:Q v H')
inductive TP(X:Cx)(U:qc)(Z:St)(Q:Bool->Hp->Prop)(b:Bool)(s':Shared):Prop
 | mk (H':Hp) (h0:Inv X U Z H' s') (h1:Q b H')
inductive AP(X:Cx)(U:qc)(Z:St)(Q:List V->Hp->Prop)(us:List Value)(s':Shared):Prop
 | mk (vs:List V) (H':Hp) (h0:Inv X U Z H' s') (h1:Vals vs us) (h2:Q vs H')
inductive SN(X:Cx)(U:qc)(Q:St->Hp->Prop)(s':Shared):Prop
 | mk (Z':St) (H':Hp) (hI:Inv X U Z' H' s') (hq:Q Z' H')
inductive SR(X:Cx)(U:qc)(R:VK)(u:Value)(s':Shared):Prop
 | mk (v:V) (Z':St) (H':Hp) (hI:Inv X U Z' H' s') (hr:RelV v u) (hq:R v H')
def SP(X:Cx)(U:qc)(D:Ends)(f:Flow)(s':Shared):Prop :=
 match f with
 | .next=>SN X U D.nx s'
 | .brk=>SN X U D.bk s'
 | .cont=>SN X U D.ct s'
 | .ret u=>SR X U D.rt u s'
def PE(X:Cx)(e:Expr)(t:TE):Prop :=
 ∀ (U:qc) (s:Shared) (Z:St) (H:Hp) (Q:VK),Inv X U Z H s->t Z H Q->wpAny (model X.prog X.w) X.A (eval e X.env) (EP X U Z Q) X.xe s
def PT(X:Cx)(e:Expr)(t:TT):Prop :=
 ∀ (U:qc) (s:Shared) (Z:St) (H:Hp) (Q:Bool->Hp->Prop),Inv X U Z H s->t Z H Q->wpAny (model X.prog X.w) X.A (isTrue e X.env (eval e X.env)) (TP X U Z Q) X.xe s
def PW(X:Cx)(e:Expr)(t:TT):Prop :=
 ∀ (whole:Sem Value) (U:qc) (s:Shared) (Z:St) (H:Hp) (Q:Bool->Hp->Prop),Inv X U Z H s->t Z H Q->wpAny (model X.prog X.w) X.A (isTrue e X.env whole) (TP X U Z Q) X.xe s
def PW.pt{X:Cx}{e:Expr}{t:TT}(h:PW X e t):PT X e t:=h _
def PA(X:Cx)(es:List Expr)(t:TA):Prop :=
 ∀ (pos:Pos) (U:qc) (s:Shared) (Z:St) (H:Hp) (Q:List V->Hp->Prop),Inv X U Z H s->t Z H Q->wpAny (model X.prog X.w) X.A (spliced (backTo pos (starEach es X.env))) (AP X U Z Q) X.xe s
def PS(X:Cx)(st:Stmt)(t:TS):Prop :=
 ∀ (U:qc) (s:Shared) (Z:St) (H:Hp) (D:Ends),Inv X U Z H s->t D Z H->wpAny (model X.prog X.w) X.A (exec st X.env) (SP X U D) X.xe s
def PSs(X:Cx)(st:List Stmt)(t:TS):Prop :=
 ∀ (U:qc) (s:Shared) (Z:St) (H:Hp) (D:Ends),Inv X U Z H s->t D Z H->wpAny (model X.prog X.w) X.A (execs st X.env) (SP X U D) X.xe s
def thn{α:Type}{t:Sem α}{Q Q':α->Shared->Prop}{M:Model}{A:Around}{E:qd}{s:Shared}(h:wpAny M A t Q E s)(hQ:∀ a s,Q a s->Q' a s):wpAny M A t Q' E s:=wpAny_mono h hQ fun _ _ x=>x
section
variable {X:Cx}
def bin{a b:Expr}{ta tb:TE}(ha:PE X a ta)(hb:PE X b tb){U:qc}{s:Shared}{Z:St}{H:Hp}{R:V->V->Hp->Prop}(I:Inv X U Z H s)(h:ta Z H fun x H1=>tb Z H1 fun y H2=>R x y H2)
  {α:Type} {Q:α->Shared->Prop} {f:Value->Value->Sem α}
  (hf:∀ v u s2 x y H2,Inv X U Z H2 s2->RelV x v->RelV y u->R x y H2->wpAny (model X.prog X.w) X.A (f v u) Q X.xe s2) :
  wpAny (model X.prog X.w) X.A (eval a X.env) (fun v s₁=>wpAny (model X.prog X.w) X.A (eval b X.env) (fun u s₂=>wpAny (model X.prog X.w) X.A (f v u) Q X.xe s₂) X.xe s₁) X.xe s:=by
 refine thn (ha U s Z H _ I h) fun v s1 hzz=>?_
 obtain⟨x,H1,I1,r1,q1⟩:=hzz;refine thn (hb U s1 Z H1 _ I1 q1) fun u s2 hzz=>?_
 obtain⟨y,H2,I2,r2,q2⟩:=hzz;exact hf v u s2 x y H2 I2 r1 r2 q2
def tVar(i:Nat):TE:=fun Z H Q=>∃ v,Z[i]? = some (some v)/\Q v H
def tC(v:V):TE:=fun _ H Q=>Q v H
def jl9{i:Nat}{x:Str}{pos:Pos}(hN:X.N[i]? = some x)(hv:Vis X.env.scope x)(hd:(x == ("__debug__":Str))=false:=by decide)(hcd:(x == ("__classdict__":Str))=false:=by decide):PE X (.Name x pos) (tVar i):=by
 intro U s Z H Q I h;obtain⟨v,e,h⟩:=h;obtain⟨m,hn,hl⟩:=I.loc;obtain⟨u,r,l⟩:=hl i x v hN e hv;have fin:EP X U Z Q u s:=⟨v,H,I,r,h⟩
 rcases l with ⟨hk,hm⟩|⟨hk,c,hc,hcell⟩
 ·exact wpAny_Name (wpAny_loadName_local I.ok.kind hk hn hm fin) hd
 ·rcases hk with hk|hk
  ·exact wpAny_Name (wpAny_loadName_cell I.ok.kind hk hc hcell fin) hd
  ·exact wpAny_Name (wpAny_loadName_free I.ok.kind hk hc hcell fin hcd) hd
def jGl{i j pos}:PE X (.Constant (.int i) j pos) (tC (.int i)):=fun _ _ _ H _ I h=>wpAny_Constant_int ⟨.int i,H,I.tok _,⟨_,rfl⟩,h⟩
def jJf{b j pos}:PE X (.Constant (.bool b) j pos) (tC (.bl b)):=fun _ _ _ H _ I h=>Constant_bool ⟨.bl b,H,I,rfl,h⟩
def jGm{j pos}:PE X (.Constant .none j pos) (tC .non):=fun _ _ _ H _ I h=>Constant_none ⟨.non,H,I,rfl,h⟩
def jGo{x j pos}:PE X (.Constant (.str x) j pos) (tC (.str x)):=fun _ _ _ H _ I h=>Calls.Constant_str ⟨.str x,H,I.tok _,⟨_,rfl⟩,h⟩
def Gl(X:Cx)(x:Str):Prop:=X.env.kindOf x=some .globalImplicit
def jjk{E:qd}{U:qc}{s:Shared}{Z:St}{H:Hp}{x:Str}{u:Value}{pos:Pos}{Q:qd}(I:Inv X U Z H s)(hg:Gl X x)(hm:X.mg x=some u)(h:Q u s)
  (hd:(x == ("__debug__":Str))=false:=by decide):wpAny (model X.prog X.w) X.A (eval (.Name x pos) X.env) Q E s :=
 Calls.Name_function_global I.ok.kind hg (Calls.loadGlobal_global (by rw[I.ok.glob];exact I.mod.glob.keeps I.bk) hm h) hd
def jl4{E:qd}{U:qc}{s:Shared}{Z:St}{H:Hp}{x:Str}{u:Value}{pos:Pos}{Q:qd}(I:Inv X U Z H s)(hg:Gl X x)(hm:X.mg x=none)(hv:bootBuiltins x=some u)(h:Q u s)
  (hn:x≠"__name__":=by decide) (hd:(x == ("__debug__":Str))=false:=by decide):wpAny (model X.prog X.w) X.A (eval (.Name x pos) X.env) Q E s:=by
 obtain⟨mb,h1,h2⟩:=I.mod.blt;exact Calls.Name_function_global I.ok.kind hg (Calls.loadGlobal_builtin (by rw[I.ok.glob];exact I.mod.glob.keeps I.bk) hm (by rw[I.ok.blt];exact h1.keeps I.bk) ((h2 x hn).trans hv) h) hd
def jnq{x:Str}{v:V}{u:Value}{pos:Pos}(hg:Gl X x)(hm:X.mg x=some u)(r:RelV v u)(hd:(x == ("__debug__":Str))=false:=by decide):PE X (.Name x pos) (tC v) :=
 fun _ _ _ H _ I h=>jjk I hg hm ⟨v,H,I,r,h⟩ hd
def jwa{x:Str}{v:V}{u:Value}{pos:Pos}(hg:Gl X x)(hm:X.mg x=none)(hv:bootBuiltins x=some u)(r:RelV v u)(hn:x≠"__name__":=by decide)(hd:(x == ("__debug__":Str))=false:=by decide):PE X (.Name x pos) (tC v) :=
 fun _ _ _ H _ I h=>jl4 I hg hm hv ⟨v,H,I,r,h⟩ hn hd
variable {a b:Expr}{ta tb:TE}{pos:Pos}
def tB(t:TE):TT:=fun Z H Q=>t Z H fun x H1=>∃ c,x=.bl c/\Q c H1
variable {tA tB':TT}{rest:List Expr}
def tAnd(t u:TT):TT:=fun Z H Q=>t Z H fun c H1=>if c=true then u Z H1 Q else Q false H1
def tOr(t u:TT):TT:=fun Z H Q=>t Z H fun c H1=>if c=true then Q true H1 else u Z H1 Q
def tNot(t:TT):TT:=fun Z H Q=>t Z H fun c H1=>Q (!c) H1
def jwq(ha:PT X a tA):PW X (.BoolOp .And [a] pos) tA:=by
 intro wh U s Z H Q I h;refine isTrue_and (thn (ha U s Z H Q I h) fun c s1 e=>?_)
 cases c with
 | true=>exact isTrue_and_nil e
 | false=>exact e
def jA0(ha:PT X a tA):PW X (.BoolOp .Or [a] pos) tA:=by
 intro wh U s Z H Q I h;refine isTrue_or (thn (ha U s Z H Q I h) fun c s1 e=>?_)
 cases c with
 | false=>exact isTrue_or_nil e
 | true=>exact e
def jAz(ha:PT X a tA)(hb:PW X (.BoolOp .And (b::rest) pos) tB'):PW X (.BoolOp .And (a::b::rest) pos) (tAnd tA tB'):=by
 intro wh U s Z H Q I h;refine isTrue_and (thn (ha U s Z H _ I h) fun c s1 hzz=>?_);obtain⟨H1,I1,q1⟩:=hzz
 cases c with
 | true=>exact hb wh U s1 Z H1 Q I1 q1
 | false=>exact⟨H1,I1,q1⟩
def jGw(ha:PT X a tA)(hb:PW X (.BoolOp .Or (b::rest) pos) tB'):PW X (.BoolOp .Or (a::b::rest) pos) (tOr tA tB'):=by
 intro wh U s Z H Q I h;refine isTrue_or (thn (ha U s Z H _ I h) fun c s1 hzz=>?_);obtain⟨H1,I1,q1⟩:=hzz
 cases c with
 | true=>exact⟨H1,I1,q1⟩
 | false=>exact hb wh U s1 Z H1 Q I1 q1
def jAy(ha:PT X a tA):PT X (.UnaryOp .Not a pos) (tNot tA):=by
 intro U s Z H Q I h;exact isTrue_not (thn (ha U s Z H (fun c H1=>Q (!c) H1) I h) fun c s1 z=>z.casesOn fun H1 I1 q1=>⟨H1,I1,q1⟩)
def jJt(ta tb:TE):TE:=fun Z H Q=>ta Z H fun x H1=>∃ c,x=.bl c/\if c=true then tb Z H1 Q else Q (.bl false) H1
def tOrV(ta tb:TE):TE:=fun Z H Q=>ta Z H fun x H1=>∃ c,x=.bl c/\if c=true then Q (.bl true) H1 else tb Z H1 Q
def jJ0(ta:TE):TE:=fun Z H Q=>ta Z H fun x H1=>∃ c,x=.bl c/\Q (.bl (!c)) H1
def jAv{op}{t:TE}(h:PE X a t):PE X (.BoolOp op [a] pos) t:=fun U s Z H Q I hw=>BoolOp_one (h U s Z H Q I hw)
def jAs(ha:PE X a ta)(hb:PE X (.BoolOp .And (b::rest) pos) tb):PE X (.BoolOp .And (a::b::rest) pos) (jJt ta tb):=by
 intro U s Z H Q I h;refine BoolOp_and (thn (ha U s Z H _ I h) fun v s1 hzz=>?_);obtain⟨x,H1,I1,r1,q1⟩:=hzz;obtain⟨c,rfl,q1⟩:=q1;cases r1;refine wpAny_truthy_bool ?_
 cases c with
 | true=>exact hb U s1 Z H1 Q I1 q1
 | false=>exact⟨.bl false,H1,I1,rfl,q1⟩
def jJg(ha:PE X a ta)(hb:PE X (.BoolOp .Or (b::rest) pos) tb):PE X (.BoolOp .Or (a::b::rest) pos) (tOrV ta tb):=by
 intro U s Z H Q I h;refine BoolOp_or (thn (ha U s Z H _ I h) fun v s1 hzz=>?_);obtain⟨x,H1,I1,r1,q1⟩:=hzz;obtain⟨c,rfl,q1⟩:=q1;cases r1;refine wpAny_truthy_bool ?_
 cases c with
 | false=>exact hb U s1 Z H1 Q I1 q1
 | true=>exact⟨.bl true,H1,I1,rfl,q1⟩
def jAu(ha:PE X a ta):PE X (.UnaryOp .Not a pos) (jJ0 ta):=by
 intro U s Z H Q I h;refine UnaryOp_ (thn (ha U s Z H _ I h) fun v s1 hzz=>?_);obtain⟨x,H1,I1,r1,q1⟩:=hzz;obtain⟨c,rfl,q1⟩:=q1;cases r1;exact not_of (wpAny_truthy_bool ⟨.bl (!c),H1,I1,rfl,q1⟩)
def tIf(t:TT)(ta tb:TE):TE:=fun Z H Q=>t Z H fun c H1=>if c=true then ta Z H1 Q else tb Z H1 Q
def jy7{c:Expr}(hc:PT X c tA)(ha:PE X a ta)(hb:PE X b tb):PE X (.IfExp c a b pos) (tIf tA ta tb):=by
 intro U s Z H Q I h;refine wpAny_IfExp (thn (hc U s Z H _ I h) fun d s1 hzz=>?_);obtain⟨H1,I1,q1⟩:=hzz
 cases d with
 | true=>exact ha U s1 Z H1 Q I1 q1
 | false=>exact hb U s1 Z H1 Q I1 q1
end
def SqL(K:W.Frag)(H:Hp)(a:Addr)(xs:List V):Prop :=
 Rd H a (.lst xs) \/
  ∃ (o:Obj) (its:Array Value) (n:Nat),K.lookup a=some o/\o.cls=.type "list"/\o.dict=none/\o.data=.seq its n/\its.size<=sizeLine/\Vals xs its.toList
def SqT(K:W.Frag)(H:Hp)(a:Addr)(xs:List V):Prop :=
 Rd H a (.tup xs) \/
  ∃ (o:Obj) (its:Array Value) (n:Nat),K.lookup a=some o/\o.cls=.type "tuple"/\o.data=.seq its n/\its.size<=sizeLine/\Vals xs its.toList
def absV:Value->Option V
 | .none=>some .non
 | .bool b=>some (.bl b)
 | .int i _=>some (.int i)
 | .str x _=>some (.str x)
 | .ref a=>some (.ref a)
 | .type n=>some (.ty n)
 | _=>none
def RelV.abs{x:V}{u:Value}(r:RelV x u):absV u=some x:=by
 cases x with
 | non=>cases r;rfl
 | bl _=>cases r;rfl
 | int _=>obtain⟨t,rfl⟩:=r;rfl
 | str _=>obtain⟨t,rfl⟩:=r;rfl
 | ref _=>cases r;rfl
 | ty _=>cases r;rfl
def RelV.inj{x y:V}{u:Value}(r:RelV x u)(q:RelV y u):x=y:=zby (r.abs.symm.trans q.abs)
theorem Vals.inj:∀ {xs ys:List V} {us:List Value},Vals xs us->Vals ys us->xs=ys
 | _,_,_,.nil,.nil=>rfl
 | _,_,_,.cons r t,.cons r' t'=>by rw[r.inj r',Vals.inj t t']
section
variable {X:Cx}{U:qc}{Z:St}{H:Hp}{s:Shared}{a:Addr}{xs ys:List V}
def SqL.of{K:W.Frag}(h:H a=some (.lst xs)):SqL K H a xs:=.inl (.inl h)
def SqT.of{K:W.Frag}(h:H a=some (.tup xs)):SqT K H a xs:=.inl (.inl h)
def Inv.list(I:Inv X U Z H s)(h:SqL X.K H a xs):∃ its:List Value,Vals xs its/\PlainL s.heap a its.toArray/\xs.length<=sizeLine:=by
 rcases h with h|⟨o,its,n,hk,hc,hd,hs,hz,r⟩
 ·obtain⟨z,its,n,r,e⟩:=h.ok I.hok;exact⟨its,r,⟨_,n,e,rfl,rfl,rfl⟩,z⟩
 ·refine⟨its.toList,r,⟨o,n,I.kIn a o hk,hc,hd,by simpa using hs⟩,?_⟩;have e:=r.length;simp only[Array.length_toList] at e;omega
def Inv.tuple(I:Inv X U Z H s)(h:SqT X.K H a xs):∃ its:List Value,Vals xs its/\IsTup s.heap a its.toArray/\xs.length<=sizeLine:=by
 rcases h with h|⟨o,its,n,hk,hc,hs,hz,r⟩
 ·obtain⟨z,its,r,p⟩:=h.ok I.hok;exact⟨its,r,p,z⟩
 ·refine⟨its.toList,r,⟨o,I.kIn a o hk,hc,n,by simpa using hs⟩,?_⟩;have e:=r.length;simp only[Array.length_toList] at e;omega
def Inv.list_inj(I:Inv X U Z H s)(h:SqL X.K H a xs)(h':SqL X.K H a ys):xs=ys:=by
 obtain⟨its,r,⟨o,n,e,_,_,d⟩,_⟩:=I.list h;obtain⟨its',r',⟨o',n',e',_,_,d'⟩,_⟩:=I.list h';rw[e] at e';cases e'
 rw[d] at d';injection d' with d1 _
 have:its=its':=by simpa using congrArg Array.toList d1
 subst this;exact r.inj r'
def Inv.tuple_inj(I:Inv X U Z H s)(h:SqT X.K H a xs)(h':SqT X.K H a ys):xs=ys:=by
 obtain⟨its,r,⟨o,e,_,n,d⟩,_⟩:=I.tuple h;obtain⟨its',r',⟨o',e',_,n',d'⟩,_⟩:=I.tuple h';rw[e] at e';cases e'
 rw[d] at d';injection d' with d1 _
 have:its=its':=by simpa using congrArg Array.toList d1
 subst this;exact r.inj r'
end
abbrev Cx.wish(X:Cx)(E:qd):Cx:={ X with xe:=E }
abbrev Cx.nox(X:Cx):Cx:=X.wish fun _ _=>False
def Cx.Ok.wish{X:Cx}(ok:X.Ok)(E:qd):(X.wish E).Ok :=
 ⟨ok.mod,ok.kind,ok.glob,ok.blt,ok.above,ok.inj,ok.has,ok.cab,ok.hd,ok.frames,ok.stk,ok.exf,ok.bs,ok.bsz,ok.noex,ok.exfs,ok.funs,ok.frf⟩
def Cx.Ok.unwish{X:Cx}{E:qd}(ok:(X.wish E).Ok):X.Ok :=
 ⟨ok.mod,ok.kind,ok.glob,ok.blt,ok.above,ok.inj,ok.has,ok.cab,ok.hd,ok.frames,ok.stk,ok.exf,ok.bs,ok.bsz,ok.noex,ok.exfs,ok.funs,ok.frf⟩
section
variable {X:Cx}{U:qc}{Z:St}{H:Hp}{s:Shared}{E:qd}
def Inv.wish(I:Inv X U Z H s)(E:qd):Inv (X.wish E) U Z H s:=⟨I.ok.wish E,I.os,I.bare,I.base,I.loc,I.cell,I.free,I.freeC,I.pin,I.hok,I.len⟩
def Inv.unwish(I:Inv (X.wish E) U Z H s):Inv X U Z H s:=⟨I.ok.unwish,I.os,I.bare,I.base,I.loc,I.cell,I.free,I.freeC,I.pin,I.hok,I.len⟩
theorem SP.unwish{D:Ends}{f:Flow}{s':Shared}(h:SP (X.wish E) U D f s'):SP X U D f s':=by
 cases f with
 | next=>obtain⟨Z',H',I,q⟩:=h;exact⟨Z',H',I.unwish,q⟩
 | brk=>obtain⟨Z',H',I,q⟩:=h;exact⟨Z',H',I.unwish,q⟩
 | cont=>obtain⟨Z',H',I,q⟩:=h;exact⟨Z',H',I.unwish,q⟩
 | ret u=>obtain⟨v,Z',H',I,r,q⟩:=h;exact⟨v,Z',H',I.unwish,r,q⟩
def PSs.nox{st:List Stmt}{t:TS}(h:PSs X.nox st t):PSs X st t:=fun U s Z H D I hw =>
 wpAny_mono (h U s Z H D (I.wish _) hw) (fun _ _ q=>q.unwish) fun _ _ z=>False.elim z
end
section
variable {X:Cx}{st:Stmt}{rest:List Stmt}{t u:TS}{e:Expr}{te:TE}{pos:Pos}
def jJz:TS:=fun D Z H=>D.nx Z H
def tSeq(t u:TS):TS:=fun D Z H=>t { D with nx:=u D } Z H
def jwn:PSs X [] jJz:=fun _ _ Z H _ I h=>wpAny_execs_nil ⟨Z,H,I,h⟩
def jns(h1:PS X st t)(h2:PSs X rest u):PSs X (st::rest) (tSeq t u):=by
 intro U s Z H D I h;refine wpAny_execs_cons (thn (h1 U s Z H { D with nx:=u D } I h) fun f s1 q=>?_)
 cases f with
 | next =>
  obtain⟨Z',H',I',q⟩:=q;exact h2 U s1 Z' H' D I' q
 | ret v=>exact q
 | brk=>exact q
 | cont=>exact q
def jnt(h1:PS X st t):PSs X [st] t:=by
 intro U s Z H D I h;refine wpAny_execs_cons (thn (h1 U s Z H D I h) fun f s1 q=>?_)
 cases f with
 | next=>exact wpAny_execs_nil q
 | ret v=>exact q
 | brk=>exact q
 | cont=>exact q
def jJw:TS:=fun D Z H=>D.ct Z H
def jqz:PS X (.Continue pos) jJw:=fun _ _ Z H _ I h=>wpAny_Continue ⟨Z,H,I,h⟩
def Inv.quiet{U:qc}{Z:St}{H:Hp}{s:Shared}(I:Inv X U Z H s):interactive X.env=false:=by simp[interactive,I.ok.kind]
def jJx(te:TE):TS:=fun D Z H=>te Z H fun _ H1=>D.nx Z H1
def jnr(he:PE X e te)(hs:swapsWith e none pos.line X.env=pure false:=by rfl):PS X (.Expr e pos) (jJx te):=by
 intro U s Z H D I h;exact wpAny_Expr_any (thn (he U s Z H _ I h) fun v s1 ⟨x,H1,I1,r1,q1⟩=>⟨Z,H1,I1,q1⟩) I.quiet hs
def tRet(te:TE):TS:=fun D Z H=>te Z H D.rt
def jwm(he:PE X e te):PS X (.Return (some e) pos) (tRet te):=by
 intro U s Z H D I h;exact wpAny_Return_some (thn (he U s Z H _ I h) fun v s1 ⟨x,H1,I1,r1,q1⟩=>⟨x,Z,H1,I1,r1,q1⟩)
def tIfS(c:TT)(t u:TS):TS:=fun D Z H=>c Z H fun b H1=>if b=true then t D Z H1 else u D Z H1
def jDp{c:Expr}{a b:List Stmt}{tc:TT}(hc:PT X c tc)(ha:PSs X a t)(hb:PSs X b u):PS X (.If c a b pos) (tIfS tc t u):=by
 intro U s Z H D I h;refine wpAny_If (thn (hc U s Z H _ I h) fun d s1 hzz=>?_);obtain⟨H1,I1,q1⟩:=hzz
 cases d with
 | true=>exact ha U s1 Z H1 D I1 q1
 | false=>exact hb U s1 Z H1 D I1 q1
end
abbrev TG:=V->St->Hp->(St->Hp->Prop)->Prop
abbrev TGs:=List V->St->Hp->(St->Hp->Prop)->Prop
def PG(X:Cx)(target:Expr)(t:TG):Prop :=
 ∀ (U:qc) (s:Shared) (Z:St) (H:Hp) (v:V) (u:Value) (Q:St->Hp->Prop),Inv X U Z H s->RelV v u->t v Z H Q ->
  wpAny (model X.prog X.w) X.A (assign target X.env u) (fun _ s'=>SN X U Q s') X.xe s
def PGs(X:Cx)(ts:List Expr)(t:TGs):Prop :=
 ∀ (U:qc) (s:Shared) (Z:St) (H:Hp) (vs:List V) (us:List Value) (Q:St->Hp->Prop),Inv X U Z H s->Vals vs us->t vs Z H Q ->
  wpAny (model X.prog X.w) X.A (assignInOrder ((assignEach ts X.env).map (·.2)) us) (fun _ s'=>SN X U Q s') X.xe s
abbrev TSet:=V->V->V->Hp->(Hp->Prop)->Prop
abbrev TIp:=V->V->Hp->VK->Prop
def PIp(X:Cx)(op:Operator)(t:TIp):Prop :=
 ∀ (U:qc) (s:Shared) (Z:St) (H:Hp) (x y:V) (v u:Value) (Q:VK),Inv X U Z H s->RelV x v->RelV y u->t x y H Q ->
  wpAny (model X.prog X.w) X.A (inplaceOp op v u) (EP X U Z Q) X.xe s
section
variable {X:Cx}{pos:Pos}
def gName(i:Nat):TG:=fun v Z H Q=>Q (Z.set i (some v)) H
def jqy{i:Nat}{x:Str}(hN:X.N.Nodup)(hi:X.N[i]? = some x)(hx:Loc X.env.scope x)(hf:X.fn x=true\/X.env.scope.names.lookup x=some .local:=by first|exact .inl rfl|exact .inr rfl|assumption):PG X (.Name x pos) (gName i):=by
 intro U s Z H v u Q I r h;exact wpAny_assign_Name (jh1 I hN hi hx r (fun s' I'=>⟨_,H,I',h⟩) hf)
def gNil:TGs:=fun vs Z H Q=>vs=[]/\Q Z H
def jIx(t:TG)(u:TGs):TGs:=fun vs Z H Q=>∃ v r,vs=v::r/\t v Z H fun Z' H'=>u r Z' H' Q
def jDj:PGs X [] gNil:=by
 intro U s Z H vs us Q I r h;obtain⟨e,h⟩:=h;subst e;cases r;exact assignInOrder_nil ⟨Z,H,I,h⟩
def jsf{e:Expr}{es:List Expr}{t:TG}{u:TGs}(h1:PG X e t)(h2:PGs X es u)
  (hs:(assignEach (e::es) X.env).map (·.2)=assign e X.env::(assignEach es X.env).map (·.2):=by rfl):PGs X (e::es) (jIx t u):=by
 intro U s Z H vs us Q I r h;obtain⟨v,vr,e1,h⟩:=h;subst e1
 cases r with
 | cons r rr =>
  rw[hs];refine assignInOrder_cons (thn (h1 U s Z H _ _ _ I r h) fun _ s1 hzz=>?_);obtain⟨Z1,H1,I1,q1⟩:=hzz;exact h2 U s1 Z1 H1 _ _ Q I1 rr q1
def gTup(K:W.Frag)(n:Nat)(t:TGs):TG:=fun v Z H Q=>∃ a xs,v=.ref a/\SqT K H a xs/\xs.length=n/\t xs Z H Q
def jGp{es:List Expr}{k:Nat}{t:TGs}{n:Nat}(hc:X.calm=true)(h:PGs X es t)
  (hn:(assignEach es X.env).length=n:=by rfl) (hst:(assignEach es X.env).findIdx? (·.1)=none:=by rfl):PG X (.Tuple es k pos) (gTup X.K n t):=by
 intro U s Z H v u Q I r hw;obtain⟨a,xs,e1,hq,hl,hw⟩:=hw;subst e1;cases r;obtain⟨its,rv,ht,hz⟩:=I.tuple hq;refine assign_Tuple_tuple (I.ok.hd hc) ht (by simp[hn,<- hl,rv.length]) hst fun h' hx=>?_
 have I1:Inv X U Z H { s with heap:=h' }:=I.kept (t':=s.toks) fun b o e=>hx b o (zcv (zbv e)) e
 exact h U _ Z H xs _ Q I1 (by simpa using rv) hw
def gSub(to ti:TE)(t:TSet):TG:=fun v Z H Q=>to Z H fun o H1=>ti Z H1 fun i H2=>t o i v H2 fun H3=>Q Z H3
def tAsg(te:TE)(g:TG):TS:=fun D Z H=>te Z H fun x H1=>g x Z H1 D.nx
def jAw{tg e:Expr}{te:TE}{g:TG}(he:PE X e te)(hg:PG X tg g)(hs:swapsWithSole [tg] e pos.line X.env=pure false:=by rfl)(hw:swappedStores [tg] e X.env=pure none:=by rfl)
  (h1:(assignEach [tg] X.env).map (·.2)=[assign tg X.env]:=by rfl):PS X (.Assign [tg] e pos) (tAsg te g):=by
 intro U s Z H D I h;refine wpAny_Assign_stores (thn (he U s Z H _ I h) fun v s1 hzz=>?_) hs hw;obtain⟨x,H1,I1,r1,q1⟩:=hzz;rw[h1];exact thn (hg U s1 Z H1 x v _ I1 r1 q1) fun _ s2 q=>q
def jma{i:Nat}{x:Str}{e:Expr}{te:TE}{pos':Pos}(hN:X.N.Nodup)(hi:X.N[i]? = some x)(hx:Loc X.env.scope x)(he:PE X e te)(hs:swapsWith e (some (.Name x pos')) pos.line X.env=pure false:=by rfl)(hf:X.fn x=true\/X.env.scope.names.lookup x=some .local:=by first|exact .inl rfl|exact .inr rfl|assumption) :
  PS X (.Assign [.Name x pos'] e pos) (tAsg te (gName i)):=by
 intro U s Z H D I h;refine wpAny_Assign_Name (thn (he U s Z H _ I h) fun v s1 hzz=>?_) hs;obtain⟨y,H1,I1,r1,q1⟩:=hzz;exact jh1 I1 hN hi hx r1 (fun s2 I2=>⟨_,H1,I2,q1⟩) hf
def tAug(i:Nat)(te:TE)(ti:TIp):TS:=fun D Z H=>∃ x,Z[i]? = some (some x)/\te Z H fun y H1=>ti x y H1 fun z H2=>D.nx (Z.set i (some z)) H2
def jGu{i:Nat}{x:Str}{e:Expr}{te:TE}{op:Operator}{ti:TIp}{pos':Pos}(hN:X.N.Nodup)(hi:X.N[i]? = some x)(hx:Loc X.env.scope x)(he:PE X e te)(ho:PIp X op ti)(hf:X.fn x=true\/X.env.scope.names.lookup x=some .local:=by first|exact .inl rfl|exact .inr rfl|assumption) :
  PS X (.AugAssign (.Name x pos') op e pos) (tAug i te ti):=by
 intro U s Z H D I h;obtain⟨v,e1,h⟩:=h;obtain⟨m,hn,hl⟩:=I.loc;have vis:Vis X.env.scope x:=by rcases hx with k|k;exact .inl k;exact .inr (.inl k)
 obtain⟨u,r,l⟩:=hl i x v hi e1 vis;refine wpAny_AugAssign_Name ?_;have go:wpAny (model X.prog X.w) X.A (eval e X.env) (fun w s₂=>wpAny (model X.prog X.w) X.A (inplaceOp op u w) (fun r s₃=>wpAny (model X.prog X.w) X.A (storeName X.env x r) (fun _=>SP X U D .next) X.xe s₃) X.xe s₂) X.xe s:=by
  refine thn (he U s Z H _ I h) fun w s1 hzz=>?_
  obtain⟨y,H1,I1,r1,q1⟩:=hzz;refine thn (ho U s1 Z H1 v y u w _ I1 r r1 q1) fun z s2 hzz=>?_
  obtain⟨zv,H2,I2,r2,q2⟩:=hzz;exact jh1 I2 hN hi hx r2 (fun s3 I3=>⟨_,H2,I3,q2⟩) hf
 rcases l with ⟨hk,hm⟩|⟨hk,c,hc,hcell⟩
 ·exact wpAny_loadName_local I.ok.kind hk hn hm go
 ·rcases hk with hk|hk
  ·exact wpAny_loadName_cell I.ok.kind hk hc hcell go
  ·rcases hx with k|k
   ·have:X.env.scope.names.lookup x=some .free:=hk;rw[k] at this;cases this
   ·have:X.env.scope.names.lookup x=some .free:=hk;rw[k] at this;cases this
end
section
variable {X:Cx}{pos:Pos}
def jHp(c:TT)(tb:TS):TS:=fun D Z H=>∃ W:Nat->St->Hp->Prop,(∃ m,W m Z H)/\∀ m Z H,W m Z H ->
 c Z H fun b H1=>if b=true then ∃ N:St->Hp->Prop,(∀ Z' H',N Z' H'->∃ m',m'<m/\W m' Z' H')/\tb { D with nx:=N,ct:=N,bk:=D.nx } Z H1 else D.nx Z H1
def jsi{c:Expr}{body:List Stmt}{tc:TT}{tb:TS}(hp:PassesOwn (model X.prog X.w) X.A X.env X.xe)(hc:PT X c tc)(hb:PSs X body tb):PS X (.While c body [] pos) (jHp tc tb):=by
 intro U s Z H D I h;obtain⟨W,⟨m0,w0⟩,turn⟩:=h;refine wpAny_While (codeAny_whileLoop (fun n s'=>∃ Z' H',Inv X U Z' H' s'/\W n Z' H') ?_ m0 ⟨Z,H,I,w0⟩);rintro n s1 ⟨Z1,H1,I1,w1⟩;refine wpAny_passesOwn hp (thn (hc U s1 Z1 H1 _ I1 (turn n Z1 H1 w1)) fun b s2 hzz=>?_);obtain⟨H2,I2,q2⟩:=hzz
 cases b with
 | true =>
  obtain⟨N,hN,q2⟩:=q2;rw[if_pos rfl];refine wpAny_passesOwn hp (thn (hb U s2 Z1 H2 _ I2 q2) fun f s3 q3=>?_)
  cases f with
  | next =>
   obtain⟨Z3,H3,I3,n3⟩:=q3;obtain⟨m',hm,w3⟩:=hN Z3 H3 n3;exact⟨m',hm,Z3,H3,I3,w3⟩
  | cont =>
   obtain⟨Z3,H3,I3,n3⟩:=q3;obtain⟨m',hm,w3⟩:=hN Z3 H3 n3;exact⟨m',hm,Z3,H3,I3,w3⟩
  | brk=>exact q3
  | ret v=>exact q3
 | false =>
  rw[if_neg Bool.false_ne_true];exact wpAny_execs_nil ⟨Z1,H2,I2,q2⟩
end
structure It where
 go:Nat->Hp->Prop
 yld:Nat->Hp->V->Hp->Prop
 stop:Nat->Hp->Prop
def FpOk(X:Cx)(U:qc)(H:Hp)(b:Addr):Prop :=
 H b=none/\b≠X.env.locals/\b∉X.fs/\(b∈X.ex\/X.s₀.heap.objs.size<=b)/\(∀ x c,X.env.cells.lookup x=some c->c≠b)/\∀ p∈X.pn++U,p.1≠b
def Inv.fpOk{X:Cx}{U:qc}{Z:St}{H H':Hp}{s:Shared}{b:Addr}(I:Inv X U Z H s)(hb:s.heap.objs.size<=b)(hn:H' b=none):FpOk X U H' b:=by
 refine⟨hn,Nat.ne_of_gt (zcx I.lt hb),I.nofs hb,.inr (zdy I.sz hb),fun x c e z=>?_,fun p hp z=>?_⟩
 ·obtain⟨v,q⟩:=I.cell x c e;exact absurd (zcx q.lt (by rw[z];exact hb)) (Nat.lt_irrefl _)
 ·exact absurd (zcx (zbv (I.pin p hp).1) (by rw[z];exact hb)) (Nat.lt_irrefl _)
inductive TIt(X:Cx)(U:qc)(Z:St)(Jq:It)(fp:List Addr)(tn:Nat->Heap->Prop)(i:Nat)(H:Hp)(u:Value)(s2:Shared):Prop
 | mk (x:V) (H':Hp) (h1:Inv X U Z H' s2) (h2:RelV x u) (h3:Jq.yld i H x H') (h4:tn (i+1) s2.heap) (h5:∀ b∈fp,H' b=none)
structure Turn(P:Program)(w:World)(K:W.Frag)(tg:Expr)(Jq:It)(fp:List Addr)(it:Addr)(tn:Nat->Heap->Prop):Prop where
 mem:it∈fp
 obj:∀ i h,tn i h->∀ b∈fp,∃ o,h.get? b=some o/\∀ v,o.data≠.cell v
 keep:∀ i h h',tn i h->(∀ b∈fp,∀ o,h.get? b=some o->h'.get? b=some o)->tn i h'
 item:∀ (X:Cx),X.prog=P->X.w=w->X.K=K->X.calm=true->∀ (i:Nat) (U:qc) (s:Shared) (Z:St) (H:Hp) (E:qd),Inv X U Z H s->(∀ b∈fp,FpOk X U H b)->tn i s.heap->Jq.go i H ->
  wpAny (model P w) X.A (pyNext (.ref it)) (fun r s1=>∃ u,r=some u /\
   wpAny (model P w) X.A (letOwnedTupleGo tg (.ref it) u) (fun _ s2=>TIt X U Z Jq fp tn i H u s2) E s1) E s
 done:∀ (X:Cx),X.prog=P->X.w=w->X.K=K->X.calm=true->∀ (i:Nat) (U:qc) (s:Shared) (Z:St) (H:Hp) (E:qd),Inv X U Z H s->(∀ b∈fp,FpOk X U H b)->tn i s.heap->Jq.stop i H ->
  wpAny (model P w) X.A (pyNext (.ref it)) (fun r s1=>r=none/\Inv X U Z H s1) E s
 self:∀ (A:Around) (i:Nat) (s:Shared) (Q:qd) (E:qd),tn i s.heap->Q (.ref it) s->wpAny (model P w) A (pyIter (.ref it)) Q E s
abbrev TI:=St->Hp->(It->Hp->Prop)->Prop
inductive PIE(X:Cx)(U:qc)(Z:St)(tg:Expr)(R:It->Hp->Prop)(itv:Value)(s2:Shared):Prop
 | mk (it:Addr) (fp:List Addr) (tn:Nat->Heap->Prop) (Jq:It) (H':Hp) (h1:itv=.ref it) (h2:Inv X U Z H' s2) (h3:Turn X.prog X.w X.K tg Jq fp it tn) (h4:tn 0 s2.heap) (h5:∀ b∈fp,FpOk X U H' b) (h6:R Jq H')
def PI(X:Cx)(tg iter:Expr)(wi:TI):Prop :=
 ∀ (U:qc) (s:Shared) (Z:St) (H:Hp) (R:It->Hp->Prop),Inv X U Z H s->wi Z H R ->
  wpAny (model X.prog X.w) X.A (eval iter X.env) (fun v s1=>wpAny (model X.prog X.w) X.A (pyIter v) (PIE X U Z tg R) X.xe s1) X.xe s
def go_of{M:Model}{A:Around}{E:qd}{s:Shared}{tg:Expr}{it:Addr}{u:Value}{o:Obj}{n:String}{vs:Array Value}{Q:Unit->Shared->Prop}(ho:s.heap.get? it=some o)(hc:o.cls=.type n)(hd:o.data=.fields vs)
    (hn:["enumerate","zip","dict_itemiterator","dict_reverseitemiterator","odict_iterator","itertools.zip_longest","itertools.pairwise"].contains n=false) (hQ:Q () s):wpAny M A (letOwnedTupleGo tg (.ref it) u) Q E s:=by
  unfold letOwnedTupleGo;cases tg<;>first
    | exact zab hQ
    | (cases u<;>first
        | exact zab hQ
        | (refine zay (wpAny_load ho ?_)
           rw[hc,hd];show wpAny M A (if (["enumerate","zip","dict_itemiterator","dict_reverseitemiterator","odict_iterator","itertools.zip_longest","itertools.pairwise"].contains n&&vs[0]? == some (rawInt _))=true then _ else _) Q E s;rw[if_neg (by intro h;rw[hn,Bool.false_and] at h;cases h)];exact zab hQ))
def Itl(K:W.Frag)(a:Addr):It :=
 ⟨fun i H=>∃ xs x,SqL K H a xs/\xs[i]? = some x,fun i H x H'=>H'=H/\∀ xs,SqL K H a xs->xs[i]? = some x,fun i H=>∃ xs,SqL K H a xs/\xs.length<=i⟩
def Itt(K:W.Frag)(a:Addr):It :=
 ⟨fun i H=>∃ xs x,SqT K H a xs/\xs[i]? = some x,fun i H x H'=>H'=H/\∀ xs,SqT K H a xs->xs[i]? = some x,fun i H=>∃ xs,SqT K H a xs/\xs.length<=i⟩
def jxi{P:Program}{w:World}{K:W.Frag}{tg:Expr}(a it:Addr):Turn P w K tg (Itl K a) [it] it (fun i h=>h.IsListIter it a i) where
 mem:=by simp
 obj:=fun i h st b hb=>by
  have e:b=it:=by simpa using hb
  subst e;obtain⟨o,e,c,d⟩:=st;exact⟨o,e,fun v z=>by rw[d] at z;cases z⟩
 keep:=fun i h h' st k=>st.at fun o e=>k it (by simp) o e
 item:=by
  intro X hP hw hK hc i U s Z H E I hf st hg;subst hP hw hK;obtain⟨xs,x,hq,hx⟩:=hg;obtain⟨its,rv,p,hz⟩:=I.list hq;obtain⟨u,hu,ru⟩:=rv.get hx;obtain⟨f0,f1,f2,f3,f4,f5⟩:=hf it (by simp);refine wpAny_pyNext_list_item st p.isList (x:=u) (by simpa using hu) fun h' st' sb=>?_
  have I1:Inv X U Z H { s with heap:=h' }:=I.turned (t':=s.toks) (fun b o hb e=>(sb.2 b hb).trans e) f0 f1 f3 f4 f5;obtain⟨o,e,c,d⟩:=id st';exact⟨u,rfl,go_of (s:={ s with heap:=h' }) e c d (by decide) ⟨x,H,I1,ru,⟨rfl,fun ys hy=>by rw[I.list_inj hy hq];exact hx⟩,st',fun b hb=>(hf b hb).1⟩⟩
 done:=by
  intro X hP hw hK hc i U s Z H E I hf st hg;subst hP hw hK;obtain⟨xs,hq,hx⟩:=hg;obtain⟨its,rv,p,hz⟩:=I.list hq;obtain⟨f0,f1,f2,f3,f4,f5⟩:=hf it (by simp);have hl:=rv.length;exact wpAny_pyNext_list_end (I.ok.hd hc) st p.isList (by simp;omega) fun h' eb=>⟨rfl,I.turned (t':=s.toks) (fun b o hb e=>eb b o hb e) f0 f1 f3 f4 f5⟩
 self:=fun _ _ _ _ _ st h=>wpAny_pyIter_listiter st h
def jt3{P:Program}{w:World}{K:W.Frag}{tg:Expr}(a it:Addr):Turn P w K tg (Itt K a) [it] it (fun i h=>h.IsTupleIter it a i) where
 mem:=by simp
 obj:=fun i h st b hb=>by
  have e:b=it:=by simpa using hb
  subst e;obtain⟨o,e,c,d⟩:=st;exact⟨o,e,fun v z=>by rw[d] at z;cases z⟩
 keep:=fun i h h' st k=>st.at fun o e=>k it (by simp) o e
 item:=by
  intro X hP hw hK hc i U s Z H E I hf st hg;subst hP hw hK;obtain⟨xs,x,hq,hx⟩:=hg;obtain⟨its,rv,p,hz⟩:=I.tuple hq;obtain⟨u,hu,ru⟩:=rv.get hx;obtain⟨f0,f1,f2,f3,f4,f5⟩:=hf it (by simp);refine wpAny_pyNext_tuple_item st (show s.heap.IsTuple a its.toArray from p) (x:=u) (by simpa using hu) fun h' st' sb=>?_
  have I1:Inv X U Z H { s with heap:=h' }:=I.turned (t':=s.toks) (fun b o hb e=>(sb.2 b hb).trans e) f0 f1 f3 f4 f5;obtain⟨o,e,c,d⟩:=id st';exact⟨u,rfl,go_of (s:={ s with heap:=h' }) e c d (by decide) ⟨x,H,I1,ru,⟨rfl,fun ys hy=>by rw[I.tuple_inj hy hq];exact hx⟩,st',fun b hb=>(hf b hb).1⟩⟩
 done:=by
  intro X hP hw hK hc i U s Z H E I hf st hg;subst hP hw hK;obtain⟨xs,hq,hx⟩:=hg;obtain⟨its,rv,p,hz⟩:=I.tuple hq;obtain⟨f0,f1,f2,f3,f4,f5⟩:=hf it (by simp);have hl:=rv.length;exact wpAny_pyNext_tuple_end (I.ok.hd hc) st (show s.heap.IsTuple a its.toArray from p) (by simp;omega) fun h' eb=>⟨rfl,I.turned (t':=s.toks) (fun b o hb e=>eb b o hb e) f0 f1 f3 f4 f5⟩
 self:=fun _ _ _ _ _ st h=>wpAny_pyIter_tupleiter st h
section
variable {X:Cx}{tg:Expr}
def tFor(wi:TI)(g:TG)(tb:TS):TS:=fun D Z H=>wi Z H fun Jq H1=>∃ W:Nat->Nat->St->Hp->Prop,(∃ m,W 0 m Z H1)/\∀ i m Z H,W i m Z H ->
 (Jq.stop i H/\D.nx Z H)\/(Jq.go i H/\∃ N:St->Hp->Prop,(∀ Z' H',N Z' H'->∃ m',m'<m/\W (i+1) m' Z' H')/\∀ x H',Jq.yld i H x H'->g x Z H' fun Z2 H2=>tb { D with nx:=N,ct:=N,bk:=D.nx } Z2 H2)
def jpi(fp:List Addr)(h:Heap):qc:=fp.filterMap fun b=>(h.get? b).map fun o=>(b,o)
def jhy{fp:List Addr}{h:Heap}{b:Addr}{o:Obj}(hb:b∈fp)(e:h.get? b=some o):(b,o)∈jpi fp h:=List.mem_filterMap.mpr ⟨b,hb,by rw[e];rfl⟩
def jvx{fp:List Addr}{h:Heap}{p:Addr×Obj}(hp:p∈jpi fp h):p.1∈fp/\h.get? p.1=some p.2:=by
 obtain⟨b,hb,e⟩:=List.mem_filterMap.mp hp
 cases q:h.get? b with
 | none=>rw[q] at e;cases e
 | some o =>
  rw[q] at e;have e':(b,o)=p:=zby e;subst e';exact⟨hb,q⟩
def Inv.pinned{U:qc}{Z:St}{H:Hp}{s:Shared}{fp:List Addr}(I:Inv X U Z H s)(hf:∀ b∈fp,FpOk X U H b)(ho:∀ b∈fp,∃ o,s.heap.get? b=some o/\∀ v,o.data≠.cell v):Inv X (U++jpi fp s.heap) Z H s :=
 I.pins_of fun p hp=>(zdx.mp hp).elim (fun z=>I.pin p (zcy _ z)) fun z=>by
  obtain⟨hb,e⟩:=jvx z;obtain⟨f0,f1,f2,_⟩:=hf p.1 hb;obtain⟨o,e',d⟩:=ho p.1 hb;rw[e] at e';cases e'
  exact⟨e,f0,f1,f2,d⟩
def Inv.unpinned{U pl:qc}{Z:St}{H:Hp}{s:Shared}(I:Inv X (U++pl) Z H s):Inv X U Z H s:=I.pins_of fun p hp=>I.pin p (zcy _ (List.mem_append_left _ hp))
def jwl{iter:Expr}{body:List Stmt}{wi:TI}{g:TG}{tb:TS}{pos:Pos}(hp:PassesOwn (model X.prog X.w) X.A X.env X.xe)(hc:X.calm=true)(hi:PI X tg iter wi)(hg:PG X tg g)(hb:PSs X body tb)
  (hs:∀ x,foldedSetIterable iter X.env x=pure x:=by intro _;rfl):PS X (.For tg iter body [] pos) (tFor wi g tb):=by
 intro U s Z H D I h;refine wpAny_For (thn (hi U s Z H _ I h) fun v s1 h1=>thn h1 fun itv s2 h2=>?_) hs;obtain⟨it,fp,tn,Jq,H2,e,I2,T,st2,f2,W,⟨m0,w0⟩,turn⟩:=h2;subst e;have stat:∀ {H':Hp},(∀ b∈fp,H' b=none)->∀ b∈fp,FpOk X U H' b:=fun hn b hb=>⟨hn b hb,(f2 b hb).2⟩
 refine codeAny_forLoop_any (fun n s'=>∃ i Z' H',Inv X U Z' H' s'/\tn i s'.heap/\(∀ b∈fp,H' b=none)/\W i n Z' H') ?_ m0 ⟨0,Z,H2,I2,st2,fun b hb=>(f2 b hb).1,w0⟩;rintro n s3 ⟨i,Z3,H3,I3,st3,fr3,w3⟩;rcases turn i n Z3 H3 w3 with ⟨stop,qn⟩|⟨go,N,hN,step⟩
 ·refine wpAny_passesOwn hp (thn (T.done X rfl rfl rfl hc i U s3 Z3 H3 X.xe I3 (stat fr3) st3 stop) fun r s4 hzz=>?_);obtain⟨hr,I4⟩:=hzz;subst hr;exact wpAny_execs_nil ⟨Z3,H3,I4,qn⟩
 ·refine wpAny_passesOwn hp (thn (T.item X rfl rfl rfl hc i U s3 Z3 H3 X.xe I3 (stat fr3) st3 go) fun r s4 hzz=>?_);obtain⟨u,hr,h4⟩:=hzz;subst hr;refine wpAny_passesOwn hp (thn h4 fun _ s5 hzz=>?_);obtain⟨x,H5,I5,r5,y5,st5,fr5⟩:=hzz;have I5':=I5.pinned (stat fr5) (T.obj _ _ st5);refine wpAny_passesOwn hp (thn (hg _ s5 Z3 H5 x u _ I5' r5 (step x H5 y5)) fun _ s6 hzz=>?_);obtain⟨Z6,H6,I6,q6⟩:=hzz;refine wpAny_passesOwn hp (thn (hb _ s6 Z6 H6 _ I6 q6) fun f s7 q7=>?_);have again:∀ {Z7:St} {H7:Hp},Inv X (U++jpi fp s5.heap) Z7 H7 s7->N Z7 H7->∃ m,m<n/\∃ i Z' H',Inv X U Z' H' s7/\tn i s7.heap/\(∀ b∈fp,H' b=none)/\W i m Z' H':=fun {Z7 H7} I7 n7=>by
   obtain⟨m',hm,w7⟩:=hN Z7 H7 n7;refine⟨m',hm,i+1,Z7,H7,I7.unpinned,T.keep _ _ _ st5 fun b hb o e=>(I7.pin (b,o) (zcy _ (zcy _ (jhy hb e)))).1,fun b hb=>?_,w7⟩;obtain⟨o,e,d⟩:=T.obj _ _ st5 b hb;exact (I7.pin (b,o) (zcy _ (zcy _ (jhy hb e)))).2.1
  cases f with
  | next=>obtain⟨Z7,H7,I7,n7⟩:=q7;exact again I7 n7
  | cont=>obtain⟨Z7,H7,I7,n7⟩:=q7;exact again I7 n7
  | brk=>obtain⟨Z7,H7,I7,q7⟩:=q7;exact⟨Z7,H7,I7.unpinned,q7⟩
  | ret v=>obtain⟨x7,Z7,H7,I7,r7,q7⟩:=q7;exact⟨x7,Z7,H7,I7.unpinned,r7,q7⟩
end
abbrev R2:=V->V->Hp->VK->Prop
def OpR(X:Cx)(f:Value->Value->Sem Value)(r:R2):Prop :=
 ∀ (U:qc) (s:Shared) (Z:St) (H:Hp) (x y:V) (v u:Value) (Q:VK),Inv X U Z H s->RelV x v->RelV y u->r x y H Q ->
  wpAny (model X.prog X.w) X.A (f v u) (EP X U Z Q) X.xe s
def UnR(X:Cx)(f:Value->Sem Value)(r:V->Hp->VK->Prop):Prop :=
 ∀ (U:qc) (s:Shared) (Z:St) (H:Hp) (x:V) (v:Value) (Q:VK),Inv X U Z H s->RelV x v->r x H Q ->
  wpAny (model X.prog X.w) X.A (f v) (EP X U Z Q) X.xe s
def CallR(X:Cx)(f:Value)(r:List V->Hp->VK->Prop):Prop :=
 ∀ (U:qc) (s:Shared) (Z:St) (H:Hp) (xs:List V) (us:List Value) (Q:VK),Inv X U Z H s->Vals xs us->r xs H Q ->
  wpAny (model X.prog X.w) X.A (call f us) (EP X U Z Q) X.xe s
def TruR(X:Cx)(r:V->Hp->(Bool->Hp->Prop)->Prop):Prop :=
 ∀ (U:qc) (s:Shared) (Z:St) (H:Hp) (x:V) (v:Value) (Q:Bool->Hp->Prop),Inv X U Z H s->RelV x v->r x H Q ->
  wpAny (model X.prog X.w) X.A (truthy v) (TP X U Z Q) X.xe s
def tOp(r:R2)(ta tb:TE):TE:=fun Z H Q=>ta Z H fun x H1=>tb Z H1 fun y H2=>r x y H2 Q
def tUn(r:V->Hp->VK->Prop)(ta:TE):TE:=fun Z H Q=>ta Z H fun x H1=>r x H1 Q
def rI(C:Int->Int->Prop)(g:Int->Int->V):R2:=fun x y H Q=>∃ i j,x=.int i/\y=.int j/\C i j/\Q (g i j) H
def rI0(g:Int->Int->V):R2:=fun x y H Q=>∃ i j,x=.int i/\y=.int j/\Q (g i j) H
def rU(g:Int->V):V->Hp->VK->Prop:=fun x H Q=>∃ i,x=.int i/\Q (g i) H
section
variable {X:Cx}{a b:Expr}{ta tb:TE}{pos:Pos}
def binT(ha:PE X a ta)(hb:PE X b tb){U:qc}{s:Shared}{Z:St}{H:Hp}{R:V->V->Hp->Prop}(I:Inv X U Z H s)
  (h:ta Z H fun x H1=>tb Z H1 fun y H2=>R x y H2) {Q:qd} {f:Value->Value->Sem Value}
  (hf:∀ v u s2 x y H2,Inv X U Z H2 s2->RelV x v->RelV y u->R x y H2->wpAny (model X.prog X.w) X.A (f v u) Q X.xe s2) :
  wpAny (model X.prog X.w) X.A (eval a X.env) (fun v s₁=>wpAny (model X.prog X.w) X.A (eval b X.env) (fun u s₂=>wpAny (model X.prog X.w) X.A (f v u) Q X.xe s₂) X.xe s₁) X.xe s:=by
 refine thn (ha U s Z H _ I h) fun v s1 hzz=>?_
 obtain⟨x,H1,I1,r1,q1⟩:=hzz;refine thn (hb U s1 Z H1 _ I1 q1) fun u s2 hzz=>?_
 obtain⟨y,H2,I2,r2,q2⟩:=hzz;exact hf v u s2 x y H2 I2 r1 r2 q2
def jGn{op:Operator}{r:R2}(ho:OpR X (binaryOp op) r)(ha:PE X a ta)(hb:PE X b tb):PE X (.BinOp a op b pos) (tOp r ta tb):=by
 intro U s Z H Q I h;exact wpAny_BinOp (binT ha hb I h fun v u s2 x y H2 I2 rx ry q=>ho U s2 Z H2 x y v u Q I2 rx ry q)
def jJh{op:UnaryOp}{r:V->Hp->VK->Prop}(ho:UnR X (unaryOp op) r)(ha:PE X a ta):PE X (.UnaryOp op a pos) (tUn r ta):=by
 intro U s Z H Q I h;exact UnaryOp_ (thn (ha U s Z H _ I h) fun v s1 ⟨x,H1,I1,r1,q1⟩=>ho U s1 Z H1 x v Q I1 r1 q1)
def opI{f:Value->Value->Sem Value}{C:Int->Int->Prop}{g:Int->Int->Int}
  (rule:∀ (i j:Int) (t u:Tok) (s:Shared) (Q:qd) (E:qd),C i j->Q (.int (g i j) s.toks) { s with toks:=s.toks+1 }->wpAny (model X.prog X.w) X.A (f (.int i t) (.int j u)) Q E s) :
  OpR X f (rI C fun i j=>.int (g i j)):=by
 intro U s Z H x y v u Q I rx ry h;obtain⟨i,j,rfl,rfl,hc,q⟩:=h;obtain⟨t,rfl⟩:=rx;obtain⟨t',rfl⟩:=ry;exact rule i j t t' s _ _ hc ⟨.int (g i j),H,I.tok _,⟨_,rfl⟩,q⟩
def opI0{f:Value->Value->Sem Value}{g:Int->Int->Int}
  (rule:∀ (i j:Int) (t u:Tok) (s:Shared) (Q:qd) (E:qd),Q (.int (g i j) s.toks) { s with toks:=s.toks+1 }->wpAny (model X.prog X.w) X.A (f (.int i t) (.int j u)) Q E s) :
  OpR X f (rI0 fun i j=>.int (g i j)):=by
 intro U s Z H x y v u Q I rx ry h;obtain⟨i,j,rfl,rfl,q⟩:=h;obtain⟨t,rfl⟩:=rx;obtain⟨t',rfl⟩:=ry;exact rule i j t t' s _ _ ⟨.int (g i j),H,I.tok _,⟨_,rfl⟩,q⟩
def opB0{f:Value->Value->Sem Value}{g:Int->Int->Bool}
  (rule:∀ (i j:Int) (t u:Tok) (s:Shared) (Q:qd) (E:qd),Q (.bool (g i j)) s->wpAny (model X.prog X.w) X.A (f (.int i t) (.int j u)) Q E s) :
  OpR X f (rI0 fun i j=>.bl (g i j)):=by
 intro U s Z H x y v u Q I rx ry h;obtain⟨i,j,rfl,rfl,q⟩:=h;obtain⟨t,rfl⟩:=rx;obtain⟨t',rfl⟩:=ry;exact rule i j t t' s _ _ ⟨.bl (g i j),H,I,rfl,q⟩
def CPow(i j:Int):Prop:=0<=j/\j<=1000000/\i.natAbs<2 ^ 64
def op_add:OpR X (binaryOp .Add) (rI0 fun i j=>.int (i+j)):=opI0 fun _ _ _ _ _ _ _ q=>add_int q
def jpf:OpR X (binaryOp .Sub) (rI0 fun i j=>.int (i-j)):=opI0 fun _ _ _ _ _ _ _ q=>sub_int q
def jdt:OpR X (binaryOp .Mod) (rI (fun _ j=>0<j) fun i j=>.int (i % j)):=opI fun i j _ _ _ _ _ hc q=>by
 have h1:(0:Int)<j:=hc;exact mod_int' (by omega) (by rw[Int.fmod_eq_emod_of_nonneg i (by omega)];exact q)
def jAq:OpR X (binaryOp .Pow) (rI CPow fun i j=>.int (i ^ j.toNat)):=opI fun _ _ _ _ _ _ _ hc q=>pow_int_small hc.1 hc.2.1 hc.2.2 q
def iop_add:OpR X (inplaceOp .Add) (rI0 fun i j=>.int (i+j)):=opI0 fun _ _ _ _ _ _ _ q=>iadd_int q
def unI{f:Value->Sem Value}{g:Int->Int}
  (rule:∀ (i:Int) (t:Tok) (s:Shared) (Q:qd) (E:qd),Q (.int (g i) s.toks) { s with toks:=s.toks+1 }->wpAny (model X.prog X.w) X.A (f (.int i t)) Q E s) :
  UnR X f (rU fun i=>.int (g i)):=by
 intro U s Z H x v Q I rx h;obtain⟨i,rfl,q⟩:=h;obtain⟨t,rfl⟩:=rx;exact rule i t s _ _ ⟨.int (g i),H,I.tok _,⟨_,rfl⟩,q⟩
def jf4:UnR X (unaryOp .USub) (rU fun i=>.int (-i)):=unI fun _ _ _ _ _ q=>neg_int q
end
section
variable {X:Cx}{a b c:Expr}{ta tb tc:TE}{pos:Pos}
def jrv{U:qc}{Z:St}{H:Hp}{s:Shared}{Q:VK}{k k':Bool}(I:Inv X U Z H s)(q:Q (.bl k) H)(e:k=k'):EP X U Z Q (.bool k') s:=by
 subst e;exact⟨.bl k,H,I,rfl,q⟩
def op_lt:OpR X (compareOp .Lt) (rI0 fun i j=>.bl (decide (i<j))):=opB0 fun _ _ _ _ _ _ _ q=>lt_int q
def op_le:OpR X (compareOp .LtE) (rI0 fun i j=>.bl (decide (i<=j))):=opB0 fun _ _ _ _ _ _ _ q=>le_int q
def op_gt:OpR X (compareOp .Gt) (rI0 fun i j=>.bl (decide (j<i))):=opB0 fun _ _ _ _ _ _ _ q=>gt_int q
def op_ge:OpR X (compareOp .GtE) (rI0 fun i j=>.bl (decide (j<=i))):=opB0 fun _ _ _ _ _ _ _ q=>ge_int q
def jv4:OpR X (compareOp .Lt) (fun x y H Q=>∃ i j,x=.str i/\y=.str j/\Q (.bl (decide (i.cps.toList<j.cps.toList))) H):=by
 intro U s Z H x y v u Q I rx ry h;obtain⟨i,j,rfl,rfl,q⟩:=h;obtain⟨t,rfl⟩:=rx;obtain⟨t',rfl⟩:=ry;exact lt_str (jrv I q rfl)
def ji7:OpR X (compareOp .In) (fun x y H Q=>∃ i j,x=.str i/\y=.str j/\Q (.bl (!(Builtin.Str.occurrences j i 0 j.length 1).isEmpty)) H):=by
 intro U s Z H x y v u Q I rx ry h;obtain⟨i,j,rfl,rfl,q⟩:=h;obtain⟨t,rfl⟩:=rx;obtain⟨t',rfl⟩:=ry;exact in_str (jrv I q rfl)
def jv3:OpR X (compareOp .Is) (fun x y H Q=>y=.non/\Q (.bl (decide (x=.non))) H):=by
 intro U s Z H x y v u Q I rx ry h;obtain⟨rfl,q⟩:=h;cases ry;refine is_none_gen (jrv I q ?_);cases x<;>first
  | (cases rx;rfl)
  | (obtain⟨t,rfl⟩:=rx;rfl)
def jDb:OpR X (compareOp .IsNot) (fun x y H Q=>y=.non/\Q (.bl (!decide (x=.non))) H):=by
 intro U s Z H x y v u Q I rx ry h;obtain⟨rfl,q⟩:=h;cases ry;refine isnot_none_gen (jrv I q ?_);cases x<;>first
  | (cases rx;rfl)
  | (obtain⟨t,rfl⟩:=rx;rfl)
def OpR.or{f:Value->Value->Sem Value}{r r':R2}(h:OpR X f r)(h':OpR X f r'):OpR X f (fun x y H Q=>r x y H Q\/r' x y H Q):=by
 intro U s Z H x y v u Q I rx ry q;rcases q with q|q
 ·exact h U s Z H x y v u Q I rx ry q
 ·exact h' U s Z H x y v u Q I rx ry q
def jal(b:Expr){op:CmpOp}(h:op≠.In:=by decide)(h2:op≠.NotIn:=by decide):behindInMarks op b=false:=by
 have e1:(op == CmpOp.In)=false:=by cases op<;>first|rfl|exact absurd rfl h
 have e2:(op == CmpOp.NotIn)=false:=by cases op<;>first|rfl|exact absurd rfl h2
 cases b<;>simp[behindInMarks,e1,e2]
def jwc{op:CmpOp}{r:R2}(ho:OpR X (compareOp op) r)(ha:PE X a ta)(hb:PE X b tb)(hm:behindInMarks op b=false):PE X (.Compare a [op] [b] pos) (tOp r ta tb):=by
 intro U s Z H Q I h;exact wpAny_Compare1 (binT ha hb I h fun v u s2 x y H2 I2 rx ry q=>ho U s2 Z H2 x y v u Q I2 rx ry q) hm
def jJ3(t:TE):TT:=fun Z H Q=>t Z H fun x H'=>∃ k,x=.bl k/\Q k H'
def jwo{op:CmpOp}{r:R2}(ho:OpR X (compareOp op) r)(ha:PE X a ta)(hb:PE X b tb)(hm:behindInMarks op b=false):PT X (.Compare a [op] [b] pos) (jJ3 (tOp r ta tb)):=by
 intro U s Z H Q I h;refine wpAny_isTrue_Compare1 (thn (ha U s Z H _ I h) fun v s1 ⟨x,H1,I1,r1,q1⟩=>thn (hb U s1 Z H1 _ I1 q1) fun u s2 ⟨y,H2,I2,r2,q2⟩ =>
  thn (ho U s2 Z H2 x y v u _ I2 r1 r2 q2) fun c s3 ⟨z,H3,I3,r3,k,e,q3⟩=>?_) hm
 subst e;cases r3;exact wpAny_truthy_bool ⟨H3,I3,q3⟩
def jHo(r r':R2)(ta tb tc:TE):TE:=fun Z H Q=>ta Z H fun x H1=>tb Z H1 fun y H2=>r x y H2 fun z H3=>∃ k,z=.bl k /\
 (if k=true then tc Z H3 fun w' H4=>r' y w' H4 Q else Q (.bl false) H3)
def jy6{op op':CmpOp}{r r':R2}(ho:OpR X (compareOp op) r)(ho':OpR X (compareOp op') r')(ha:PE X a ta)(hb:PE X b tb)(hc:PE X c tc)
  (hm:lastMarks [op,op'] [b,c]=false:=by with_unfolding_all rfl):PE X (.Compare a [op,op'] [b,c] pos) (jHo r r' ta tb tc):=by
 intro U s Z H Q I h;refine Compare_chain (thn (ha U s Z H _ I h) fun v s1 ⟨x,H1,I1,r1,q1⟩=>chain_link (thn (hb U s1 Z H1 _ I1 q1) fun u s2 ⟨y,H2,I2,r2,q2⟩ =>
  thn (ho U s2 Z H2 x y v u _ I2 r1 r2 q2) fun d s3 ⟨z,H3,I3,r3,k,e,q3⟩=>?_)) hm
 subst e;cases r3;refine wpAny_truthy_bool ?_
 cases k with
 | false=>exact ite_ff ⟨.bl false,H3,I3,rfl,q3⟩
 | true=>exact ite_tt (chain_last (thn (hc U s3 Z H3 _ I3 q3) fun w' s4 ⟨z',H4,I4,r4,q4⟩=>ho' U s4 Z H4 y z' u w' Q I4 r2 r4 q4))
def TruV(K:W.Frag)(x:V)(H:Hp)(k:Bool):Prop :=
 match x with
 | .non=>k=false
 | .bl b=>k=b
 | .int i=>k=(i != 0)
 | .str y=>y.length<=sizeLine/\k=((y.length:Int) != 0)
 | .ref p=>(∃ xs,SqL K H p xs/\k=!xs.isEmpty)\/(∃ xs,SqT K H p xs/\k=!xs.isEmpty)\/∃ kvs,H p=some (.dK kvs)/\k=!kvs.isEmpty
 | _=>False
def jtd{κ:Type}{kvs:List (κ×V)}{vs:List (κ×Value)}(r:KV kvs vs):(!vs.isEmpty)=!kvs.isEmpty:=by
 cases r<;>rfl
def jl3{xs:List V}{its:List Value}(r:Vals xs its):(!its.toArray.isEmpty)=!xs.isEmpty:=by
 cases r<;>simp
def jl6:(sizeLine:Nat)<2 ^ 63:=by rw[sizeLine_eq];decide
def jHu:TruR X (fun x H Q=>∃ k,TruV X.K x H k/\Q k H):=by
 intro U s Z H x v Q I rx h;obtain⟨k,e,q⟩:=h;have hl:=jl6;have hs:sizeLine=16777216:=sizeLine_eq
 cases x with
 | non =>
  cases rx;have e':k=false:=e;subst e';exact truthy_none ⟨H,I,q⟩
 | bl b =>
  cases rx;have e':k=b:=e;subst e';exact wpAny_truthy_bool ⟨H,I,q⟩
 | int i =>
  obtain⟨t,rfl⟩:=rx;have e':k=(i != 0):=e;subst e';exact PySem.P.truthy_int ⟨H,I,q⟩
 | str y =>
  obtain⟨t,rfl⟩:=rx;obtain⟨hy,e'⟩:y.length<=sizeLine/\k=((y.length:Int) != 0):=e;subst e';exact PySem.P.truthy_str (by omega) ⟨H,I.tok _,q⟩
 | ref p =>
  cases rx;have e':(∃ xs,SqL X.K H p xs/\k=!xs.isEmpty)\/(∃ xs,SqT X.K H p xs/\k=!xs.isEmpty)\/∃ kvs,H p=some (.dK kvs)/\k=!kvs.isEmpty:=e;rcases e' with ⟨xs,hx,e'⟩|⟨xs,hx,e'⟩|⟨kvs,hx,e'⟩
  ·subst e';obtain⟨its,r,pl,hz⟩:=I.list hx;have hlen:=r.length;exact wpAny_truthy_list pl.isList (by simp only[zbx];omega) ⟨H,I.tok _,by rw[jl3 r];exact q⟩
  ·subst e';obtain⟨its,r,pl,hz⟩:=I.tuple hx;have hlen:=r.length;exact truthy_tuple pl (by simp only[zbx];omega) ⟨H,I.tok _,by rw[jl3 r];exact q⟩
  ·subst e';obtain⟨hz,hS,vs,r,m⟩:kvs.length<=sizeLine/\(p == sysModules)=false/\∃ vs,KV kvs vs/\s.heap.DictOf (jqp X.prog X.w) p vs:=I.hok p _ hx;have hlen:kvs.length=vs.length:=Paired.length r;exact wpAny_truthy_dict hS m (by omega) ⟨H,I.tok _,by rw[jtd r];exact q⟩
 | _=>exact (show False from e).elim
def jsj(ha:PE X a ta)(he:∀ whole,isTrue a X.env whole=(do let v <- whole;standAt a.pos;holding [v] (truthy v))) :
  PT X a (fun Z H Q=>ta Z H fun x H'=>∃ k,TruV X.K x H' k/\Q k H'):=by
 intro U s Z H Q I h;exact isTrue_plain (thn (ha U s Z H _ I h) fun v s1 ⟨x,H1,I1,r1,q1⟩=>jHu U s1 Z H1 x v Q I1 r1 q1) (he _)
def jtm:OpR X (binaryOp .Add) (fun x y H Q=>∃ i j,x=.str i/\y=.str j/\i.length+j.length<=sizeLine/\Q (.str (i++j)) H):=by
 intro U s Z H x y v u Q I rx ry h;obtain⟨i,j,rfl,rfl,hz,q⟩:=h;obtain⟨t,rfl⟩:=rx;obtain⟨t',rfl⟩:=ry;exact add_str (fun t' tk=>⟨.str (i++j),H,I.tok _,⟨_,rfl⟩,q⟩) hz
def jii:OpR X (inplaceOp .Add) (fun x y H Q=>∃ i j,x=.str i/\y=.str j/\i.length+j.length<=sizeLine/\Q (.str (i++j)) H):=by
 intro U s Z H x y v u Q I rx ry h;obtain⟨i,j,rfl,rfl,hz,q⟩:=h;obtain⟨t,rfl⟩:=rx;obtain⟨t',rfl⟩:=ry;exact iadd_str (fun t' tk=>⟨.str (i++j),H,I.tok _,⟨_,rfl⟩,q⟩) hz
def jq8{x:V}{us:List Value}(r:Vals [x] us):∃ u,us=[u]/\RelV x u:=by
 cases r with
 | cons r1 r2=>cases r2;exact⟨_,rfl,r1⟩
def call_int1:CallR X (.type "int") (fun xs H Q=>(∃ i,xs=[.int i]/\Q (.int i) H)\/∃ k,xs=[.bl k]/\Q (.int (if k then 1 else 0)) H):=by
 intro U s Z H xs us Q I r h;rcases h with ⟨i,rfl,q⟩|⟨k,rfl,q⟩
 ·obtain⟨u,rfl,t,rfl⟩:=jq8 r;exact call_int_int ⟨.int i,H,I,⟨_,rfl⟩,q⟩
 ·obtain⟨u,rfl,r1⟩:=jq8 r;cases r1;exact call_int_bool ⟨.int (if k then 1 else 0),H,I.tok _,⟨_,rfl⟩,q⟩
def jok:CallR X (.type "str") (fun xs H Q=>∃ i,xs=[.int i]/\i.natAbs.log2<1920/\Q (.str (toString i)) H):=by
 intro U s Z H xs us Q I r h;obtain⟨i,rfl,hz,q⟩:=h;obtain⟨u,rfl,t,rfl⟩:=jq8 r;exact PySem.P.str_of_int hz ⟨.str _,H,I.tok _,⟨_,rfl⟩,q⟩
end
structure ObjM(h:Heap)(x dx C:Addr)(mA:qa):Prop where
 obj:h.get? x=some (W.instObj C dx)
 ns:h.Ns1 dx mA
 ne:dx≠x
def jo0{h:Heap}{dx:Addr}{mA:qa}(n:h.Ns1 dx mA):∃ od,h.get? dx=some od/\∀ name,W.lookIn name od=some (mA name):=by
 obtain⟨o,es,ep,ho,hd,hk,_,hm⟩:=n;refine⟨o,ho,fun name=>?_⟩;have e:=hm name;unfold nsFind findBy at e;rw[<- Array.find?_toList] at e;unfold W.lookIn;rw[hd];dsimp only
 split
 ·rename_i y q;rw[q] at e;exact congrArg some e
 ·rename_i q;rw[q] at e;have a:es.toList.any (·.refKey)=false:=by
   rw[List.any_eq_false];intro y hy;obtain⟨z,t,hkey⟩:=hk y (Array.mem_toList_iff.mp hy);simp[DictEntry.refKey,hkey]
  have a':¬ es.toList.any (·.refKey)=true:=by rw[a];exact Bool.false_ne_true
  rw[if_neg a'];exact congrArg some e
def ObjM.look{h:Heap}{x dx C:Addr}{mA:qa}(I:ObjM h x dx C mA):∃ od,W.InstAt h x (W.instObj C dx) C (some od)/\∀ name,W.lookIn name od=some (mA name) :=
 let ⟨od,ho,hl⟩:=jo0 I.ns
 ⟨od,⟨I.obj,rfl,rfl,ho⟩,hl⟩
section
variable {prog:Program}{w:World}{A:Around}{E:qd}{s:Shared}{K:W.Frag}{x dx C f:Addr}{mA:qa}{name:Str}{v:Value}
def jCi{expr:Bool}{Q:qd}(X:K.In s.heap)(I:ObjM s.heap x dx C mA)(hg:W.plainGet K C name=true)(hh:W.hasDictIn K C=true)
  (ha:W.findIn K (.ref C) name=some none) (hv:mA name=some v) (hv':W.handedIn v=true) (h:Q v { s with toks:=s.toks+1 }) :
  wpAny (model prog w) A (getAttr (.ref x) name expr) Q E s:=by
 obtain⟨od,Jq,hl⟩:=I.look;exact W.get_value X Jq (W.plainGet_of hg).1 (W.findObj_own hh ha rfl (by rw[hl,hv])) hv' h
def jyb{pl:Sem Bool}{Q:Value×List Value->Shared->Prop}(X:K.In s.heap)(I:ObjM s.heap x dx C mA)(hg:W.plainGet K C name=true)
  (hf:W.findIn K (.ref C) name=some (some (.ref f))) (ht:W.isFn K (.ref f)=true) (hv:mA name=none) (h:Q (.ref f,[.ref x]) s) :
  wpAny (model prog w) A (getMethod (.ref x) name pl) Q E s:=by
 obtain⟨od,Jq,hl⟩:=I.look;exact W.method_fn X Jq (W.plainGet_of hg).1 (W.plainGet_of hg).2 hf (beq_iff_eq.mp ht) (by show (W.lookIn name od).map (·.isSome)=some false;rw[hl,hv];rfl) h
def jD6{ns:List Str}{Q:Unit->Shared->Prop}(X:K.In s.heap)(I:ObjM s.heap x dx C mA)
  (hs:W.findIn K (.ref C) "__setattr__"=some (some (.builtin "object.__setattr__"))) (hp:W.plainOver K C=true) (ht:W.takerIn K C name=some none) (hh:W.hasDictIn K C=true)
  (hw:PySem.Within mA ns) (hsz:ns.length<=sizeLine)
  (h:∀ h',ObjM h' x dx C (fun y=>if y=name then some v else mA y)->Heap.SameBut dx s.heap h'->Q () { s with heap:=h',toks:=s.toks+2 }) :
  wpAny (model prog w) A (setAttr (.ref x) name v) Q E s:=by
 obtain⟨od,Jq,hl⟩:=I.look;refine W.set_plain X Jq hs (W.osa_open (s:={ s with toks:=s.toks+1 }) (r:=none) X Jq hp ht fun b=>?_);obtain⟨cd,hc,hd'⟩:=W.any_some hh;have hx:s.heap.get? x=some ⟨.ref C,some dx,.plain,#[]⟩:=I.obj;refine zay (zab (zay (zay (wpAny_loadPart hx (zay (W.Looks.here (s:={ s with toks:=s.toks+1 }) (W.looks_clsIn X hc) ?_))))));rw[hd'];refine zab (a:=some dx) (zay (zab (zay ?_)));refine wpAny_nsSet1 (s:={ s with toks:=s.toks+1 }) I.ns fun h' hn2 hs2=>?_
 obtain⟨oD,esD,epD,hoD,hdD,hcD⟩:=hn2.count (PySem.Within.cons name v hw);refine zay (wpAny_lookBehind hoD (by rw[hdD];exact pastItsLine_dict (zdy hcD (by rw[List.length_cons];omega))) ?_);exact zab (h _ ⟨(hs2.2 _ (Ne.symm I.ne)).trans I.obj,hn2,I.ne⟩ hs2)
def jys{R:Result->Shared->Prop}{vs:List Value}{kw:List (Str×Value)}(X:K.In s.heap)(hm:W.makesIn K C=true)
  (hi:W.findIn K (.ref C) "__init__"=some (some (.ref f))) (hf:W.typeIn K (.ref f)=some (.type "function"))
  (h:codeAny (model prog w) (A.under (.builtin "type.__call__" ⟨.ref C::vs,kw⟩)) (.call (.ref f) ⟨.ref (s.heap.objs.size+1)::vs,kw⟩) (W.InitBack (s.heap.objs.size+1) R)
   { s with heap:=(s.heap.push W.emptyDict).push (W.instObj C s.heap.objs.size) }) :
  codeAny (model prog w) A (.call (.ref C) ⟨vs,kw⟩) R s:=by
 obtain⟨hh,g,d,t,os⟩:=s;exact W.make_core (W.makes_of X hm) (W.looks_findIn X hi) (fun self=>W.bind_fn X self hf) (.inl rfl) h
end
def putF(f:Str)(v:V):List (Str×V)->List (Str×V)
 | []=>[(f,v)]
 | (g,x)::r=>if g=f then (g,v)::r else (g,x)::putF f v r
theorem jik(f g:Str)(v:V):∀ fs:List (Str×V),(putF f v fs).lookup g=if g=f then some v else fs.lookup g
 | []=>by
  show List.lookup g [(f,v)]=_
  by_cases h:g=f
  ·have hb:(g == f)=true:=beq_iff_eq.mpr h;simp only[List.lookup,hb,if_pos h]
  ·have hb:(g == f)=false:=beq_eq_false_iff_ne.mpr h;simp only[List.lookup,hb,if_neg h]
 | (k,x)::r=>by
  have ih:=jik f g v r;rw[show putF f v ((k,x)::r)=(if k=f then (k,v)::r else (k,x)::putF f v r) from rfl]
  by_cases hk:k=f
  ·rw[if_pos hk]
   by_cases h:g=k
   ·have hb:(g == k)=true:=beq_iff_eq.mpr h;simp only[List.lookup,hb,if_pos (h.trans hk)]
   ·have hb:(g == k)=false:=beq_eq_false_iff_ne.mpr h;simp only[List.lookup,hb,if_neg (fun e:g=f=>h (e.trans hk.symm))]
  ·rw[if_neg hk]
   by_cases h:g=k
   ·have hb:(g == k)=true:=beq_iff_eq.mpr h;simp only[List.lookup,hb,if_neg (fun e:g=f=>hk (h.symm.trans e))]
   ·have hb:(g == k)=false:=beq_eq_false_iff_ne.mpr h;simp only[List.lookup,hb];exact ih
theorem jhe(f:Str)(v:V):∀ fs:List (Str×V),f∈(putF f v fs).map (·.1)/\∀ g,g∈fs.map (·.1)->g∈(putF f v fs).map (·.1)
 | []=>⟨by simp[putF],fun g h=>by simp at h⟩
 | (k,x)::r=>by
  obtain⟨i1,i2⟩:=jhe f v r;rw[show putF f v ((k,x)::r)=(if k=f then (k,v)::r else (k,x)::putF f v r) from rfl]
  by_cases hk:k=f
  ·rw[if_pos hk];subst hk;exact⟨by simp,fun g h=>by simpa using h⟩
  ·rw[if_neg hk];refine⟨?_,fun g h=>?_⟩
   ·rw[List.map_cons];exact zaw _ i1
   ·rw[List.map_cons] at h |-
    rcases List.mem_cons.mp h with e|e
    ·exact List.mem_cons.mpr (.inl e)
    ·exact zaw _ (i2 g e)
theorem jij(f:Str)(v:V):∀ fs:List (Str×V),(putF f v fs).length<=fs.length+1
 | []=>by simp[putF]
 | (k,x)::r=>by
  have ih:=jij f v r;rw[show putF f v ((k,x)::r)=(if k=f then (k,v)::r else (k,x)::putF f v r) from rfl]
  by_cases hk:k=f
  ·rw[if_pos hk,List.length_cons,List.length_cons];omega
  ·rw[if_neg hk,List.length_cons,List.length_cons];omega
def RelO.some_of{v:V}{o:Option Value}(r:RelO (some v) o):∃ u,o=some u/\RelV v u:=by
 cases o with
 | none=>exact (show False from r).elim
 | some u=>exact⟨u,rfl,r⟩
def RelO.none_of{o:Option Value}(r:RelO none o):o=none:=by
 cases o with
 | none=>rfl
 | some u=>exact (show False from r).elim
def jox{v:V}{u:Value}(r:RelV v u):W.handedIn u=true:=by
 cases v with
 | non=>cases (show u=Value.none from r);rfl
 | bl b=>cases (show u=Value.bool b from r);rfl
 | int i=>obtain⟨t,e⟩:=(show ∃ t,u=Value.int i t from r);cases e;rfl
 | str x=>obtain⟨t,e⟩:=(show ∃ t,u=Value.str x t from r);cases e;rfl
 | ref a=>cases (show u=Value.ref a from r);rfl
 | ty n=>cases (show u=Value.type n from r);rfl
section
variable {P:Program}{w:World}{H:Hp}{h:Heap}{a C dx:Addr}{fs:List (Str×V)}
def jqi(hok:HOk P w H h)(e:H a=some (.ins C dx fs)):∃ mA,ObjM h a dx C mA/\(∀ f,RelO (fs.lookup f) (mA f))/\PySem.Within mA (fs.map (·.1))/\fs.length<=1000/\H dx=some (.own a):=by
 obtain⟨d,z,ne,ob,mA,n,r,q⟩:=(show ObjOk P w H h a (.ins C dx fs) from hok a _ e)
 exact⟨mA,⟨ob,n,ne⟩,r,q,z,d⟩
end
structure Cls(K:W.Frag)(C:Addr):Prop where
 pg:W.plainGet K C Str.empty=true
 hd:W.hasDictIn K C=true
 po:W.plainOver K C=true
 sa:W.findIn K (.ref C) "__setattr__"=some (some (.builtin "object.__setattr__"))
def Cls.get{K:W.Frag}{C:Addr}(c:Cls K C)(f:Str):W.plainGet K C f=true:=c.pg
def NoAttr(K:W.Frag)(C:Addr)(f:Str):Prop:=W.findIn K (.ref C) f=some none
def NoAttr.taker{K:W.Frag}{C:Addr}{f:Str}(n:NoAttr K C f):W.takerIn K C f=some none:=by
 unfold W.takerIn;rw[show W.findIn K (.ref C) f=some none from n];rfl
structure Meth(K:W.Frag)(C:Addr)(m:Str)(f:Addr):Prop where
 at_:W.findIn K (.ref C) m=some (some (.ref f))
 fn:W.isFn K (.ref f)=true
 kp:W.keepIn K (.ref f)=true
section
variable {X:Cx}{U:qc}{Z:St}{H:Hp}{s:Shared}{a C dx:Addr}{fs:List (Str×V)}{f:Str}{v:V}{A:Around}{E:qd}
def jtb{b:Bool}{Q:qd}(I:Inv X U Z H s)(e:H a=some (.ins C dx fs))(c:Cls X.K C)(n:NoAttr X.K C f)(l:fs.lookup f=some v)
  (h:∀ u s',Inv X U Z H s'->RelV v u->Q u s'):wpAny (model X.prog X.w) A (getAttr (.ref a) f b) Q E s:=by
 obtain⟨mA,O,r,_,_,_⟩:=jqi I.hok e;obtain⟨u,hu,ru⟩:=RelO.some_of (v:=v) (o:=mA f) (by rw[<- l];exact r f);exact jCi I.kIn O (c.get f) c.hd n hu (jox ru) (h u _ (I.tok _) ru)
def jl1{m:Str}{g:Addr}{pl:Sem Bool}{Q:Value×List Value->Shared->Prop}(I:Inv X U Z H s)(e:H a=some (.ins C dx fs))(c:Cls X.K C)(k:Meth X.K C m g)(l:fs.lookup m=none)
  (h:Q (.ref g,[.ref a]) s):wpAny (model X.prog X.w) A (getMethod (.ref a) m pl) Q E s:=by
 obtain⟨mA,O,r,_,_,_⟩:=jqi I.hok e;have hn:mA m=none:=RelO.none_of (by rw[<- l];exact r m);exact jyb I.kIn O (c.get m) k.at_ k.fn hn h
def jtt{y:V}{u:Value}{Q:Unit->Shared->Prop}(I:Inv X U Z H s)(e:H a=some (.ins C dx fs))(c:Cls X.K C)(n:NoAttr X.K C f)(hl:fs.length<1000)(ry:RelV y u)
  (h:∀ s',Inv X U Z (upd H a (.ins C dx (putF f y fs))) s'->Q () s'):wpAny (model X.prog X.w) A (setAttr (.ref a) f u) Q E s:=by
 obtain⟨mA,O,r,wi,_,ho⟩:=jqi I.hok e;have hz:(fs.map (·.1)).length<=sizeLine:=by rw[zav,sizeLine_eq];omega
 refine jD6 I.kIn O c.sa c.po n.taker c.hd wi hz fun h' O' sb=>h _ ?_
 have hd:∃ o,h'.get? dx=some o:=let ⟨o,_,_,e',_⟩:=O'.ns;⟨o,e'⟩
 refine I.write (x:=a) (e:=dx) (by rw[e];exact True.intro) (.inr ho) (fun b q hb z=>(sb.2 b hb).trans z) hd ?_;refine⟨by rw[jaj O.ne];exact ho,?_,O.ne,O'.obj,_,O'.ns,fun g=>?_,fun g hg=>?_⟩
 ·have:=jij f y fs;omega
 ·show RelO ((putF f y fs).lookup g) (if g=f then some u else mA g);rw[jik]
  by_cases q:g=f
  ·rw[if_pos q,if_pos q];exact ry
  ·rw[if_neg q,if_neg q];exact r g
 ·by_cases q:g=f
  ·rw[q];exact (jhe f y fs).1
  ·refine (jhe f y fs).2 g (wi g fun z=>hg ?_);show (if g=f then some u else mA g)=none;rw[if_neg q];exact z
def Inv.made(I:Inv X U Z H s):Inv X U Z (upd (upd H s.heap.objs.size (.own (s.heap.objs.size+1))) (s.heap.objs.size+1) (.ins C s.heap.objs.size []))
  { s with heap:=(s.heap.push W.emptyDict).push (W.instObj C s.heap.objs.size) }:=by
 have e1:(s.heap.push W.emptyDict).get? s.heap.objs.size=some W.emptyDict:=zbz s.heap rfl;have e2:((s.heap.push W.emptyDict).push (W.instObj C s.heap.objs.size)).get? (s.heap.objs.size+1)=some (W.instObj C s.heap.objs.size):=by
  have:=zbz (s.heap.push W.emptyDict) (o:=W.instObj C s.heap.objs.size) rfl
  rwa [Heap.size_push] at this
 have e3:(s.heap.push W.emptyDict).Ns s.heap.objs.size (fun _=>none):=⟨W.emptyDict,#[],_,e1,rfl,(fun e he=>absurd he (by simp)),fun _=>rfl⟩
 have I1:=I.laid (a:=s.heap.objs.size) (o:=.own (s.heap.objs.size+1)) (h':=s.heap.push W.emptyDict) (t':=s.toks) (fun b u q=>zaz _ q) (zac _) ⟨_,e1⟩;refine I1.laid (a:=s.heap.objs.size+1) (o:=.ins C s.heap.objs.size []) (t':=s.toks) (fun b u q=>zaz _ q) (Nat.le_of_eq (Heap.size_push _ _)) ?_;have ne:s.heap.objs.size≠s.heap.objs.size+1:=zcv (Nat.lt_succ_self _);refine⟨by rw[jaj ne,jam],Nat.zero_le _,ne,e2,fun _=>none,(Heap.Ns1.of_empty e3).at fun o q=>zaz _ q,fun _=>True.intro,fun y hy=>absurd rfl hy⟩
def jub{prog:Program}{w:World}{env:Env}{e:Expr}{f:Str}{pos:Pos}{s:Shared}{Q:qd}(hb:attributeBase e f env (eval e env)=eval e env)
  (h:wpAny (model prog w) A (eval e env) (fun o s₁=>wpAny (model prog w) A (getAttr o f true) Q E s₁) E s):wpAny (model prog w) A (eval (.Attribute e f pos) env) Q E s :=
 Attribute_any_ h (by rw[arm_eval_Attribute,hb])
end
inductive FldP(K:W.Frag)(f:Str)(Q:VK)(x:V)(H1:Hp):Prop
 | mk (a C dx:Addr) (fs:List (Str×V)) (v:V) (h1:x=.ref a) (h2:H1 a=some (.ins C dx fs)) (h3:Cls K C) (h4:NoAttr K C f) (h5:fs.lookup f=some v) (h6:Q v H1)
def tFld(K:W.Frag)(ta:TE)(f:Str):TE:=fun Z H Q=>ta Z H (FldP K f Q)
def sFld(K:W.Frag)(ta tv:TE)(f:Str):TS:=fun D Z H=>tv Z H fun y H1=>ta Z H1 fun x H2=>∃ a C dx fs,x=.ref a/\H2 a=some (.ins C dx fs)/\Cls K C/\NoAttr K C f/\fs.length<1000 /\
 D.nx Z (upd H2 a (.ins C dx (putF f y fs)))
section
variable {X:Cx}{o e value:Expr}{f:Str}{pos pos':Pos}{ta tv:TE}
def jGk(he:PE X e ta)(hb:attributeBase e f X.env (eval e X.env)=eval e X.env):PE X (.Attribute e f pos) (tFld X.K ta f):=by
 intro U s Z H Q I h;refine jub hb (thn (he U s Z H _ I h) fun u s1 hzz=>?_);obtain⟨x,H1,I1,rx,a,C,dx,fs,v,ex,ea,c,n,l,q⟩:=hzz;subst ex;obtain rfl:u=Value.ref a:=rx;exact jtb I1 ea c n l fun u' s2 I2 ru=>⟨v,H1,I2,ru,q⟩
def jAx(ha:PE X o ta)(hv:PE X value tv)(hs:swapsWith value (some (.Attribute o f pos')) pos.line X.env=pure false):PS X (.Assign [.Attribute o f pos'] value pos) (sFld X.K ta tv f):=by
 intro U s Z H D I h;refine plainObj_wpAny_Assign_Attribute (thn (hv U s Z H _ I h) fun u s1 ⟨y,H1,I1,ry,q⟩=>thn (ha U s1 Z H1 _ I1 q) fun ov s2 hzz=>?_) hs;obtain⟨x,H2,I2,rx,a,C,dx,fs,ex,ea,c,n,l,q2⟩:=hzz;subst ex;obtain rfl:ov=Value.ref a:=rx;exact jtt I2 ea c n l ry fun s3 I3=>⟨Z,_,I3,q2⟩
end
section
end
structure Room(k:Nat)(A:Around):Prop where
 hd:A.handled=none
 dp:A.depth+3*k+5<recursionLimit
 un:A.units+16*k+200<cLine
def Room.mono{j k:Nat}{A:Around}(r:Room k A)(h:j<=k):Room j A:=⟨r.hd,by have:=r.dp;omega,by have:=r.un;omega⟩
def Room.m{j k:Nat}{A:Around}(r:Room k A)(h:Nat.ble j k=true):Room j A:=r.mono (Nat.le_of_ble_eq_true h)
def Room.deeper{k:Nat}{A:Around}(r:Room (k+1) A)(env:Env):Room k (A.deeper env) :=
 ⟨r.hd,by have:=r.dp;show A.depth+1+3*k+5<_;omega,by have:=r.un;show A.units+3+16*k+200<_;omega⟩
def jth{A:Around}{C:Addr}{us:List Value}{kw:List (Str×Value)}:(A.under (.builtin "type.__call__" ⟨.ref C::us,kw⟩)).depth=A.depth+1:=by
 first|rfl|simp[Around.under,Code.weight,Code.isCreation,Code.isGuard,Code.isCaller,Code.frames,Code.isFrame,guardIds]
def jti{A:Around}{C:Addr}{us:List Value}{kw:List (Str×Value)}:(A.under (.builtin "type.__call__" ⟨.ref C::us,kw⟩)).units=A.units+1:=by
 first|rfl|simp[Around.under,Code.cUnits,Code.frames,Code.isFrame]
def Room.make{k:Nat}{A:Around}(r:Room (k+1) A)(C:Addr)(us:List Value)(kw:List (Str×Value)):Room k (A.under (.builtin "type.__call__" ⟨.ref C::us,kw⟩)) :=
 ⟨r.hd,by have:=r.dp;rw[jth];omega,by have:=r.un;rw[jti];omega⟩
def Room.depth{k:Nat}{A:Around}(r:Room k A):A.depth<recursionLimit:=by have:=r.dp;omega
def Room.units{k:Nat}{A:Around}(r:Room k A):A.units+64<cLine:=by have:=r.un;omega
def tNil:TA:=fun _ H Q=>Q [] H
def jJv(ta:TE)(tr:TA):TA:=fun Z H Q=>ta Z H fun x H1=>tr Z H1 fun xs H2=>Q (x::xs) H2
section
variable {X:Cx}{e:Expr}{es:List Expr}{te:TE}{t:TA}{pos:Pos}
def jk8:PA X [] tNil:=fun _ _ _ _ H Q I h=>Calls.spliced_nil ⟨[],H,I,.nil,h⟩
def jfo(ha:PE X e te)(hr:PA X es t)(hs:zsE e es X.env:=by rfl):PA X (e::es) (jJv te t):=by
 intro pos U s Z H Q I h;rw[hs];show wpAny _ _ (spliced ((false,eval e X.env)::backTo pos (starEach es X.env))) _ _ s;refine Calls.spliced_cons (thn (ha U s Z H _ I h) fun u s1 hzz=>?_);obtain⟨x,H1,I1,r1,q1⟩:=hzz;exact thn (hr pos U s1 Z H1 _ I1 q1) fun us s2 ⟨xs,H2,I2,r2,q2⟩=>⟨x::xs,H2,I2,.cons r1 r2,q2⟩
def tTup(t:TA):TE:=fun Z H Q=>t Z H fun xs H1=>xs.length<=sizeLine/\∀ p,H1 p=none->Q (.ref p) (upd H1 p (.tup xs))
def tLst(t:TA):TE:=fun Z H Q=>t Z H fun xs H1=>xs.length<=sizeLine/\∀ p,H1 p=none->Q (.ref p) (upd H1 p (.lst xs))
def jwe{x1}(h:PA X es t):PE X (.Tuple es x1 pos) (tTup t):=by
 intro U s Z H Q I hq;refine wpAny_Tuple_spliced (thn (h pos U s Z H _ I hq) fun us s1 ⟨xs,H1,I1,r,z,q⟩=>⟨by rw[<- r.length];exact z,?_⟩);have hf:H1 s1.heap.objs.size=none:=I1.hok.fresh (zac _);refine⟨.ref s1.heap.objs.size,upd H1 s1.heap.objs.size (.tup xs),I1.laid (t':=s1.toks) (fun b u e=>zaz _ e) (zac _) ?_,rfl,q _ hf⟩;exact⟨z,us,r,⟨_,zbz _ rfl,rfl,_,rfl⟩⟩
def jph(h:PA X es t):PE X (.List es pos) (tLst t):=by
 intro U s Z H Q I hq;refine wpAny_List_spliced (thn (h pos U s Z H _ I hq) fun us s1 ⟨xs,H1,I1,r,z,q⟩=>⟨by rw[<- r.length];exact z,?_⟩);have hf:H1 s1.heap.objs.size=none:=I1.hok.fresh (zac _);refine⟨.ref s1.heap.objs.size,upd H1 s1.heap.objs.size (.lst xs),I1.laid (t':=s1.toks) (fun b u e=>zaz _ e) (zac _) ?_,rfl,q _ hf⟩;exact⟨z,us,0,r,zbz _ rfl⟩
end
abbrev Sp:=List V->Hp->VK->XK->Prop
abbrev CXT:=List Env->Hp->Shared->XK->qd
structure Env0(P:Program)(w:World)(K:W.Frag)(mg:qa)(base:Heap)(A:Around)(outer:List Env)(s:Shared)(H:Hp):Prop where
 frames:A.frames=some outer
 mod:Mod K mg base
 bs:∀ b o,base.get? b=some o->s.heap.get? b=some o/\H b=none
 bsz:base.objs.size<=s.heap.objs.size
 funs:s.heap.FunFrames base outer
 frf:∀ b∈frs outer,H b=none
 hok:HOk P w H s.heap
 bare:AllBare s.gens
def CE(outer:List Env)(P:Program)(w:World)(H:Hp)(s:Shared)(Q:VK)(u:Value)(s':Shared):Prop :=
 ∃ v H',s'.os=s.os/\AllBare s'.gens/\Un (frs outer) [] H H' s.heap s'.heap/\HOk P w H' s'.heap/\RelV v u/\Q v H'
def CR(CX:CXT)(outer:List Env)(P:Program)(w:World)(H:Hp)(s:Shared)(Q:VK)(E:XK)(r:Result)(s':Shared):Prop :=
 match r with
 | .ok (.ret u)=>CE outer P w H s Q u s'
 | .ok _=>False
 | .error e=>CX outer H s E e s'
structure FnOk(P:Program)(w:World)(K:W.Frag)(mg:qa)(base:Heap)(CX:CXT)(k:Nat)(f:Addr)(fd:FuncData)(ps:List Str)(sp:Sp):Prop where
 len:∀ vs H Q E,sp vs H Q E->vs.length=ps.length
 run:∀ (A:Around) (outer:List Env) (s:Shared) (H:Hp) (args:Args) (us:List Value) (vs:List V) (Q:VK) (E:XK),Room k A->Env0 P w K mg base A outer s H->BindsTo s fd args (ps.zip us)->Vals vs us->sp vs H Q E ->
  codeAny (model P w) A (.call (.ref f) args) (CR CX outer P w H s Q E) s
def FnOk.imp{P:Program}{w:World}{K:W.Frag}{mg:qa}{base:Heap}{CX:CXT}{k:Nat}{f:Addr}{fd:FuncData}{ps:List Str}{sp sp':Sp}(F:FnOk P w K mg base CX k f fd ps sp)
  (h:∀ vs H Q E,sp' vs H Q E->sp vs H Q E):FnOk P w K mg base CX k f fd ps sp' :=
 ⟨fun vs H Q E q=>F.len vs H Q E (h _ _ _ _ q),fun A outer s H args us vs Q E hr he hb hv hs=>F.run A outer s H args us vs Q E hr he hb hv (h _ _ _ _ hs)⟩
def Env0.make{P:Program}{w:World}{K:W.Frag}{mg:qa}{base:Heap}{A:Around}{outer:List Env}{s:Shared}{H:Hp}(e:Env0 P w K mg base A outer s H)(C:Addr)(us:List Value)(kw:List (Str×Value)) :
  Env0 P w K mg base (A.under (.builtin "type.__call__" ⟨.ref C::us,kw⟩)) outer s H:=⟨by first|exact e.frames|(simpa[Around.under,Code.envs,Code.isFrame,pushEnvs] using e.frames),e.mod,e.bs,e.bsz,e.funs,e.frf,e.hok,e.bare⟩
section
variable {X:Cx}{U:qc}{Z:St}{H:Hp}{s s':Shared}
def Inv.env0(I:Inv X U Z H s):Env0 X.prog X.w X.K X.mg X.base X.A X.stack s H :=
 ⟨I.ok.frames,I.ok.mod,I.bs,zdy I.ok.bsz I.sz,I.stack,I.stkFree,I.hok,I.bare⟩
def Inv.after{Q:VK}{u:Value}(I:Inv X U Z H s)(h:CE X.stack X.prog X.w H s Q u s'):EP X U Z Q u s':=by
 obtain⟨v,H',os,bare,un,hok,r,q⟩:=h;obtain⟨hh,g,d,t,os'⟩:=s';obtain rfl:os'=s.os:=os;exact⟨v,H',I.call (h':=hh) (g':=g) (d':=d) (t':=t) (ch:=[]) un hok bare (fun b z=>absurd z (by simp)),r,q⟩
end
def jzv(sp:Sp)(dvs:List V)(E:XK)(t:TA):TE:=fun Z H Q=>t Z H fun vs H1=>sp (vs++dvs) H1 Q E
def jEc(C:Addr)(m:Str)(sp:Sp)(dvs:List V)(E:XK)(ta:TE)(t:TA):TE:=fun Z H Q=>ta Z H fun x H1=>∃ a dx fs,x=.ref a/\H1 a=some (.ins C dx fs)/\fs.lookup m=none /\
 t Z H1 fun vs H2=>sp (x::(vs++dvs)) H2 Q E
def jJy(C:Addr)(sp:Sp)(dvs:List V)(E:XK)(t:TA):TE:=fun Z H Q=>t Z H fun vs H1=>∀ x dx,H1 x=none->H1 dx=none->dx≠x ->
 sp (.ref x::(vs++dvs)) (upd (upd H1 dx (.own x)) x (.ins C dx [])) (fun v H2=>v=.non/\Q (.ref x) H2) E
def Binds(K:W.Frag)(fd:FuncData)(ps:List Str)(ds:List Value):Prop :=
 ∀ (s:Shared) (us:List Value),K.In s.heap->(us++ds).length=ps.length->BindsTo s fd ⟨us,[]⟩ (ps.zip (us++ds))
def Binds.all{K:W.Frag}{fd:FuncData}{ps:List Str}(h:∀ us:List Value,us.length=ps.length->bindArgs fd ⟨us,[]⟩=pure (ps.zip us)):Binds K fd ps []:=fun s us _ hl=>by
 rw[List.append_nil] at hl |-
 exact .of_eq (h us hl)
def jjx(CX:CXT)(X:Cx)(E:XK):Prop:=∀ (U:qc) (Z:St) (H:Hp) (s:Shared) (e:Value) (s':Shared),Inv X U Z H s->CX X.stack H s E e s'->X.xe e s'
section
variable {X:Cx}{CX:CXT}{k:Nat}{f C:Addr}{fd:FuncData}{ps:List Str}{sp:Sp}{dvs:List V}{ds:List Value}{E:XK}{x m:Str}{p pos apos:Pos}{e o:Expr}{es:List Expr}{ta:TE}{t:TA}
def jww{U:qc}{Z:St}{H:Hp}{s:Shared}{Q:VK}{us:List Value}{vs:List V}(F:FnOk X.prog X.w X.K X.mg X.base CX k f fd ps sp)(hr:Room k X.A)(hb:Binds X.K fd ps ds)(hd:Vals dvs ds)(hx:jjx CX X E)
  (I:Inv X U Z H s) (r:Vals vs us) (h:sp (vs++dvs) H Q E):wpAny (model X.prog X.w) X.A (call (.ref f) us) (EP X U Z Q) X.xe s:=by
 have r2:Vals (vs++dvs) (us++ds):=r.append hd;have hl:(us++ds).length=ps.length:=by rw[<- r2.length];exact F.len _ _ _ _ h
 refine wpAny_call (codeAny_mono (F.run X.A X.stack s H ⟨us,[]⟩ (us++ds) (vs++dvs) Q E hr I.env0 (hb s us I.kIn hl) r2 h) fun r s' hq=>?_)
 cases r with
 | error e=>exact hx U Z H s e s' I hq
 | ok fl =>
  cases fl with
  | ret u=>exact I.after hq
  | next=>exact False.elim hq
  | brk=>exact False.elim hq
  | cont=>exact False.elim hq
def jno(F:FnOk X.prog X.w X.K X.mg X.base CX k f fd ps sp)(hr:Room k X.A)(hg:Gl X x)(hm:X.mg x=some (.ref f))(hk:W.keepIn X.K (.ref f)=true)(hb:Binds X.K fd ps ds)(hd:Vals dvs ds)(hx:jjx CX X E)
  (ha:PA X (e::es) t) (hdb:(x == ("__debug__":Str))=false:=by decide) (he:zsE e es X.env:=by rfl) (hpl:zbT pos es X.env:=by rfl) :
  PE X (.Call (.Name x p) (e::es) [] pos) (jzv sp dvs E t):=by
 intro U s Z H Q I h;refine wpAny_Call_Name_kw (jjk I hg hm ?_ hdb);refine W.callWith_K (h₀:=X.base) I.ok.mod.kin hk (thn (ha pos U s Z H _ I h) fun us s1 ⟨vs,H1,I1,r,q⟩=>⟨I1.kIn,?_⟩) he hpl;exact jww F hr hb hd hx I1 r q
def jwd{pl:Sem Bool}(he:PE X o ta)(c:Cls X.K C)(hm:Meth X.K C m f)(F:FnOk X.prog X.w X.K X.mg X.base CX k f fd ps sp)(hr:Room k X.A)(hb:Binds X.K fd ps ds)(hd:Vals dvs ds)(hx:jjx CX X E)(ha:PA X (e::es) t)
  (hst:zsE e es X.env:=by rfl) (hpl:zbT pos es X.env:=by rfl)
  (ht:eval (.Call (.Attribute o m apos) (e::es) [] pos) X.env=(do
   let ov <- eval o X.env
   standAt apos.atName
   let (f,first) <- holding [ov] (getMethod ov m pl)
   callWith pos f first (backTo pos (starEach (e::es) X.env)) (backToKw pos (keywordEach [] X.env))):=by rfl) :
  PE X (.Call (.Attribute o m apos) (e::es) [] pos) (jEc C m sp dvs E ta t):=by
 intro U s Z H Q I h;refine W.methodCall_KW (pl:=pl) (thn (he U s Z H _ I h) fun u s1 hzz=>?_) ht;obtain⟨x,H1,I1,rx,a,dx,fs,ex,ea,l,q⟩:=hzz;subst ex;obtain rfl:u=Value.ref a:=rx;refine jl1 I1 ea c hm l ?_;refine W.callWith_K (first:=[.ref a]) (h₀:=X.base) I.ok.mod.kin hm.kp (thn (ha pos U s1 Z H1 _ I1 q) fun us s2 ⟨vs,H2,I2,r,q2⟩=>⟨I2.kIn,?_⟩) hst hpl;exact jww (us:=.ref a::us) (vs:=.ref a::vs) F hr hb hd hx I2 (.cons rfl r) q2
def jy9{pl:Sem Bool}(he:PE X o ta)(c:Cls X.K C)(hm:Meth X.K C m f)(F:FnOk X.prog X.w X.K X.mg X.base CX k f fd ps sp)(hr:Room k X.A)(hb:Binds X.K fd ps ds)(hd:Vals dvs ds)(hx:jjx CX X E)
  (ht:eval (.Call (.Attribute o m apos) [] [] pos) X.env=(do
   let ov <- eval o X.env
   standAt apos.atName
   let (f,first) <- holding [ov] (getMethod ov m pl)
   callWith pos f first (backTo pos (starEach [] X.env)) (backToKw pos (keywordEach [] X.env))):=by rfl) :
  PE X (.Call (.Attribute o m apos) [] [] pos) (jEc C m sp dvs E ta tNil):=by
 intro U s Z H Q I h;refine W.methodCall_KW (pl:=pl) (thn (he U s Z H _ I h) fun u s1 hzz=>?_) ht;obtain⟨x,H1,I1,rx,a,dx,fs,ex,ea,l,q⟩:=hzz;subst ex;obtain rfl:u=Value.ref a:=rx;refine jl1 I1 ea c hm l ?_;exact W.callWith_K0 (first:=[.ref a]) I1.kIn hm.kp (jww (us:=[.ref a]) (vs:=[.ref a]) F hr hb hd hx I1 (.cons rfl .nil) q)
structure Mk(K:W.Frag)(C f:Addr):Prop where
 makes:W.makesIn K C=true
 init:W.findIn K (.ref C) "__init__"=some (some (.ref f))
 fn:W.isFn K (.ref f)=true
 kp:W.keepIn K (.ref C)=true
def jzn{U:qc}{Z:St}{H:Hp}{s:Shared}{Q:VK}{us:List Value}{vs:List V}(M:Mk X.K C f)(F:FnOk X.prog X.w X.K X.mg X.base CX k f fd ps sp)(hr:Room (k+1) X.A)(hb:Binds X.K fd ps ds)(hd:Vals dvs ds)
  (hx:jjx CX X E) (I:Inv X U Z H s) (r:Vals vs us)
  (h:∀ x dx,H x=none->H dx=none->dx≠x->sp (.ref x::(vs++dvs)) (upd (upd H dx (.own x)) x (.ins C dx [])) (fun v H2=>v=.non/\Q (.ref x) H2) E) :
  wpAny (model X.prog X.w) X.A (call (.ref C) us) (EP X U Z Q) X.xe s:=by
 have hq:=h (s.heap.objs.size+1) s.heap.objs.size (I.hok.fresh (Nat.le_succ _)) (I.hok.fresh (zac _)) (zcv (Nat.lt_succ_self _));have I2:=Inv.made (C:=C) I;have r2:Vals (V.ref (s.heap.objs.size+1)::(vs++dvs)) (Value.ref (s.heap.objs.size+1)::(us++ds)):=.cons rfl (r.append hd);have hl:(Value.ref (s.heap.objs.size+1)::us++ds).length=ps.length:=by
  have e:=r2.length;rw[F.len _ _ _ _ hq] at e;exact e.symm
 refine wpAny_call (jys (f:=f) I.kIn M.makes M.init (beq_iff_eq.mp M.fn) (codeAny_mono (F.run _ X.stack _ _ ⟨Value.ref (s.heap.objs.size+1)::us,[]⟩ (Value.ref (s.heap.objs.size+1)::(us++ds)) _ _ E (hr.make C us [])
  (I2.env0.make C us []) (hb _ (Value.ref (s.heap.objs.size+1)::us) I2.kIn hl) r2 hq) fun r s' hq'=>?_))
 cases r with
 | error e=>exact hx U Z _ _ e s' I2 hq'
 | ok fl =>
  cases fl with
  | ret u =>
   obtain⟨v,H',I3,rv,ev,q3⟩:=I2.after hq';subst ev;exact⟨rv,⟨V.ref (s.heap.objs.size+1),H',I3,rfl,q3⟩⟩
  | next=>exact False.elim hq'
  | brk=>exact False.elim hq'
  | cont=>exact False.elim hq'
def jDh(M:Mk X.K C f)(F:FnOk X.prog X.w X.K X.mg X.base CX k f fd ps sp)(hr:Room (k+1) X.A)(hg:Gl X x)(hm:X.mg x=some (.ref C))(hb:Binds X.K fd ps ds)(hd:Vals dvs ds)(hx:jjx CX X E)
  (ha:PA X (e::es) t) (hdb:(x == ("__debug__":Str))=false:=by decide) (he:zsE e es X.env:=by rfl) (hpl:zbT pos es X.env:=by rfl) :
  PE X (.Call (.Name x p) (e::es) [] pos) (jJy C sp dvs E t):=by
 intro U s Z H Q I h;refine wpAny_Call_Name_kw (jjk I hg hm ?_ hdb);refine W.callWith_K (h₀:=X.base) I.ok.mod.kin M.kp (thn (ha pos U s Z H _ I h) fun us s1 ⟨vs,H1,I1,r,q⟩=>⟨I1.kIn,?_⟩) he hpl;exact jzn M F hr hb hd hx I1 r q
end
section
end
structure FnScope(N P:List Str)(sc:Scope):Prop where
 kind:sc.kind=.function
 co:sc.isCoroutine=false
 gen:sc.isGenerator=false
 nd:N.Nodup
 pre:N.take P.length=P
 par:∀ x∈P,sc.names.lookup x=some .local\/sc.names.lookup x=some .cell
 nofree:∀ y∈sc.names,y.2≠.free
def FnScope.m{N P:List Str}{c:Scope}(a:c.kind=.function)(b:c.isCoroutine=false)(d:c.isGenerator=false)(e:N.take P.length=P)(h:N.Nodup/\(∀ x∈P,c.names.lookup x=some .local\/c.names.lookup x=some .cell)/\∀ y∈c.names,y.2≠.free):FnScope N P c:=⟨a,b,d,h.1,e,h.2.1,h.2.2⟩
theorem joe{kindOf:Str->Option NameKind}{x:Str}:∀ {binds:List (Str×Value)} {m:qa},(∀ v,(x,v)∉binds)->bindL kindOf binds m x=m x
 | [],_,_=>rfl
 | (n,v)::r,m,h=>by
  unfold bindL;rw[joe fun w hw=>h w (zaw _ hw)]
  split
  ·have:x≠n:=by rintro rfl;exact h v zaa
   simp[this]
  ·rfl
theorem joc{kindOf:Str->Option NameKind}{x:Str}:∀ {binds:List (Str×Value)} {m:qa},(∀ v,(x,v)∉binds)->bindC kindOf binds m x=m x
 | [],_,_=>rfl
 | (n,v)::r,m,h=>by
  unfold bindC;rw[joc fun w hw=>h w (zaw _ hw)]
  split
  ·rfl
  ·have:x≠n:=by rintro rfl;exact h v zaa
   simp[this]
theorem jod{kindOf:Str->Option NameKind}{x:Str}{v:Value}:∀ {P:List Str} {vs:List Value} {i:Nat} {m:qa},P.Nodup->P[i]? = some x->vs[i]? = some v->kindOf x=some .local ->
  bindL kindOf (P.zip vs) m x=some v
 | [],_,_,_,_,h,_,_=>by simp at h
 | _::_,[],_,_,_,_,h,_=>by simp at h
 | p::P,w::vs,0,m,nd,h1,h2,hk=>by
  simp at h1 h2;subst h1;subst h2
  show bindL kindOf ((p,w)::P.zip vs) m p=_;unfold bindL;rw[joe fun v hv=>(List.nodup_cons.mp nd).1 (List.of_mem_zip hv).1,if_pos hk];simp
 | p::P,w::vs,i+1,m,nd,h1,h2,hk=>by
  show bindL kindOf ((p,w)::P.zip vs) m x=_;unfold bindL;exact jod (i:=i) (List.nodup_cons.mp nd).2 (by simpa using h1) (by simpa using h2) hk
theorem job{kindOf:Str->Option NameKind}{x:Str}{v:Value}:∀ {P:List Str} {vs:List Value} {i:Nat} {m:qa},P.Nodup->P[i]? = some x->vs[i]? = some v->kindOf x≠some .local ->
  bindC kindOf (P.zip vs) m x=some v
 | [],_,_,_,_,h,_,_=>by simp at h
 | _::_,[],_,_,_,_,h,_=>by simp at h
 | p::P,w::vs,0,m,nd,h1,h2,hk=>by
  simp at h1 h2;subst h1;subst h2
  show bindC kindOf ((p,w)::P.zip vs) m p=_;unfold bindC;rw[joc fun v hv=>(List.nodup_cons.mp nd).1 (List.of_mem_zip hv).1,if_neg hk];simp
 | p::P,w::vs,i+1,m,nd,h1,h2,hk=>by
  show bindC kindOf ((p,w)::P.zip vs) m x=_;unfold bindC;exact job (i:=i) (List.nodup_cons.mp nd).2 (by simpa using h1) (by simpa using h2) hk
def start(N:List Str)(vs:List V):St:=vs.map some++List.replicate (N.length-vs.length) none
def cxOf(CX:CXT)(P:Program)(w:World)(K:W.Frag)(mg:qa)(base:Heap)(N:List Str)(qual:Str)(scope:Scope)(f:Addr)(cd:Value)(A:Around)(outer:List Env)(s:Shared)(H:Hp)(E:XK):Cx where
 prog:=P
 w:=w
 K:=K
 mg:=mg
 base:=base
 A:=A.deeper (envOfC qual scope s.heap.objs.size f cd)
 N:=N
 s₀:=s
 Hz:=H
 env:=envOfC qual scope s.heap.objs.size f cd
 outer:=outer
 stack:=envOfC qual scope s.heap.objs.size f cd::outer
 ex:=[]
 calm:=true
 fn:=fun _=>true
 pn:=[]
 xe:=fun e s'=>wpAny (model P w) (A.deeper (envOfC qual scope s.heap.objs.size f cd)) (leaving (envOfC qual scope s.heap.objs.size f cd) e) (fun _ s''=>CX outer H s E e s'') (fun e' s''=>CX outer H s E e' s'') s'
def jrg{sc:Scope}{n:Nat}{x:Str}(h:sc.names.lookup x=some .cell):∃ c,(cellsFrom n sc.names []).lookup x=some c:=by
 have q:=W.cellsFrom_some sc.names n [] (.inl h);exact Option.isSome_iff_exists.mp q
def ju6{CX:CXT}{P:Program}{w:World}{K:W.Frag}{mg:qa}{base:Heap}{N ps:List Str}{qual:Str}{scope:Scope}{f:Addr}{cd:Value}{A:Around}{outer:List Env}{s s1:Shared}{H:Hp}{E:XK}{us:List Value}{vs:List V}
  (S:FnScope N ps scope) (hd:A.handled=none) (e0:Env0 P w K mg base A outer s H) (hl:vs.length=ps.length) (r:Vals vs us)
  (x:InCallC s s.heap.objs.size (bindL (envOfC qual scope s.heap.objs.size f cd).kindOf (ps.zip us) fun _=>none) (cellsFrom (s.heap.objs.size+1) scope.names []) (bindC (envOfC qual scope s.heap.objs.size f cd).kindOf (ps.zip us) fun _=>none) s1) :
  Inv (cxOf CX P w K mg base N qual scope f cd A outer s H E) [] (start N vs) H s1:=by
 have hpl:ps.length<=N.length:=by have:=congrArg List.length S.pre;rw[List.length_take] at this;omega
 obtain⟨h1,tk,rfl,hk⟩:=x.done;have noA:∀ b:Addr,b∉(cxOf CX P w K mg base N qual scope f cd A outer s H E).ex:=fun b z=>absurd (show b∈([]:List Addr) from z) (by simp)
 refine⟨⟨e0.mod,S.kind,rfl,rfl,zac _,fun y z c h1 h2=>?_,fun y hy=>?_,fun y c _ h=>?_,fun _=>hd,Around.frames_deeper e0.frames,.inr ⟨rfl,rfl⟩,fun b z=>absurd z (noA b),e0.bs,e0.bsz,fun b _ _=>noA b,fun b z=>absurd z (noA b),e0.funs,e0.frf⟩,
  rfl,e0.bare,Un.kept hk,⟨_,x.toInCall.ns,fun i y v h1 h2 h3=>?_⟩,fun y c h=>⟨_,x.cell y c h⟩,e0.hok.fresh (zac _),fun y c h=>?_,fun p hp=>absurd (show p∈([]:qc) from hp) (by simp),e0.hok.kept hk,?_⟩
 ·exact name_of_addr x.apart (PySem.mem_of_lookup h1) (PySem.mem_of_lookup h2)
 ·have hy:scope.names.lookup y=some .cell\/scope.names.lookup y=some .free:=hy;rcases hy with hy|hy
  ·exact jrg hy
  ·exact absurd rfl (S.nofree _ (PySem.mem_of_lookup hy))
 ·exact Nat.le_of_lt (x.above y c (PySem.mem_of_lookup h))
 ·have hi:i<vs.length:=by
   unfold start at h2
   by_cases hi:i<vs.length
   ·exact hi
   ·rw[List.getElem?_append_right (by simpa using hi)] at h2;rw[List.getElem?_replicate] at h2
    split at h2<;>cases h2
  have ha:vs[i]? = some v:=by
   unfold start at h2;rw[List.getElem?_append_left (by simpa using hi),zba] at h2
   cases e:vs[i]? with
   | none=>rw[e] at h2;cases h2
   | some a=>rw[e] at h2;cases h2;rfl
  obtain⟨u,hu,rv⟩:=r.get ha;have hp:ps[i]? = some y:=by
   rw[<- S.pre,List.getElem?_take_of_lt (by omega)];exact h1
  have ndP:ps.Nodup:=by rw[<- S.pre];exact S.nd.sublist (List.take_sublist _ _)
  refine⟨u,rv,?_⟩;rcases S.par y (List.mem_of_getElem? hp) with k|k
  ·exact .inl ⟨k,jod ndP hp hu k⟩
  ·obtain⟨c,e⟩:=jrg (n:=s.heap.objs.size+1) k;refine .inr ⟨.inl k,c,e,?_⟩;have q:=x.cell y c e;rw[job ndP hp hu (by show scope.names.lookup y≠_;rw[k];decide)] at q;exact q
 ·exact e0.hok.fresh (Nat.le_of_lt (x.above y c (PySem.mem_of_lookup h)))
 ·unfold start;show _=N.length;rw[zcb,zav,List.length_replicate];omega
def jFh{CX:CXT}{P:Program}{w:World}{K:W.Frag}{mg:qa}{base:Heap}{k:Nat}{f:Addr}{name qual:Str}{params:Arguments}{body:List Stmt}{scope:Scope}{dV kV doc pm cdv ct oc:Value}{an od:Option Addr}
  {osl:qf} {N ps:List Str} {sp:Sp} (lk:K.lookup f=some ⟨oc,od,.func (W.fnOf name qual params body scope dV kV doc pm an cdv ct),osl⟩) (hcd:W.codeIn K cdv qual=true) (S:FnScope N ps scope)
  (len:∀ vs H Q E,sp vs H Q E->vs.length=ps.length)
  (hbody:∀ (A:Around) (outer:List Env) (s:Shared) (H:Hp) (vs:List V) (Q:VK) (E:XK),Room k (A.deeper (envOfC qual scope s.heap.objs.size f cdv))->sp vs H Q E ->
   ∃ t,PSs (cxOf CX P w K mg base N qual scope f cdv A outer s H E) body t/\t { nx:=fun _ H'=>Q .non H',rt:=Q } (start N vs) H) :
  FnOk P w K mg base CX (k+1) f (W.fnOf name qual params body scope dV kV doc pm an cdv ct) ps sp:=by
 refine⟨len,fun A outer s H args us vs Q E hr e0 hb r hsp=>?_⟩;have hl:=len _ _ _ _ hsp;have KX:K.In s.heap:=e0.mod.kin.keeps fun b o e=>(e0.bs b o e).1
 have lim:s.heap.NoLimit:=e0.mod.nolimit.keeps fun b o e=>(e0.bs b o e).1
 have hkind:∀ y∈ps.zip us,scope.names.lookup y.1=some .local\/(scope.names.lookup y.1=some .cell/\((cellsFrom (s.heap.objs.size+1) scope.names []).lookup y.1).isSome=true):=fun ⟨n,v⟩ hy=>by
  rcases S.par n (List.of_mem_zip hy).1 with q|q
  ·exact .inl q
  ·exact .inr ⟨q,W.cellsFrom_some _ _ _ (.inl q)⟩
 refine codeAny_call_function hr.depth (KX _ _ lk) rfl S.co S.gen rfl (W.codeRec_of KX hcd) (hb _ _ _ _ ?_);refine wpAny_newFunctionEnv_cells S.kind hkind fun env he s1 x=>?_
 subst he;refine⟨lim.keeps x.toInCall.keep,codeAny_func ?_⟩;obtain⟨t,ht,hq⟩:=hbody A outer s H vs Q E (hr.deeper _) hsp;have I:Inv (cxOf CX P w K mg base N qual scope f cdv A outer s H E) [] (start N vs) H s1:=ju6 S hr.hd e0 hl r x;refine wpAny_mono (ht [] s1 (start N vs) H _ I hq) (fun fl s' hs=>?_) fun e s' hs=>hs
 have fin:∀ {Z':St} {H':Hp} {v:V} {u:Value},Inv (cxOf CX P w K mg base N qual scope f cdv A outer s H E) [] Z' H' s'->RelV v u->Q v H'->CE outer P w H s Q u s' :=
  fun {Z' H' v u} Jq rv q=>⟨v,H',Jq.os,Jq.bare,Jq.base,Jq.hok,rv,q⟩
 cases fl with
 | ret u =>
  obtain⟨v,Z',H',Jq,rv,q⟩:=hs;exact fin Jq rv q
 | next =>
  obtain⟨Z',H',Jq,q⟩:=hs;exact fin (v:=V.non) (u:=Value.none) Jq rfl q
 | brk =>
  obtain⟨_,_,_,q⟩:=hs;exact False.elim q
 | cont =>
  obtain⟨_,_,_,q⟩:=hs;exact False.elim q
section
variable {X:Cx}{x:Str}{p pos:Pos}{e:Expr}{es:List Expr}{t:TA}{id T:String}{r:List V->Hp->VK->Prop}
def tCB(r:List V->Hp->VK->Prop)(t:TA):TE:=fun Z H Q=>t Z H fun vs H1=>r vs H1 Q
def jnp(hc:CallR X (.builtin id) r)(hg:Gl X x)(hm:X.mg x=none)(hv:bootBuiltins x=some (.builtin id))(ha:PA X (e::es) t)(hn:x≠"__name__":=by decide)(hdb:(x == ("__debug__":Str))=false:=by decide)
  (he:zsE e es X.env:=by rfl) (hpl:zbT pos es X.env:=by rfl):PE X (.Call (.Name x p) (e::es) [] pos) (tCB r t):=by
 intro U s Z H Q I h;refine wpAny_Call_Name_kw (jl4 I hg hm hv ?_ hn hdb);exact PyProof.Rows.callWith_builtin1 (thn (ha pos U s Z H _ I h) fun us s1 ⟨vs,H1,I1,r1,q1⟩=>hc U s1 Z H1 vs us Q I1 r1 q1) he hpl
def jwb(hc:CallR X (.type T) r)(hg:Gl X x)(hm:X.mg x=none)(hv:bootBuiltins x=some (.type T))(ha:PA X (e::es) t)(hn:x≠"__name__":=by decide)(hdb:(x == ("__debug__":Str))=false:=by decide)
  (he:zsE e es X.env:=by rfl) (hpl:zbT pos es X.env:=by rfl):PE X (.Call (.Name x p) (e::es) [] pos) (tCB r t):=by
 intro U s Z H Q I h;refine wpAny_Call_Name_kw (jl4 I hg hm hv ?_ hn hdb);exact PyProof.Rows.callWith_type1 (thn (ha pos U s Z H _ I h) fun us s1 ⟨vs,H1,I1,r1,q1⟩=>hc U s1 Z H1 vs us Q I1 r1 q1) he hpl
end
end L2
namespace HT
open PySem PyProof.Rows
def lexLt:List Int->List Int->Bool
 | [],[]=>false
 | [],_::_=>true
 | _::_,[]=>false
 | x::xs,y::ys=>if x=y then lexLt xs ys else decide (x<y)
section
open PySem.SeqAt
open PySem.AutoSeq1 (wpAny_loadPart')
open PySem.MeetsSeq PySem.MeetsSeq2 PySem.MeetsSeq3
end
section
variable {prog:Program}{w:World}{A:Around}{E:qd}{s:Shared}
def cat_tup{t b:Addr}{vs ws:List Value}{Q:qd}(ht:IsTup s.heap t vs.toArray)(hb:IsTup s.heap b ws.toArray)(hv:vs≠[])
  (h1:ws=[]->Q (.ref t) s) (h2:ws≠[]->Q (.ref s.heap.objs.size) { s with heap:=s.heap.push { cls:=.type "tuple",data:=.seq (vs++ws).toArray } })
  (hsz:vs.length+ws.length<=sizeLine):wpAny (model prog w) A (binaryOp .Add (.ref t) (.ref b)) Q E s:=by
 obtain⟨⟨cls,dd,data,sl⟩,ho,hc,n,hd⟩:=id ht;obtain⟨⟨cls2,dd2,data2,sl2⟩,ho2,hc2,n2,hd2⟩:=id hb;simp only at hc hd hc2 hd2;subst hc hd hc2 hd2;have e:vs.toArray++ws.toArray=(vs++ws).toArray:=by simp
 by_cases hw:ws=[]
 ·exact concat_meets ⟨_,ho,rfl⟩ ⟨_,ho2,rfl⟩ noFill_tuple_add seq_tuple_add PySem.F.slot_tuple_add PySem.F.entry_tuple_add (PySem.F.args_tuple_add_2 _ _)
   (tuple_addW1 t b vs.toArray ws.toArray n n2 dd dd2 sl sl2 (by simpa using hv) (by simp[hw])) ⟨ho,ho2,h1 hw⟩
 ·refine concat_meets ⟨_,ho,rfl⟩ ⟨_,ho2,rfl⟩ noFill_tuple_add seq_tuple_add PySem.F.slot_tuple_add PySem.F.entry_tuple_add (PySem.F.args_tuple_add_2 _ _)
   (tuple_addW2 t b vs.toArray ws.toArray n n2 dd dd2 sl sl2 (by simpa using hv) (by simpa using hw) (by rw[zbx,zbx];exact hsz)) ⟨ho,ho2,?_⟩
  rw[e];exact h2 hw
def sIx(n d:Nat):Option Int->Nat
 | none=>d
 | some v=>if v<0 then (v+(n:Int)).toNat else min v.toNat n
def jG3(n d:Nat)(hd:d<=n)(o:Option Int):sIx n d o<=n:=by
 cases o with
 | none=>exact hd
 | some v =>
  show (if v<0 then (v+(n:Int)).toNat else min v.toNat n)<=n
  by_cases hv:v<0
  ·rw[if_pos hv];omega
  ·rw[if_neg hv];exact Nat.min_le_right _ _
def jul(v:Int)(n d:Nat):(if v<0 then max (v+(n:Int)) 0 else min v (n:Int))=((sIx n d (some v):Nat):Int):=by
 show (if v<0 then max (v+(n:Int)) 0 else min v (n:Int))=(((if v<0 then (v+(n:Int)).toNat else min v.toNat n):Nat):Int)
 by_cases hv:v<0
 ·simp only[if_pos hv];omega
 ·simp only[if_neg hv];omega
def js2(lo hi:Option Int)(n:Nat):Builtin.Slice.sliceAdjust lo hi 1 (n:Int)=(((sIx n 0 lo:Nat):Int),((sIx n n hi:Nat):Int)):=by
 have h1:¬ ((1:Int)<0):=by omega
 unfold Builtin.Slice.sliceAdjust;simp only[h1,if_false];refine Prod.ext ?_ ?_
 ·cases lo with
  | none=>rfl
  | some v=>exact jul v n 0
 ·cases hi with
  | none=>rfl
  | some v=>exact jul v n n
def jtn(i j:Nat):Builtin.Slice.slicePlaces (i:Int) (j:Int) 1=j-i:=by
 unfold Builtin.Slice.slicePlaces;have h1:(1:Int) > 0:=by omega
 simp only[h1,if_true,Int.ediv_one]
 split<;>omega
def jmf{v:Value}{o:Option Int}{Q:Option Int->Shared->Prop}(p:IsPart v o)(h:Q o s):wpAny (model prog w) A (Builtin.Slice.slicePartIndex v) Q E s:=by
 cases p with
 | none=>exact slicePart_none h
 | int i t=>exact slicePart_int h
def jke{sl:Addr}{vl vu:Value}{lo hi:Option Int}{n:Nat}{Q:Int×Int×Nat->Shared->Prop}(hs:s.heap.IsSliceOf sl vl vu .none)(pl:IsPart vl lo)(pu:IsPart vu hi)
  (h:Q (((sIx n 0 lo:Nat):Int),1,sIx n n hi-sIx n 0 lo) s):wpAny (model prog w) A (Builtin.Slice.sliceApplied (.ref sl) (pure (n:Int))) Q E s:=by
 obtain⟨os,hos,hcs,hds⟩:=id hs;unfold Builtin.Slice.sliceApplied Builtin.Slice.sliceFields;refine zay (zay (wpAny_field hos hds (x:=vl) rfl (zay (wpAny_field hos hds (x:=vu) rfl (zay (wpAny_field hos hds (x:=.none) rfl (zab ?_)))))));refine zay (slicePart_none ?_);show wpAny _ _ (if ((1:Int) == 0)=true then _ else _) _ _ s;rw[if_neg (by decide)];refine zay (jmf pl (zay (jmf pu (zay (zab ?_)))));show wpAny _ _ (match Builtin.Slice.sliceAdjust lo hi 1 (n:Int) with|(lo,hi)=>pure (lo,(1:Int),Builtin.Slice.slicePlaces lo hi 1)) _ _ s;rw[js2 lo hi n];show wpAny _ _ (pure (((sIx n 0 lo:Nat):Int),(1:Int),Builtin.Slice.slicePlaces ((sIx n 0 lo:Nat):Int) ((sIx n n hi:Nat):Int) 1)) _ _ s;rw[jtn];exact zab h
def jzd(xs:Array Value)(i k:Nat):((List.range k).filterMap fun (m:Nat)=>xs[((i:Int)+(m:Int)*1).toNat]?).toArray=((xs.toList.drop i).take k).toArray:=by
 have e:(fun (m:Nat)=>xs[((i:Int)+(m:Int)*1).toNat]?)=fun m=>xs[i+m]?:=by
  funext m
  have:((i:Int)+(m:Int)*1).toNat=i+m:=by omega
  rw[this]
 rw[e];have:=pick_run xs i k;rw[List.filterMap_map] at this;have e2:((fun x=>xs[x]?) ∘ fun x=>i+x)=fun m=>xs[i+m]?:=rfl
 rw[e2] at this;rw[this]
def getItem_tuple_cut{t sl:Addr}{items:Array Value}{vl vu:Value}{lo hi:Option Int}{Q:qd}(ht:IsTup s.heap t items)(hs:s.heap.IsSliceOf sl vl vu .none)(pl:IsPart vl lo)(pu:IsPart vu hi)
  (hw:¬ (sIx items.size 0 lo=0/\sIx items.size items.size hi=items.size))
  (h:Q (.ref s.heap.objs.size) { s with heap:=s.heap.push { cls:=.type "tuple",data:=.seq ((items.toList.drop (sIx items.size 0 lo)).take (sIx items.size items.size hi-sIx items.size 0 lo)).toArray } })
  (hsz:items.size<=sizeLine):wpAny (model prog w) A (getItem (.ref t) (.ref sl)) Q E s:=by
 have htake:sizeOk (.seq ((items.toList.drop (sIx items.size 0 lo)).take (sIx items.size items.size hi-sIx items.size 0 lo)).toArray):=by
  show ((items.toList.drop (sIx items.size 0 lo)).take (sIx items.size items.size hi-sIx items.size 0 lo)).toArray.size<=sizeLine;rw[zbx,List.length_take,List.length_drop,Array.length_toList];omega
 have hj:sIx items.size items.size hi<=items.size:=jG3 _ _ (zac _) hi;obtain⟨os,hos,hcs,hds⟩:=id hs;have hTs:s.TypeIs (.ref sl) "slice":=⟨os,hos,hcs⟩
 unfold getItem
 try with_reducible refine wpAny_holding ?_
 first|refine zay (zab ?_)|skip
 refine zay (wpAny_sequenceKey ht.typeIs (by decide) ?_);refine zay (wpAny_callSpecial?_slot (name:=Str.ofString "__getitem__") ht.typeIs PyProof.Rows.slot_tuple_getitem
  (wpAny_call_entry PyProof.Rows.slot_tuple_getitem ht.typeIs entry_tuple_getitem ?_ (args_tuple_getitem _ _)))
 show wpAny _ _ (Builtin.Tuple.tupleItemsOf (.ref t) >>= _) _ _ s;refine zay (tupleItemsOf_ ht ?_);refine zay (wpAny_typeOf hTs ?_);rw[if_pos (by decide)];refine zay (jke hs pl pu ?_);have hno:¬ ((((sIx items.size 0 lo:Nat):Int) == 0&&(1:Int) == 1&&(sIx items.size items.size hi-sIx items.size 0 lo) == items.size)=true):=by
  intro q;rw[Bool.and_eq_true,Bool.and_eq_true] at q;have q1:((sIx items.size 0 lo:Nat):Int)=0:=eq_of_beq q.1.1;have q2:sIx items.size items.size hi-sIx items.size 0 lo=items.size:=eq_of_beq q.2;exact hw ⟨by omega,by omega⟩
 show wpAny _ _ (if (((sIx items.size 0 lo:Nat):Int) == 0&&(1:Int) == 1&&(sIx items.size items.size hi-sIx items.size 0 lo) == items.size)=true then _ else _) _ _ s;rw[if_neg hno,jzd]
 first
  | exact zay (m:=Builtin.Tuple.tupleExact _) (wpAny_newObj_type (zab ⟨_,rfl,zab h⟩) htake)
  | exact zay (m:=Builtin.Tuple.tupleExact _) (wpAny_newObj_type (zay (zab (zab ⟨_,rfl,zab h⟩))) htake)
  | exact zay (zay (m:=Builtin.Tuple.tupleExact _) (wpAny_newObj_type (zab (zab ⟨_,rfl,zab h⟩)) htake))
  | exact zay (zay (m:=Builtin.Tuple.tupleExact _) (wpAny_newObj_type (zab ⟨_,rfl,zab h⟩) htake))
end
end HT
namespace L2
open PyProof.Rows
abbrev TO:=St->Hp->(Option Int->Hp->Prop)->Prop
def PO(X:Cx)(e:Option Expr)(t:TO):Prop :=
 ∀ (U:qc) (s:Shared) (Z:St) (H:Hp) (Q:Option Int->Hp->Prop),Inv X U Z H s->t Z H Q ->
  wpAny (model X.prog X.w) X.A (evalPart e X.env) (fun u s'=>∃ o H',Inv X U Z H' s'/\IsPart u o/\Q o H') X.xe s
def jEd:TO:=fun _ H Q=>Q none H
def jJ1(t:TE):TO:=fun Z H Q=>t Z H fun x H1=>∃ i,x=.int i/\Q (some i) H1
section
variable {X:Cx}{e:Expr}{te:TE}{lo hi:Option Expr}{tl th:TO}{pos p2:Pos}
def jDm:PO X none jEd:=by
 intro U s Z H Q I h;rw[evalPart_none];exact zab ⟨none,H,I,.none,h⟩
def jDn(h:PE X e te):PO X (some e) (jJ1 te):=by
 intro U s Z H Q I hw;rw[evalPart_some];refine thn (h U s Z H _ I hw) fun u s1 hzz=>?_
 obtain⟨x,H1,I1,r1,q1⟩:=hzz;obtain⟨i,rfl,q⟩:=q1;obtain⟨t,rfl⟩:=r1;exact⟨some i,H1,I1,.int i t,q⟩
def SlR(X:Cx)(r:V->Option Int->Option Int->Hp->VK->Prop):Prop :=
 ∀ (U:qc) (s:Shared) (Z:St) (H:Hp) (x:V) (v vl vu:Value) (lo hi:Option Int) (sl:Addr) (Q:VK),Inv X U Z H s->RelV x v->s.heap.IsSliceOf sl vl vu .none->IsPart vl lo->IsPart vu hi->r x lo hi H Q ->
  ∃ T id,typeLookup (.type T) "__getitem__"=pure (some (.builtin id))/\s.TypeIs v T/\wpAny (model X.prog X.w) X.A (getItem v (.ref sl)) (EP X U Z Q) X.xe s
def SlR.or{r r':V->Option Int->Option Int->Hp->VK->Prop}(h:SlR X r)(h':SlR X r'):SlR X (fun x lo hi H Q=>r x lo hi H Q\/r' x lo hi H Q):=by
 intro U s Z H x v vl vu lo hi sl Q I rx hs pl pu q;rcases q with q|q
 ·exact h U s Z H x v vl vu lo hi sl Q I rx hs pl pu q
 ·exact h' U s Z H x v vl vu lo hi sl Q I rx hs pl pu q
def tSl(r:V->Option Int->Option Int->Hp->VK->Prop)(te:TE)(tl th:TO):TE:=fun Z H Q=>te Z H fun x H1=>tl Z H1 fun l H2=>th Z H2 fun u H3=>r x l u H3 Q
def jza{r:V->Option Int->Option Int->Hp->VK->Prop}(hr:SlR X r)(he:PE X e te)(hl:PO X lo tl)(hu:PO X hi th):PE X (.Subscript e (.Slice lo hi none p2) pos) (tSl r te tl th):=by
 intro U s Z H Q I h;refine Subscript_ (thn (he U s Z H _ I h) fun v s1 hzz=>?_);obtain⟨x,H1,I1,r1,q1⟩:=hzz;refine wpAny_Slice (thn (hl U s1 Z H1 _ I1 q1) fun vl s2 ⟨l,H2,I2,pl,q2⟩=>thn (hu U s2 Z H2 _ I2 q2) fun vu s3 hzz=>?_);obtain⟨u,H3,I3,pu,q3⟩:=hzz;rw[evalPart_none];refine zab ?_;have I4:Inv X U Z H3 { s3 with heap:=s3.heap.push { cls:=.type "slice",data:=.fields #[vl,vu,.none] } }:=I3.kept (t':=s3.toks) fun b ob q=>zaz _ q
 obtain⟨T,id,hT,ht,hg⟩:=hr U { s3 with heap:=s3.heap.push { cls:=.type "slice",data:=.fields #[vl,vu,.none] } } Z H3 x v vl vu l u s3.heap.objs.size Q I4 r1 (Heap.IsSliceOf.new ..) pl pu q3;show wpAny (model X.prog X.w) X.A (subscriptTail e (.Slice lo hi none p2) v (.ref s3.heap.objs.size)) (EP X U Z Q) X.xe { s3 with heap:=s3.heap.push { cls:=.type "slice",data:=.fields #[vl,vu,.none] } };exact tail_any (ops:=[.ref s3.heap.objs.size,v]) ht hT hg (by with_unfolding_all rfl)
def cutV(xs:List V)(lo hi:Option Int):List V:=(xs.drop (HT.sIx xs.length 0 lo)).take (HT.sIx xs.length xs.length hi-HT.sIx xs.length 0 lo)
def jkn(xs:List V)(lo hi:Option Int):(cutV xs lo hi).length<=xs.length:=by
 unfold cutV;rw[List.length_take,List.length_drop];omega
def rSlT(K:W.Frag):V->Option Int->Option Int->Hp->VK->Prop:=fun x lo hi H Q=>∃ a xs,x=.ref a/\SqT K H a xs /\
 ¬ (HT.sIx xs.length 0 lo=0/\HT.sIx xs.length xs.length hi=xs.length)/\∀ p,H p=none->Q (.ref p) (upd H p (.tup (cutV xs lo hi)))
def sl_tup:SlR X (rSlT X.K):=by
 intro U s Z H x v vl vu lo hi sl Q I rx hs pl pu h;obtain⟨a,xs,rfl,hx,hw,q⟩:=h;cases rx;obtain⟨its,r,ht,hz⟩:=I.tuple hx;have hlen:its.toArray.size=xs.length:=by rw[zbx];exact r.length.symm
 refine⟨"tuple",_,PyProof.Rows.slot_tuple_getitem.lookup,ht.typeIs,?_⟩;refine HT.getItem_tuple_cut ht hs pl pu (by rw[hlen];exact hw) ?_ (by rw[hlen];exact hz);rw[hlen];refine⟨.ref s.heap.objs.size,_,I.laid (t':=s.toks) (o:=.tup (cutV xs lo hi)) (fun b ob q=>zaz _ q) (zac _) ?_,rfl,q _ (I.hok.fresh (zac _))⟩;exact⟨zdy (jkn xs lo hi) hz,_,(r.drop (HT.sIx xs.length 0 lo)).take (HT.sIx xs.length xs.length hi-HT.sIx xs.length 0 lo),IsTup.new _ _⟩
def jwr(K:W.Frag):R2:=fun x y H Q=>∃ a b xs ys,x=.ref a/\y=.ref b/\SqT K H a xs/\SqT K H b ys/\xs≠[]/\xs.length+ys.length<=sizeLine /\
 (ys=[]->Q (.ref a) H)/\(ys≠[]->∀ p,H p=none->Q (.ref p) (upd H p (.tup (xs++ys))))
def Vals.nil_iff{xs:List V}{us:List Value}(r:Vals xs us):us=[]↔xs=[]:=by
 cases r with
 | nil=>simp
 | cons _ _=>simp
def jv2:OpR X (binaryOp .Add) (jwr X.K):=by
 intro U s Z H x y v u Q I rx ry h;obtain⟨a,b,xs,ys,rfl,rfl,ha,hb,hx,hz,q1,q2⟩:=h;cases rx;cases ry;obtain⟨its,r1,p1,_⟩:=I.tuple ha;obtain⟨its2,r2,p2,_⟩:=I.tuple hb;refine HT.cat_tup p1 p2 (fun z=>hx (r1.nil_iff.mp z)) (fun z=>⟨.ref a,H,I,rfl,q1 (r2.nil_iff.mp z)⟩) (fun z=>?_) (by rw[<- r1.length,<- r2.length];exact hz);refine⟨.ref s.heap.objs.size,_,I.laid (t':=s.toks) (o:=.tup (xs++ys)) (fun b ob q=>zaz _ q) (zac _) ?_,rfl,q2 (fun w=>z (r2.nil_iff.mpr w)) _ (I.hok.fresh (zac _))⟩;exact⟨by rw[zcb];exact hz,_,r1.append r2,IsTup.new _ _⟩
end
def ixN(n:Nat)(i:Int):Option Nat:=if 0<=i then (if i<n then some i.toNat else none) else if -(n:Int)<=i then some (i+n).toNat else none
def atI{α:Type}(xs:List α)(i:Int):Option α:=(ixN xs.length i).bind fun j=>xs[j]?
def jCp{n:Nat}{i:Int}{j:Nat}(h:ixN n i=some j):seqIndex? i n=some j/\j<n/\-(n:Int)<=i/\i<n:=by
 unfold ixN at h
 by_cases h0:0<=i
 ·rw[if_pos h0] at h
  by_cases h1:i<n
  ·rw[if_pos h1] at h;have e:i.toNat=j:=zby h;exact⟨by rw[seqIndex_of h0 h1,e],by omega,by omega,h1⟩
  ·rw[if_neg h1] at h;cases h
 ·rw[if_neg h0] at h
  by_cases h1:-(n:Int)<=i
  ·rw[if_pos h1] at h;have e:(i+n).toNat=j:=zby h;exact⟨by rw[seqIndex_neg (by omega) h1,e],by omega,h1,by omega⟩
  ·rw[if_neg h1] at h;cases h
def atI_get{α:Type}{xs:List α}{i:Int}{v:α}(h:atI xs i=some v):∃ j,seqIndex? i xs.length=some j/\xs[j]? = some v/\j<xs.length/\-(xs.length:Int)<=i/\i<xs.length:=by
 unfold atI at h
 cases e:ixN xs.length i with
 | none=>rw[e] at h;cases h
 | some j =>
  rw[e] at h;obtain⟨h1,h2,h3,h4⟩:=jCp e;exact⟨j,h1,h,h2,h3,h4⟩
def jkj(b:Expr):Prop:=∀ o i,subscripted b false o i=operate [o,i] (getItem o i)
def IxR(X:Cx)(r:R2):Prop :=
 ∀ (value slice:Expr) (U:qc) (s:Shared) (Z:St) (H:Hp) (x y:V) (v u:Value) (Q:VK),Inv X U Z H s->RelV x v->RelV y u->r x y H Q ->
  subscripted slice false v u=operate [v,u] (getItem v u)->wpAny (model X.prog X.w) X.A (subscriptTail value slice v u) (EP X U Z Q) X.xe s
def MtR(X:Cx)(id:String)(r:V->List V->Hp->VK->Prop):Prop :=
 ∀ (U:qc) (s:Shared) (Z:St) (H:Hp) (x:V) (xs:List V) (v:Value) (us:List Value) (Q:VK),Inv X U Z H s->RelV x v->Vals xs us->r x xs H Q ->
  wpAny (model X.prog X.w) X.A (call (.builtin id) (v::us)) (EP X U Z Q) X.xe s
section
variable {X:Cx}{a b:Expr}{ta tb:TE}{pos:Pos}
def IxR.or{r r':R2}(h:IxR X r)(h':IxR X r'):IxR X (fun x y H Q=>r x y H Q\/r' x y H Q):=by
 intro value slice U s Z H x y v u Q I rx ry q hs;rcases q with q|q
 ·exact h value slice U s Z H x y v u Q I rx ry q hs
 ·exact h' value slice U s Z H x y v u Q I rx ry q hs
def jy8{r:R2}(hr:IxR X r)(ha:PE X a ta)(hb:PE X b tb)(hs:jkj b):PE X (.Subscript a b pos) (tOp r ta tb):=by
 intro U s Z H Q I h;exact Subscript_ (binT ha hb I h fun v u s2 x y H2 I2 rx ry q=>hr a b U s2 Z H2 x y v u Q I2 rx ry q (hs _ _))
def rIxL(K:W.Frag):R2:=fun x y H Q=>∃ p xs i v,x=.ref p/\y=.int i/\SqL K H p xs/\atI xs i=some v/\Q v H
def rIxT(K:W.Frag):R2:=fun x y H Q=>∃ p xs i v,x=.ref p/\y=.int i/\SqT K H p xs/\atI xs i=some v/\Q v H
def rIxS:R2:=fun x y H Q=>∃ z i c,x=.str z/\y=.int i/\z.length<=sizeLine/\atI z.cps.toList i=some c/\Q (.str ⟨#[c]⟩) H
def ix_list:IxR X (rIxL X.K):=by
 intro value slice U s Z H x y v u Q I rx ry h hs;obtain⟨p,xs,i,z,rfl,rfl,hq,he,q⟩:=h;cases rx;obtain⟨t,rfl⟩:=ry;obtain⟨its,r,pl,hz⟩:=I.list hq;obtain⟨j,h1,h2,h3,h4,h5⟩:=atI_get he;obtain⟨w,ew,rw'⟩:=r.get h2;have hl:=r.length;have hn:=jl6;have fin:EP X U Z Q w s:=⟨z,H,I,rw',q⟩
 by_cases h0:0<=i
 ·have hj:i.toNat=j:=by
   rw[seqIndex_of h0 h5] at h1;exact zby h1
  exact item_listR pl.isList h0 (by omega) (by rw[hj];simpa using ew) fin hs
 ·have hj:(i+(its.toArray.size:Int)).toNat=j:=by
   rw[seqIndex_neg (by omega) h4] at h1;rw[zbx,<- hl];exact zby h1
  exact subscriptTail_builtinR (x:=w) pl.isList.typeIs slot_list_getitem.lookup
   (wpAny_getItem_list_neg (Q:=fun r s'=>r=w/\EP X U Z Q r s') pl.isList (by omega) (by rw[zbx]<;>omega) (by omega) (by rw[hj];simpa using ew) ⟨rfl,fin⟩) hs
def ix_tup:IxR X (rIxT X.K):=by
 intro value slice U s Z H x y v u Q I rx ry h hs;obtain⟨p,xs,i,z,rfl,rfl,hq,he,q⟩:=h;cases rx;obtain⟨t,rfl⟩:=ry;obtain⟨its,r,pl,hz⟩:=I.tuple hq;obtain⟨j,h1,h2,h3,h4,h5⟩:=atI_get he;obtain⟨w,ew,rw'⟩:=r.get h2;have hl:=r.length;have hn:=jl6;have fin:EP X U Z Q w s:=⟨z,H,I,rw',q⟩
 exact subscriptTail_builtinR (x:=w) pl.typeIs slot_tuple_getitem.lookup
  (getItem_tuple (j:=j) (Q:=fun r s'=>r=w/\EP X U Z Q r s') pl (by omega) (by omega) (by rw[zbx,<- hl];exact h1) (by simpa using ew) ⟨rfl,fin⟩) hs
def jFp:IxR X rIxS:=by
 intro value slice U s Z H x y v u Q I rx ry h hs;obtain⟨z,i,c,rfl,rfl,hz,he,q⟩:=h;obtain⟨t,rfl⟩:=rx;obtain⟨t',rfl⟩:=ry;obtain⟨j,h1,h2,h3,h4,h5⟩:=atI_get he;have hl:z.cps.toList.length=z.length:=by simp[Str.length]
 rw[hl] at h1 h4 h5;have hn:=jl6;exact tail_any (typeIs_str s z t) slot_str_getitem.lookup (getItem_str (c:=c) (by
  have e1:decide (i < -(2 ^ 63:Int))=false:=decide_eq_false (by omega);have e2:decide (i >= 2 ^ 63)=false:=decide_eq_false (by omega);rw[e1,e2,Bool.or_false]) (by rw[h1];simpa using h2) ⟨.str ⟨#[c]⟩,H,I.tok _,⟨_,rfl⟩,q⟩) hs
def rIx(K:W.Frag):R2:=fun x y H Q=>rIxL K x y H Q\/rIxT K x y H Q\/rIxS x y H Q
def jat:IxR X (rIx X.K):=ix_list.or (ix_tup.or jFp)
def jpv(lo hi:Option Int)(n:Nat):(sliceBounds lo hi none n).1=((HT.sIx n 0 lo:Nat):Int)/\(sliceBounds lo hi none n).2.1=((HT.sIx n n hi:Nat):Int)/\(sliceBounds lo hi none n).2.2=1:=by
 refine⟨?_,?_,rfl⟩
 ·cases lo with
  | none=>simp[sliceBounds,HT.sIx]
  | some i =>
   simp only[sliceBounds,HT.sIx,Option.getD_none,show (1:Int) > 0 by decide,if_true]
   by_cases h:i<0
   ·simp only[h,if_true]<;>omega
   ·simp only[h,if_false]<;>omega
 ·cases hi with
  | none=>simp[sliceBounds,HT.sIx]
  | some i =>
   simp only[sliceBounds,HT.sIx,Option.getD_none,show (1:Int) > 0 by decide,if_true]
   by_cases h:i<0
   ·simp only[h,if_true]<;>omega
   ·simp only[h,if_false]<;>omega
def jn1(its:List Value)(lo hi:Option Int):slicePick its.toArray lo hi none=((its.drop (HT.sIx its.length 0 lo)).take (HT.sIx its.length its.length hi-HT.sIx its.length 0 lo)).toArray:=by
 obtain⟨h1,h2,h3⟩:=jpv lo hi its.toArray.size;unfold slicePick;rw[h1,h2,h3];simp only[sliceRange_one,pick_run,zbx]<;>rfl
def rSlL(K:W.Frag):V->Option Int->Option Int->Hp->VK->Prop:=fun x lo hi H Q=>∃ a xs,x=.ref a/\SqL K H a xs/\∀ p,H p=none->Q (.ref p) (upd H p (.lst (cutV xs lo hi)))
def sl_list:SlR X (rSlL X.K):=by
 intro U s Z H x v vl vu lo hi sl Q I rx hs pl pu h;obtain⟨a,xs,rfl,hx,q⟩:=h;cases rx;obtain⟨its,r,ht,hz⟩:=I.list hx;have hlen:=r.length;refine⟨"list",_,slot_list_getitem.lookup,ht.isList.typeIs,?_⟩;refine wpAny_getItem_list_slice ht.isList hs pl pu .none (by simp) ?_ (by rw[zbx]<;>omega);rw[jn1,<- hlen];refine⟨.ref s.heap.objs.size,_,I.laid (t':=s.toks) (o:=.lst (cutV xs lo hi)) (fun b ob q=>zaz _ q) (zac _) ?_,rfl,q _ (I.hok.fresh (zac _))⟩;exact⟨zdy (jkn xs lo hi) hz,_,0,(r.drop (HT.sIx xs.length 0 lo)).take (HT.sIx xs.length xs.length hi-HT.sIx xs.length 0 lo),zbz _ rfl⟩
def jlu:V->Bool
 | .non=>true
 | .bl _=>true
 | .int _=>true
 | .str _=>true
 | _=>false
def eqV:V->V->Bool
 | .non,.non=>true
 | .bl a,.bl b=>a == b
 | .bl a,.int b=>(if a then 1 else 0) == b
 | .int a,.bl b=>a == (if b then 1 else 0)
 | .int a,.int b=>a == b
 | .str a,.str b=>a == b
 | _,_=>false
def jFg{A:Around}{s:Shared}{y x:V}{u v:Value}(ry:RelV y u)(rx:RelV x v)(fy:jlu y=true)(fx:jlu x=true):SeqAt.EqAt A s u v (eqV y x):=by
 cases y with
 | non =>
  cases ry
  cases x with
  | non=>cases rx;exact SeqAt.EqAt.same _
  | bl b=>cases rx;exact SeqAt.EqAt.none_bool b
  | int b=>obtain⟨t,rfl⟩:=rx;exact SeqAt.EqAt.none_int b t
  | str b=>obtain⟨t,rfl⟩:=rx;exact SeqAt.EqAt.none_str b t
  | _=>exact absurd (show false=true from fx) Bool.false_ne_true
 | bl a =>
  cases ry
  cases x with
  | non=>cases rx;exact SeqAt.EqAt.bool_none a
  | bl b=>cases rx;exact SeqAt.EqAt.bool_bool a b
  | int b=>obtain⟨t,rfl⟩:=rx;exact SeqAt.EqAt.bool_int a b t
  | str b=>obtain⟨t,rfl⟩:=rx;exact SeqAt.EqAt.bool_str a b t
  | _=>exact absurd (show false=true from fx) Bool.false_ne_true
 | int a =>
  obtain⟨t',rfl⟩:=ry
  cases x with
  | non=>cases rx;exact SeqAt.EqAt.int_none a t'
  | bl b=>cases rx;exact SeqAt.EqAt.int_bool a t' b
  | int b=>obtain⟨t,rfl⟩:=rx;exact SeqAt.EqAt.int_int a t' b t
  | str b=>obtain⟨t,rfl⟩:=rx;exact SeqAt.EqAt.int_str a t' b t
  | _=>exact absurd (show false=true from fx) Bool.false_ne_true
 | str a =>
  obtain⟨t',rfl⟩:=ry
  cases x with
  | non=>cases rx;exact SeqAt.EqAt.str_none a t'
  | bl b=>cases rx;exact SeqAt.EqAt.str_bool a t' b
  | int b=>obtain⟨t,rfl⟩:=rx;exact SeqAt.EqAt.str_int a t' b t
  | str b=>obtain⟨t,rfl⟩:=rx;exact SeqAt.EqAt.str_str a t' b t
  | _=>exact absurd (show false=true from fx) Bool.false_ne_true
 | _=>exact absurd (show false=true from fy) Bool.false_ne_true
def eqU(x:V)(u:Value):Bool:=match u with
 | .none=>eqV .non x
 | .bool b=>eqV (.bl b) x
 | .int i _=>eqV (.int i) x
 | .str z _=>eqV (.str z) x
 | _=>false
def jAc{x y:V}{u:Value}(r:RelV y u)(f:jlu y=true):eqU x u=eqV y x:=by
 cases y with
 | non=>cases r;rfl
 | bl b=>cases r;rfl
 | int i=>obtain⟨t,rfl⟩:=r;rfl
 | str z=>obtain⟨t,rfl⟩:=r;rfl
 | _=>exact absurd (show false=true from f) Bool.false_ne_true
theorem jkk{x:V}:∀ {xs:List V} {us:List Value},Vals xs us->xs.all jlu=true->us.any (eqU x)=xs.any fun y=>eqV y x
 | _,_,.nil,_=>rfl
 | y::xs,u::us,.cons r t,f=>by
  rw[List.all_cons,Bool.and_eq_true] at f;rw[List.any_cons,List.any_cons,jAc r f.1,jkk t f.2]
theorem ji0{A:Around}{s:Shared}{x:V}{v:Value}(rx:RelV x v)(fx:jlu x=true):∀ {xs:List V} {us:List Value},Vals xs us->xs.all jlu=true->∀ u∈us,SeqAt.EqAt A s u v (eqU x u)
 | _,_,.nil,_=>fun u hu=>by cases hu
 | y::xs,u::us,.cons r t,f=>fun u' hu=>by
  rw[List.all_cons,Bool.and_eq_true] at f;rcases List.mem_cons.mp hu with rfl|hu
  ·rw[jAc r f.1];exact jFg r rx f.1 fx
  ·exact ji0 rx fx t f.2 u' hu
def inV(x:V)(xs:List V):Bool:=xs.any fun y=>eqV y x
def rIn(K:W.Frag)(neg:Bool):R2:=fun x y H Q=>∃ p xs,y=.ref p/\(SqL K H p xs\/SqT K H p xs)/\jlu x=true/\xs.all jlu=true/\Q (.bl (if neg then !inV x xs else inV x xs)) H
def jhk:OpR X (compareOp .In) (rIn X.K false):=by
 intro U s Z H x y v u Q I rx ry h;obtain⟨p,xs,rfl,hq,fx,fs,q⟩:=h;cases ry;rcases hq with hq|hq
 ·obtain⟨its,r,pl,hz⟩:=I.list hq;refine SeqAt.in_listAt (eqU x) pl.isList (fun w hw=>ji0 rx fx r fs w (by simpa using hw)) ⟨.bl _,H,I,rfl,?_⟩;rw[show its.toArray.any (eqU x)=its.any (eqU x) by simp,jkk r fs];exact q
 ·obtain⟨its,r,pl,hz⟩:=I.tuple hq;refine SeqAt.in_tupleAt (eqU x) pl (fun w hw=>ji0 rx fx r fs w (by simpa using hw)) ⟨.bl _,H,I,rfl,?_⟩;rw[show its.toArray.any (eqU x)=its.any (eqU x) by simp,jkk r fs];exact q
def jfj:OpR X (compareOp .NotIn) (rIn X.K true):=by
 intro U s Z H x y v u Q I rx ry h;obtain⟨p,xs,rfl,hq,fx,fs,q⟩:=h;cases ry;rcases hq with hq|hq
 ·obtain⟨its,r,pl,hz⟩:=I.list hq;refine SeqAt.notIn_listAt (eqU x) pl.isList (fun w hw=>ji0 rx fx r fs w (by simpa using hw)) ⟨.bl _,H,I,rfl,?_⟩;rw[show its.toArray.any (eqU x)=its.any (eqU x) by simp,jkk r fs];exact q
 ·obtain⟨its,r,pl,hz⟩:=I.tuple hq;refine SeqAt.notIn_tupleAt (eqU x) pl (fun w hw=>ji0 rx fx r fs w (by simpa using hw)) ⟨.bl _,H,I,rfl,?_⟩;rw[show its.toArray.any (eqU x)=its.any (eqU x) by simp,jkk r fs];exact q
def call_len_seq:CallR X (.builtin "len") (fun xs H Q=>∃ p ys,xs=[.ref p]/\(SqL X.K H p ys\/SqT X.K H p ys)/\Q (.int ys.length) H):=by
 intro U s Z H xs us Q I r h;obtain⟨p,ys,rfl,hq,q⟩:=h;obtain⟨u,rfl,rx⟩:=jq8 r;cases rx;have hn:=jl6;rcases hq with hq|hq
 ·obtain⟨its,r',pl,hz⟩:=I.list hq;have hlen:=r'.length;exact Calls.call_len_list pl.isList (by simp only[zbx]<;>omega) ⟨.int ys.length,H,I.tok _,⟨s.toks+1,by rw[zbx,hlen]⟩,q⟩
 ·obtain⟨its,r',pl,hz⟩:=I.tuple hq;have hlen:=r'.length;exact len_tuple pl (by simp only[zbx]<;>omega) ⟨.int ys.length,H,I.tok _,⟨s.toks+1,by rw[zbx,hlen]⟩,q⟩
def joi:CallR X (.builtin "len") (fun xs H Q=>∃ z,xs=[.str z]/\z.length<=sizeLine/\Q (.int z.length) H):=by
 intro U s Z H xs us Q I r h;obtain⟨z,rfl,hz,q⟩:=h;obtain⟨u,rfl,t,rfl⟩:=jq8 r;have hn:=jl6;exact len_str (by omega) ⟨.int z.length,H,I.tok _,⟨_,rfl⟩,q⟩
def CallR.or{f:Value}{r r':List V->Hp->VK->Prop}(h:CallR X f r)(h':CallR X f r'):CallR X f (fun xs H Q=>r xs H Q\/r' xs H Q):=by
 intro U s Z H xs us Q I rs q;rcases q with q|q
 ·exact h U s Z H xs us Q I rs q
 ·exact h' U s Z H xs us Q I rs q
def joj:CallR X (.type "list") (fun xs H Q=>∃ p ys,xs=[.ref p]/\(SqL X.K H p ys\/SqT X.K H p ys)/\∀ l,H l=none->Q (.ref l) (upd H l (.lst ys))):=by
 intro U s Z H xs us Q I r h;obtain⟨p,ys,rfl,hq,q⟩:=h;obtain⟨u,rfl,rx⟩:=jq8 r;cases rx;have fin:∀ (its:List Value),Vals ys its->ys.length<=sizeLine->∀ (h':Heap) (c':Nat),(∀ b o',s.heap.get? b=some o'->h'.get? b=some o') ->
   h'.get? s.heap.objs.size=some { cls:=.type "list",dict:=none,data:=.seq its.toArray c',slots:=#[] }->EP X U Z Q (.ref s.heap.objs.size) { s with heap:=h' }:=fun its r' hz h' c' kp e =>
  ⟨.ref s.heap.objs.size,_,I.laid (t':=s.toks) kp (zac _) (show ObjOk X.prog X.w _ h' _ (.lst ys) from ⟨hz,its,c',r',e⟩),rfl,q _ (I.hok.fresh (zac _))⟩
 rcases hq with hq|hq
 ·obtain⟨its,r',pl,hz⟩:=I.list hq;have hlen:=r'.length;obtain⟨o,ho,hc,n,hd⟩:=pl.isList;exact call_list_seq p (.inl rfl) ho hc hd (fun h' c' kp e=>fin its r' hz h' c' kp e) (by simp only[zbx]<;>omega)
 ·obtain⟨its,r',pl,hz⟩:=I.tuple hq;have hlen:=r'.length;obtain⟨o,ho,hc,n,hd⟩:=pl;exact call_list_seq p (.inr rfl) ho hc hd (fun h' c' kp e=>fin its r' hz h' c' kp e) (by simp only[zbx]<;>omega)
def jb6:CallR X (.type "tuple") (fun xs H Q=>∃ p ys,xs=[.ref p]/\((SqL X.K H p ys/\∀ l,H l=none->Q (.ref l) (upd H l (.tup ys)))\/(SqT X.K H p ys/\Q (.ref p) H))):=by
 intro U s Z H xs us Q I r h;obtain⟨p,ys,rfl,h⟩:=h;obtain⟨u,rfl,rx⟩:=jq8 r;cases rx;rcases h with ⟨hq,q⟩|⟨hq,q⟩
 ·obtain⟨its,r',pl,hz⟩:=I.list hq;have hlen:=r'.length;refine call_tuple_list pl.isList (fun h' kp=>?_) (by simp only[zbx]<;>omega);have I1:Inv X U Z H { s with heap:=h' }:=I.kept (t':=s.toks) kp;have I2:Inv X U Z (upd H h'.objs.size (.tup ys)) { s with heap:=h'.push { cls:=.type "tuple",data:=.seq its.toArray } } :=
   I1.laid (t':=s.toks) (fun b o e=>zaz _ e) (zac _) (show ObjOk X.prog X.w _ _ _ (.tup ys) from ⟨hz,its,r',IsTup.new _ _⟩)
  exact⟨.ref h'.objs.size,_,I2,rfl,q _ (I1.hok.fresh (zac _))⟩
 ·obtain⟨its,r',pl,hz⟩:=I.tuple hq;exact call_tuple_same pl ⟨.ref p,H,I,rfl,q⟩
def tyV(K:W.Frag)(T:String)(x:V)(H:Hp):Prop:=match x with
 | .str _=>T="str"
 | .int _=>T="int"
 | .ref p=>(T="list"/\∃ xs,SqL K H p xs)\/(T="tuple"/\∃ o,K.lookup p=some o/\o.cls=.type "tuple"/\o.dict=none) \/
   (T="dict"/\((∃ kvs,H p=some (.dK kvs))\/∃ kvs,H p=some (.dT kvs)))
 | _=>False
def jBe{U:qc}{Z:St}{H:Hp}{s:Shared}{T:String}{x:V}{v:Value}(I:Inv X U Z H s)(r:RelV x v)(ty:tyV X.K T x H) :
  s.TypeIs v T/\∀ a,v=.ref a->∃ ob,s.heap.get? a=some ob/\ob.dict=none:=by
 cases x with
 | str z =>
  obtain⟨t,rfl⟩:=r;cases (show T="str" from ty);exact⟨typeIs_str s z t,fun _ e=>nomatch e⟩
 | int i =>
  obtain⟨t,rfl⟩:=r;cases (show T="int" from ty);exact⟨typeIs_int s i t,fun _ e=>nomatch e⟩
 | ref p =>
  cases r;rcases ty with ⟨rfl,xs,hq⟩|⟨rfl,o,hk,hc,hd⟩|⟨rfl,hk⟩
  ·obtain⟨its,_,pl,_⟩:=I.list hq;refine⟨pl.isList.typeIs,fun a e=>?_⟩;cases e;obtain⟨o,n,e,c,hd,_⟩:=pl;exact⟨o,e,hd⟩
  ·refine⟨⟨o,I.kIn p o hk,hc⟩,fun a e=>?_⟩;cases e;exact⟨o,I.kIn _ o hk,hd⟩
  ·have z:∃ o,s.heap.get? p=some o/\o.ExactDict:=by
    rcases hk with ⟨kvs,hk⟩|⟨kvs,hk⟩
    ·obtain⟨_,_,_,_,o,_,_,e,ex,_⟩:=I.hok p _ hk;exact⟨o,e,ex⟩
    ·obtain⟨_,_,_,_,o,_,_,e,ex,_⟩:=I.hok p _ hk;exact⟨o,e,ex⟩
   obtain⟨o,e,ex⟩:=z;refine⟨⟨o,e,ex.1⟩,fun a e2=>?_⟩;cases e2;exact⟨o,e,ex.2.1⟩
 | _=>exact False.elim ty
def tBM0(K:W.Frag)(T:String)(r:V->List V->Hp->VK->Prop)(to:TE):TE:=fun Z H Q=>to Z H fun x H1=>tyV K T x H1/\r x [] H1 Q
def tBM(K:W.Frag)(T:String)(r:V->List V->Hp->VK->Prop)(to:TE)(t:TA):TE:=fun Z H Q=>to Z H fun x H1=>tyV K T x H1/\t Z H1 fun xs H2=>r x xs H2 Q
variable {o e:Expr}{es:List Expr}{to:TE}{t:TA}{name:Str}{apos cpos:Pos}{T id:String}{r:V->List V->Hp->VK->Prop}
def jAt(pa:PlainAttrs T)(slot:Slot T name id)(hty:typeOf (.builtin id)=pure (.type "method_descriptor"))(hm:MtR X id r)(ho:PE X o to)
  (hbase:attributeBase o name X.env (eval o X.env)=eval o X.env:=by rfl) (hline:(apos.endLine == cpos.line)=true:=by rfl):PE X (.Call (.Attribute o name apos) [] [] cpos) (tBM0 X.K T r to):=by
 intro U s Z H Q I h;refine wpAny_Call_method0_late hbase hline (thn (ho U s Z H _ I h) fun v s1 hzz=>?_);obtain⟨x,H1,I1,r1,ty,q1⟩:=hzz;obtain⟨h1,h2⟩:=jBe I1 r1 ty;exact⟨T,id,pa,slot,hty,h1,h2,Calls.callWith_builtin rfl (PySem.evalArgs_none (hm U s1 Z H1 x [] v [] Q I1 r1 .nil q1))⟩
def jDf(pa:PlainAttrs T)(slot:Slot T name id)(hty:typeOf (.builtin id)=pure (.type "method_descriptor"))(hm:MtR X id r)(ho:PE X o to)(ha:PA X (e::es) t)
  (hbase:attributeBase o name X.env (eval o X.env)=eval o X.env:=by rfl)
  (hfew:((backTo cpos (starEach (e::es) X.env)).all (fun x=>!x.1)&&(backToKw cpos (keywordEach [] X.env)).all (fun x=>x.1.isSome)
   && decide ((e::es).length+([]:List Keyword).length+(if ([]:List Keyword).isEmpty then 0 else 1)<30))=true:=by rfl)
  (hline:(apos.endLine == cpos.line)=true:=by rfl) (hs:zsE e es X.env:=by rfl) (hplain:(backTo cpos (starEach es X.env)).any (·.1)=false:=by rfl) :
  PE X (.Call (.Attribute o name apos) (e::es) [] cpos) (tBM X.K T r to t):=by
 intro U s Z H Q I h;refine wpAny_Call_method_late hbase hfew hline rfl (thn (ho U s Z H _ I h) fun v s1 hzz=>?_);obtain⟨x,H1,I1,r1,ty,q1⟩:=hzz;obtain⟨h1,h2⟩:=jBe I1 r1 ty;refine⟨T,id,pa,slot,hty,h1,h2,?_⟩;have hA:=ha cpos U s1 Z H1 _ I1 q1;rw[hs] at hA |-
 refine Calls.callWith_builtin (by show (false || (backTo cpos (starEach es X.env)).any (·.1))=false;rw[hplain]<;>rfl) (Calls.evalArgs_plain ?_);exact thn hA fun us s2 ⟨vs,H2,I2,r2,q2⟩=>hm U s2 Z H2 x vs v us Q I2 r1 r2 q2
end
def MtM(X:Cx)(id:String)(r:V->List V->Hp->VK->Prop):Prop :=
 ∀ (U:qc) (s:Shared) (Z:St) (H:Hp) (x:V) (xs:List V) (v:Value) (us:List Value) (Q:VK),Inv X U Z H s->RelV x v->Vals xs us->r x xs H Q ->
  wpAny (model X.prog X.w) X.A (call (.builtin id) (v::us)) (EP X U Z Q) X.xe s
def Vals.one:∀ {x:V} {us:List Value},Vals [x] us->∃ u,us=[u]/\RelV x u
 | _,_,.cons r .nil=>⟨_,rfl,r⟩
def Vals.two:∀ {x y:V} {us:List Value},Vals [x,y] us->∃ u v,us=[u,v]/\RelV x u/\RelV y v
 | _,_,_,.cons r (.cons q .nil)=>⟨_,_,rfl,r,q⟩
def Vals.zero:∀ {us:List Value},Vals [] us->us=[]
 | _,.nil=>rfl
theorem Vals.dropLast{xs:List V}{us:List Value}(h:Vals xs us):Vals xs.dropLast us.dropLast:=by
 induction h with
 | nil=>exact .nil
 | cons r t ih =>
  cases t with
  | nil=>exact .nil
  | cons q t'=>exact .cons r ih
theorem Vals.rep{xs:List V}{us:List Value}(h:Vals xs us):∀ k:Nat,Vals (List.replicate k xs).flatten (List.replicate k us).flatten
 | 0=>.nil
 | k+1=>by
  rw[List.replicate_succ,List.replicate_succ,List.flatten_cons,List.flatten_cons];exact Vals.append h (Vals.rep h k)
def js9{α:Type}(l:List α):l.eraseIdx (l.length-1)=l.dropLast:=by
 induction l with
 | nil=>rfl
 | cons a r ih =>
  cases r with
  | nil=>rfl
  | cons b r =>
   have e:(a::b::r).length-1=((b::r).length-1)+1:=by
    have h1:(a::b::r).length=r.length+2:=rfl;have h2:(b::r).length=r.length+1:=rfl;omega
   rw[e,List.eraseIdx_cons_succ,ih]
   all_goals rfl
theorem jkt(its:List Value):∀ (k:Nat) (acc:List Value),
  List.foldl (fun x1 x2=>x1++x2) acc.toArray (List.replicate k its.toArray)=(acc++(List.replicate k its).flatten).toArray
 | 0,acc=>by simp
 | k+1,acc=>by
  have e:acc.toArray++its.toArray=(acc++its).toArray:=by simp
  have e2:(acc++its)++(List.replicate k its).flatten=acc++(List.replicate (k+1) its).flatten:=by
   rw[List.replicate_succ,List.flatten_cons,List.append_assoc]
  rw[<- e2,<- jkt its k (acc++its),<- e,List.replicate_succ,List.foldl_cons]
section
variable {X:Cx}{U:qc}{Z:St}{H:Hp}{s:Shared}{l:Addr}{xs ys:List V}
def Inv.lset{its its':List Value}{n:Nat}{f:Array Value->Array Value}{t':Nat}(I:Inv X U Z H s)(hH:H l=some (.lst xs))
  (e:s.heap.get? l=some { cls:=.type "list",data:=.seq its.toArray n }) (hf:f its.toArray=its'.toArray) (hv:Vals ys its') (hz:ys.length<=sizeLine) :
  Inv X U Z (upd H l (.lst ys)) { s with heap:=s.heap.update l (Obj.mapSeq f),toks:=t' }:=by
 have q:=PySem.IsL.update e f;rw[hf] at q;refine I.write (x:=l) (e:=l) (by rw[hH];exact trivial) (.inl rfl) (fun b' u hb hu=>(Heap.get?_update_other s.heap (Obj.mapSeq f) (Ne.symm hb)).trans hu) ⟨_,q⟩ ?_;exact⟨hz,its',_,hv,q⟩
def Inv.lnew{its:List Value}{t':Nat}(I:Inv X U Z H s)(hv:Vals ys its)(hz:ys.length<=sizeLine) :
  Inv X U Z (upd H s.heap.objs.size (.lst ys)) { s with heap:=s.heap.push { cls:=.type "list",data:=.seq its.toArray },toks:=t' } :=
 I.laid (fun _ _ q=>zaz _ q) (zac _) ⟨hz,its,0,hv,zbz _ rfl⟩
def Inv.fresh(I:Inv X U Z H s):H s.heap.objs.size=none:=I.hok.fresh (zac _)
def Inv.lstM(I:Inv X U Z H s)(hH:H l=some (.lst xs)):xs.length<=sizeLine/\∃ (its:List Value) (n:Nat),Vals xs its/\xs.length=its.length/\s.heap.get? l=some { cls:=.type "list",data:=.seq its.toArray n }:=by
 obtain⟨z,its,n,r,e⟩:=I.hok l _ hH;exact⟨z,its,n,r,r.length,e⟩
def jy3{n:Nat}(h:n<=sizeLine):Builtin.List.listTooLong n=false:=by
 unfold Builtin.List.listTooLong;exact decide_eq_false (by omega)
end
section
variable {X:Cx}
def jDu:V->List V->Hp->VK->Prop:=fun x vs H Q=>∃ l xs y,x=.ref l/\vs=[y]/\H l=some (.lst xs)/\xs.length<sizeLine/\Q .non (upd H l (.lst (xs++[y])))
def ji3:MtM X "list.append" jDu:=by
 intro U s Z H x vs v us Q I rx rv h;obtain⟨l,xs,y,rfl,rfl,hH,hz,q⟩:=h;cases rx;obtain⟨u,rfl,ru⟩:=rv.one;obtain⟨z,its,n,r,hl,e⟩:=I.lstM hH;refine call_meets F.slot_list_append ⟨_,e,rfl⟩ F.entry_list_append (F.args_list_append_2 _ _) (PySem.list_append l its.toArray n u (by rw[zbx];omega)) ⟨e,?_⟩;refine⟨.non,_,I.lset (its':=its++[u]) hH e (by simp) (r.append (.cons ru .nil)) ?_,rfl,q⟩;rw[zcb,List.length_singleton];omega
def rPop:V->List V->Hp->VK->Prop:=fun x vs H Q=>∃ l xs y,x=.ref l/\vs=[]/\H l=some (.lst xs)/\xs[xs.length-1]? = some y/\Q y (upd H l (.lst xs.dropLast))
def jAn:MtM X "list.pop" rPop:=by
 intro U s Z H x vs v us Q I rx rv h;obtain⟨l,xs,y,rfl,rfl,hH,hy,q⟩:=h;cases rx;have hus:=rv.zero;subst hus;obtain⟨z,its,n,r,hl,e⟩:=I.lstM hH;obtain⟨u,hu,ru⟩:=r.get hy;have hy':its.toArray[its.toArray.size-1]? = some u:=by
  show its.toArray[its.length-1]? = some u;rw[<- Array.getElem?_toList,<- hl];exact hu
 refine call_meets F.slot_list_pop ⟨_,e,rfl⟩ F.entry_list_pop (F.args_list_pop_1 _) (MeetsSeq.list_pop_last l its.toArray n u hy' (by rw[zbx];omega)) ⟨e,?_⟩;refine⟨y,_,I.lset (its':=its.dropLast) hH e ?_ r.dropLast ?_,ru,q⟩
 ·show its.toArray.eraseIdxIfInBounds (its.toArray.size-1)=its.dropLast.toArray;rw[zbx,List.eraseIdxIfInBounds_toArray,js9]
 ·rw[List.length_dropLast];omega
def rRep:R2:=fun x y H Q=>∃ l k xs,x=.ref l/\y=.int k/\H l=some (.lst xs)/\-(2 ^ 63)<=k/\k<2 ^ 63/\xs.length*k.toNat<=sizeLine /\
 ∀ p,H p=none->Q (.ref p) (upd H p (.lst (List.replicate k.toNat xs).flatten))
def jvd{α:Type}(xs:List α)(k:Nat):(List.replicate k xs).flatten.length=k*xs.length:=by
 induction k with
 | zero=>simp
 | succ k ih=>rw[List.replicate_succ,List.flatten_cons,zcb,ih,Nat.succ_mul,Nat.add_comm]
def jGg:OpR X (binaryOp .Mult) rRep:=by
 intro U s Z H x y v u Q I rx ry h;obtain⟨l,k,xs,rfl,rfl,hH,h1,h2,hz,q⟩:=h;cases rx;obtain⟨t,rfl⟩:=ry;obtain⟨z,its,n,r,hl,e⟩:=I.lstM hH;have hlen:its.toArray.size*k.toNat<=sizeLine:=by rw[zbx,<- hl];exact hz
 have hcap:¬ its.toArray.size*k.toNat > (2 ^ 63-1) / 8:=by
  have:(sizeLine:Nat)<=(2 ^ 63-1) / 8:=by decide
  omega
 have hfit:¬ (!Builtin.List.listFitsIndex k)=true:=by
  rw[fitsIndex_both h1 h2];exact Bool.false_ne_true
 have hlong:¬ Builtin.List.listTooLong (its.toArray.size*k.toNat)=true:=by
  rw[jy3 hlen];exact Bool.false_ne_true
 have hnew:List.foldl (fun x1 x2=>x1++x2) #[] (List.replicate (if its.toArray.isEmpty=true then 0 else k.toNat) its.toArray)=(List.replicate k.toNat its).flatten.toArray:=by
  have f0:∀ m:Nat,List.foldl (fun x1 x2=>x1++x2) #[] (List.replicate m its.toArray)=(List.replicate m its).flatten.toArray:=fun m=>by
   have:=jkt its m [];rw[List.nil_append] at this;exact this
  rw[f0]
  cases its with
  | nil=>simp
  | cons a r'=>rw[if_neg (by simp)]
 refine wpAny_binaryOp_repeat_ref (T:="list") (U:="int") (by decide) ⟨_,e,rfl⟩ (fun s'=>typeIs_int s' k t) noFill_list_mul F.fills_int_mul F.slot_int_rmul repeat_list F.slot_int_index.lookup
  (call_meets F.slot_int_rmul (typeIs_int s k t) F.entry_int_rmul (F.args_int_rmul_2 _ _) (int___rmul___int_list k t l its.toArray n)
   ⟨e,rfl,⟨_,e,rfl⟩,call_meets F.slot_list_mul ⟨_,e,rfl⟩ F.entry_list_mul (F.args_list_mul_2 _ _) (AutoListH.list___mul___list_int_3 l its.toArray n k t hfit hcap hlong) ⟨e,?_⟩⟩)
 rw[hnew];exact⟨.ref _,_,I.lnew (t':=s.toks) (r.rep k.toNat) (by rw[jvd,Nat.mul_comm];exact hz),rfl,q _ I.fresh⟩
end
section
end
section
end
end L2
namespace Att
open PySem PySem.W PySem.Calls PyProof.Rows
def jkx{P:Params}{h:Heap}:∀ (ns:List Int) (vs:List Value),WellAll P h vs (ns.map WData.int)->IntsAre vs ns:=by
 intro ns
 induction ns with
 | nil =>
  intro vs w;rw[List.map_nil] at w;cases w;exact .nil
 | cons n ns ih =>
  intro vs w;rw[List.map_cons] at w
  cases w with
  | cons a b =>
   cases a;exact .cons _ _ (ih _ b)
def jw4{l:OpenLaw}{n:Nat}(hn:l.most=some n){P:Params}{h:Heap}{args:List WData}{vals:List Value}
  (hpre:l.row.toRowW.claim.pre args=true) (hwl:WellAll P h vals args) :
  ∃ a vs ns,vals=[Value.ref a]/\args=[WData.list (ns.map WData.int)]/\h.get? a=some { cls:=.type "list",data:=.seq vs.toArray }/\IntsAre vs ns/\ns.length<=n:=by
 have hsh:WShape.hasAll [] args [.list .int]=true:=(pre_splitW hpre).1;have hc:l.pre.holds [] { args:=args }=true:=(pre_splitW hpre).2;obtain⟨d,r,rfl,h1,h2⟩:=hasAllW_cons hsh;obtain rfl:=hasAllW_nil h2;obtain⟨xs,rfl,h3⟩:=hasW_list h1;obtain⟨ns,rfl⟩:=items_int h3;have hlen:ns.length<=n:=by
  unfold OpenLaw.pre at hc;have h4:(WTm.not (.lt (.lit (.int (n:Int))) (.len (.arg 0)))).holds [] { args:=[.list (ns.map .int)] }=true:=by
   have h4:=(holds_andW hc).1;rw[hn] at h4;exact h4
  have h5:=condW_of h4 (w_not (w_lt w_lit (w_len_list (w_arg rfl))));rw[zav] at h5;refine Nat.le_of_not_lt fun q=>?_
  have q':(n:Int)<((ns.length:Nat):Int):=by omega
  first
   | (rw[decide_eq_true q'] at h5;exact absurd h5 (by decide))
   | (simp at h5;omega)
 cases hwl with
 | cons w1 w2 =>
  cases w2
  cases w1 with
  | list ho hall=>exact⟨_,_,ns,rfl,rfl,ho,jkx ns _ hall,hlen⟩
def jwi(l:OpenLaw)(args:List WData):l.row.toRowW.claim.post args (.bool true) args=true :=
 postW_of (r:=l.row.toRowW) (X:=(true == true))
  (show WShape.has [] (.bool true) .bool=true by first|rfl|decide|simp[WShape.has,WShape.arms,WShape.armsAll])
  (show (WTm.eq .res (.lit (.bool true))).value [] { args:=args,res:=some (.bool true),after:=args }=some (.bool (true == true)) from w_eq_bool (w_res rfl) w_lit) rfl
def attach_call{l:OpenLaw}{n:Nat}{q:Program}{loose:List Str}{XP:(qa)->Heap->Prop}{YP:World->Heap->Prop}{d:DefRec}
  (hn:l.most=some n) (hdf:d.params.defaults=[])
  (call:∀ (w:World) (s₀ s₁:Shared) (mg mb:qa) (fa:Addr) (o:Obj) (pm cd doc:Value) (a:Addr) (vs:List Value) (ns:List Int),
   Ground q loose [] XP w s₀ mg mb s₁.heap->YP w s₁.heap ->
   s₁.heap.get? fa=some o->o.data=.func (docDef d.name d.params d.body d.scope pm cd doc)->s₁.heap.CodeRec cd d.name->mg d.name=some (.ref fa) ->
   s₁.heap.get? a=some { cls:=.type "list",data:=.seq vs.toArray }->IntsAre vs ns->ns.length<=n->s₁.gens=#[] ->
   codeAny (model l.prog w) callerA (.call (.ref fa) ⟨[.ref a],[]⟩) (fun r s'=>r=.ok (.ret (.bool true))/\OldK s₁.heap s'.heap/\s'.os=s₁.os/\AllBare s'.gens) s₁) :
  WalkO q loose XP YP l.row.toRowW d [] (fun f vs=>PySem.call f vs):=by
 intro w s₀ s₁ mg mb G Yq fa o pm cd doc dV kV ho hd hcd hD hmg hg args vals as hpre hlay hrd hwl hlo;obtain rfl:dV=.none:=Dflts.none hD hdf;obtain rfl:kV=.none:=Dflts.noKw hD;obtain⟨a,vs,ns,rfl,rfl,hobj,hints,hlen⟩:=jw4 hn hpre hwl;refine enter_call (codeAny_mono (call w s₀ s₁ mg mb fa o pm cd doc a vs ns G Yq ho (fd_plain hd) hcd hmg hobj hints hlen hg) fun r s' hq=>?_);obtain⟨rfl,h2,h3,h4⟩:=hq;exact⟨.inl ⟨.bool true,.bool true,[],rfl,fun _=>rfl,.bool true,jwi l _,fun _=>⟨List.Pairwise.nil,fun _ hm=>(nomatch hm)⟩⟩,h2,h3,h4⟩
section
end
end Att
namespace L2
open PyProof.Rows
theorem jpz:∀ {vs:List Value} {ns:List Int},IntsAre vs ns->Vals (ns.map V.int) vs
 | _,_,.nil=>.nil
 | _,_,.cons n t h=>.cons ⟨t,rfl⟩ (jpz h)
def Only(H:Hp):Prop:=∀ b,H b=none\/∃ o xs,H b=some (.frz o (.lst xs))
def jym{P:Program}{w:World}{K:W.Frag}{mg mb:qa}{CX:CXT}{k:Nat}{fa a:Addr}{fd:FuncData}{x:Str}{sp:Sp}{s₁:Shared}{vs:List Value}{ns:List Int}
  (KX:K.In s₁.heap) (hns:s₁.heap.Ns mainGlobals mg) (hb:s₁.heap.Ns builtinsNs mb) (hbb:∀ x:Str,x≠"__name__"->mb x=bootBuiltins x) (hlim:s₁.heap.NoLimit) (hg:s₁.gens=#[])
  (ha:s₁.heap.get? a=some { cls:=.type "list",data:=.seq vs.toArray }) (hi:IntsAre vs ns) (hl:ns.length<=sizeLine) (hr:Room k callerA)
  (F:∀ base:Heap,K.In base->base.Ns mainGlobals mg->FnOk P w K mg base CX k fa fd [x] sp) (hbind:∀ (s:Shared) (u:Value),BindsTo s fd ⟨[u],[]⟩ [(x,u)])
  (hsp:∀ H:Hp,Only H->SqL K H a (ns.map V.int)->sp [.ref a] H (fun v _=>v=.bl true) fun _ _ _=>False)
  (hCX:∀ H e s',CX [] H s₁ (fun _ _ _=>False) e s'->False) :
  codeAny (model P w) callerA (.call (.ref fa) ⟨[.ref a],[]⟩) (fun r s'=>r=.ok (.ret (.bool true))/\OldK s₁.heap s'.heap/\s'.os=s₁.os/\AllBare s'.gens) s₁:=by
 have rv:=jpz hi;have lenV:=hi.length;have core:∀ H:Hp,Only H->SqL K H a (ns.map V.int)->HOk P w H s₁.heap->(∀ b,H b≠none->b=a)->(H a≠none->K.lookup a=none) ->
   codeAny (model P w) callerA (.call (.ref fa) ⟨[.ref a],[]⟩) (fun r s'=>r=.ok (.ret (.bool true))/\OldK s₁.heap s'.heap/\s'.os=s₁.os/\AllBare s'.gens) s₁:=by
  intro H hO hS hok hA hK;have base_of:∀ {b:Addr} {o:Obj},s₁.heap.get? b=some o->H b=none->(hidT s₁.heap H).get? b=some o:=fun e n=>jyd e n
  have noA:∀ {b:Addr} {o:Obj} {es:Array DictEntry} {ep:Nat},s₁.heap.get? b=some o->o.data=.dict es ep->H b=none:=fun {b o es ep} e d=>by
   cases q:H b with
   | none=>rfl
   | some u =>
    have e':b=a:=hA b (by rw[q];simp);subst e';rw[ha] at e;cases e
    have d':Data.seq vs.toArray _=Data.dict es ep:=d;cases d'
  have nsK:∀ {b:Addr} {m:qa},s₁.heap.Ns b m->(hidT s₁.heap H).Ns b m:=fun {b m} ⟨o,es,ep,e,d,r⟩=>⟨o,es,ep,base_of e (noA e d),d,r⟩
  have hKb:K.In (hidT s₁.heap H):=fun b o e=>base_of (KX b o e) (by
   cases q:H b with
   | none=>rfl
   | some u =>
    have e':b=a:=hA b (by rw[q];simp);subst e';rw[hK (by rw[q];simp)] at e;cases e)
  have hM:Mod K mg (hidT s₁.heap H):=⟨hKb,nsK hns,⟨mb,nsK hb,hbb⟩,let ⟨mc,h1,h2⟩:=hlim;⟨mc,nsK h1,h2⟩⟩
  have e0:Env0 P w K mg (hidT s₁.heap H) callerA [] s₁ H:=⟨rfl,hM,fun b o e=>jC8 e,Nat.le_of_eq (ju1 _ _),trivial,fun b hb=>absurd (show b∈([]:List Addr) from hb) (by simp),hok,.of_eq hg⟩
  refine codeAny_mono ((F _ hKb (nsK hns)).run callerA [] s₁ H ⟨[.ref a],[]⟩ [.ref a] [.ref a] _ _ hr e0 (hbind s₁ (.ref a)) (.cons rfl .nil) (hsp H hO hS)) fun r s' h=>?_
  cases r with
  | error e=>exact (hCX H e s' h).elim
  | ok fl =>
   cases fl with
   | next=>exact False.elim h
   | brk=>exact False.elim h
   | cont=>exact False.elim h
   | ret u =>
    obtain⟨v,H',os,bare,un,hok',r',q⟩:=h;have q':v=.bl true:=q;subst q';obtain rfl:u=Value.bool true:=r';refine⟨rfl,OldK.of_keep fun b o e=>?_,os,bare⟩
    cases q:H b with
    | none=>exact un.keep b o e q (by intro z;exact absurd (show b∈([]:List Addr) from z) (by simp)) (by simp)
    | some u =>
     rcases hO b with z|⟨ob,xs,z⟩
     ·rw[q] at z;cases z
     ·have z2:=un.frzs b ob _ z;obtain⟨e1,_⟩:=hok b _ z;obtain⟨e2,_⟩:=hok' b _ z2;rw[e] at e1;cases e1
      exact e2
 cases hk:K.lookup a with
 | some o =>
  have e:=KX a o hk;rw[ha] at e;cases e;refine core (fun _=>none) (fun _=>.inl rfl) (.inr ⟨_,vs.toArray,_,hk,rfl,rfl,rfl,by rw[zbx,lenV];exact hl,by simpa using rv⟩) (fun b u z=>by have z':(none:Option HO)=some u:=z;cases z') (fun b z=>absurd rfl z) fun z=>absurd rfl z
 | none =>
  refine core (fun b=>if b=a then some (.frz { cls:=.type "list",data:=.seq vs.toArray } (.lst (ns.map V.int))) else none) (fun b=>?_) (.inl (.inr ⟨{ cls:=.type "list",data:=.seq vs.toArray },if_pos rfl⟩)) (fun b u z=>?_) (fun b z=>?_) fun _=>hk
  ·by_cases hb:b=a
   ·exact .inr ⟨_,_,if_pos hb⟩
   ·exact .inl (if_neg hb)
  ·by_cases hb:b=a
   ·have z':=(if_pos hb).symm.trans z;cases z';subst hb;exact⟨ha,by rw[zav];exact hl,vs,_,rv,ha⟩
   ·have z':=(if_neg hb).symm.trans z;cases z'
  ·by_cases hb:b=a
   ·exact hb
   ·exact absurd (if_neg hb) z
def walk_of{l:W.OpenLaw}{n k:Nat}{q:Program}{loose:List Str}{XP:(qa)->Heap->Prop}{YP:World->Heap->Prop}{d:DefRec}{K:Params->W.Frag}{CX:World->CXT}{sp:World->Sp}{x:Str}
  (hn:l.most=some n) (hn2:n<=sizeLine) (hdf:d.params.defaults=[]) (hr:Room k callerA)
  (hY:∀ (w:World) (h:Heap),YP w h->(K w.params).In h)
  (F:∀ (w:World) (mg:qa) (fa:Addr) (h:Heap),(K w.params).In h->h.Ns mainGlobals mg->mg d.name=some (.ref fa) ->
   ∃ fd:FuncData,(∀ (s:Shared) (u:Value),BindsTo s fd ⟨[u],[]⟩ [(x,u)]) /\
    ∀ base:Heap,(K w.params).In base->base.Ns mainGlobals mg->FnOk l.prog w (K w.params) mg base (CX w) k fa fd [x] (sp w))
  (hsp:∀ (w:World) (H:Hp) (a:Addr) (ns:List Int),ns.length<=n->Only H->SqL (K w.params) H a (ns.map V.int)->sp w [.ref a] H (fun v _=>v=.bl true) fun _ _ _=>False)
  (hCX:∀ (w:World) (H:Hp) (s:Shared) (e:Value) (s':Shared),CX w [] H s (fun _ _ _=>False) e s'->False) :
  W.WalkO q loose XP YP l.row.toRowW d [] (fun f vs=>PySem.call f vs):=by
 refine Att.attach_call hn hdf fun w s₀ s₁ mg mb fa o pm cd doc a vs ns G Yq ho hd hcd hmg hobj hints hlen hg=>?_
 have KX:=hY w _ Yq;obtain⟨fd,hb,hF⟩:=F w mg fa _ KX G.T.g hmg;exact jym KX G.T.g G.T.b G.T.builtins G.T.nolimit hg hobj hints (zdy hlen hn2) hr hF hb (fun H hO hS=>hsp w H a ns hlen hO hS) fun H e s'=>hCX w H s₁ e s'
def jbx(s:Stmt):Arguments:=match s with
 | .FunctionDef _ a _ _ _ _ _ _ _ _=>a
 | _=>{ posonlyargs:=[],args:=[],vararg:=none,kwonlyargs:=[],kw_defaults:=[],kwarg:=none,defaults:=[] }
def jar(s:Stmt):List Stmt:=match s with
 | .FunctionDef _ _ b _ _ _ _ _ _ _=>b
 | _=>[]
def jad(s:Stmt):Scope:=match s with
 | .FunctionDef _ _ _ _ _ _ sc _ _ _=>sc
 | _=>{ kind:=.function,names:=[],isGenerator:=false,isCoroutine:=false }
abbrev CX0:CXT:=fun _ _ _ _ _ _=>False
abbrev E0:XK:=fun _ _ _=>False
structure Fun(K:W.Frag)(x qual:Str)(st:Stmt)(f:Addr)(fd:FuncData):Prop where
 ex:∃ (oc:Value) (od:Option Addr) (kV doc pm:Value) (an:Option Addr) (cdv ct:Value) (osl:qf),
  fd=W.fnOf x qual (jbx st) (jar st) (jad st) .none kV doc pm an cdv ct/\K.lookup f=some ⟨oc,od,.func fd,osl⟩/\W.codeIn K cdv qual=true
 kp:W.keepIn K (.ref f)=true
section
variable {P:Program}{w:World}{K:W.Frag}{mg:qa}{base:Heap}
def Fun.ok{x qual:Str}{st:Stmt}{f:Addr}{fd:FuncData}{N ps:List Str}{k:Nat}{sp:Sp}(F:Fun K x qual st f fd)(S:FnScope N ps (jad st))(len:∀ vs H Q E,sp vs H Q E->vs.length=ps.length)
  (hbody:∀ (cdv:Value) (A:Around) (outer:List Env) (s:Shared) (H:Hp) (vs:List V) (Q:VK) (E:XK),Room k (A.deeper (envOfC qual (jad st) s.heap.objs.size f cdv))->sp vs H Q E ->
   ∃ t,PSs (cxOf CX0 P w K mg base N qual (jad st) f cdv A outer s H E).nox (jar st) t/\t { nx:=fun _ H'=>Q .non H',rt:=Q } (start N vs) H):FnOk P w K mg base CX0 (k+1) f fd ps sp:=by
 obtain⟨oc,od,kV,doc,pm,an,cdv,ct,osl,rfl,lk,hcd⟩:=F.ex;refine jFh lk hcd S len fun A outer s H vs Q E hr hsp=>?_
 obtain⟨t,h,q⟩:=hbody cdv A outer s H vs Q E hr hsp;exact⟨t,h.nox,q⟩
def Fun.binds{x qual:Str}{st:Stmt}{f:Addr}{fd:FuncData}{ps:List Str}(F:Fun K x qual st f fd)
  (h:∀ (kV doc pm:Value) (an:Option Addr) (cdv ct:Value) (us:List Value),us.length=ps.length->bindArgs (W.fnOf x qual (jbx st) (jar st) (jad st) .none kV doc pm an cdv ct) ⟨us,[]⟩=pure (ps.zip us)):Binds K fd ps []:=by
 obtain⟨oc,od,kV,doc,pm,an,cdv,ct,osl,rfl,lk,hcd⟩:=F.ex;exact .all (h kV doc pm an cdv ct)
def jrz{x qual:Str}{st:Stmt}{f:Addr}{oc:Value}{od an:Option Addr}{osl:qf}{kV doc pm cdv ct:Value}(l:K.lookup f=some ⟨oc,od,.func (W.fnOf x qual (jbx st) (jar st) (jad st) .none kV doc pm an cdv ct),osl⟩)
  (c:W.codeIn K cdv qual=true) (k:W.keepIn K (.ref f)=true):Fun K x qual st f (W.fnOf x qual (jbx st) (jar st) (jad st) .none kV doc pm an cdv ct):=⟨⟨oc,od,kV,doc,pm,an,cdv,ct,osl,rfl,l,c⟩,k⟩
end
section
end
def iteF{A B:Prop}(h:B):if false=true then A else B:=by
 rw[if_neg Bool.false_ne_true];exact h
def iteT{A B:Prop}(h:A):if true=true then A else B:=by
 rw[if_pos rfl];exact h
def Same(H H':Hp):Prop:=∀ b o,H b=some o->H' b=some o
def Same.refl(H:Hp):Same H H:=fun _ _ h=>h
def Same.trans{H H1 H2:Hp}(a:Same H H1)(b:Same H1 H2):Same H H2:=fun c o h=>b c o (a c o h)
end L2
set_option maxHeartbeats 4000000
namespace L2
open PyProof.Rows
def ffk:(NameKind.free == NameKind.free)=true:=by decide
def clOf(cells:List (Str×Addr)):List (Str×NameKind)->List (Str×Addr)->List (Str×Addr)
 | [],acc=>acc
 | (n,k)::r,acc=>clOf cells r (if k == .free then (n,(cells.lookup n).getD 0)::acc else acc)
theorem jum{env:Env}:∀ (ns:List (Str×NameKind)) (acc:List (Str×Addr)),(∀ p∈ns,p.2=.free->∃ c,env.cells.lookup p.1=some c) ->
  (forIn ns acc fun p cs=>(if p.2 == NameKind.free then (do let a <- cellOf env p.1;pure (ForInStep.yield ((p.1,a)::cs))) else pure (ForInStep.yield cs):Sem (ForInStep (List (Str×Addr)))))=pure (clOf env.cells ns acc)
 | [],acc,_=>by rw[List.forIn_nil];rfl
 | (n,k)::r,acc,h=>by
  rw[List.forIn_cons]
  by_cases hk:k=.free
  ·subst hk;obtain⟨c,hc⟩:=h (n,.free) zaa rfl;have e1:cellOf env n=pure c:=by unfold cellOf;rw[hc]
   show (do let a <- cellOf env n;pure (ForInStep.yield ((n,a)::acc)):Sem _) >>= _=_;rw[e1];show (forIn r ((n,c)::acc) _:Sem _)=_;rw[jum r _ fun p hp=>h p (zaw _ hp)];show _=pure (clOf env.cells r (if NameKind.free == NameKind.free then _ else _));have hc':env.cells.lookup n=some c:=hc;rw[if_pos ffk,hc'];rfl
  ·have e2:(k == NameKind.free)=false:=by simpa using hk
   show (if (k == NameKind.free)=true then _ else _:Sem _) >>= _=_;rw[if_neg (by rw[e2];decide)];show (forIn r acc _:Sem _)=_;rw[jum r _ fun p hp=>h p (zaw _ hp)];show _=pure (clOf env.cells r (if (k == NameKind.free)=true then _ else _));rw[if_neg (by rw[e2];decide)]
def js8{scope:Scope}{env:Env}(h:∀ p∈scope.names,p.2=.free->∃ c,env.cells.lookup p.1=some c):closureFor scope env=pure (clOf env.cells scope.names []):=by
 unfold closureFor;have e:=jum (env:=env) scope.names [] h;show (forIn scope.names ([]:List (Str×Addr)) _ >>= fun r=>pure r:Sem _)=_;have e':(forIn scope.names ([]:List (Str×Addr)) fun (p:Str×NameKind) (cs:List (Str×Addr))=>(if p.2 == NameKind.free then (do let a <- cellOf env p.1;pure (ForInStep.yield ((p.1,a)::cs))) else pure (ForInStep.yield cs):Sem (ForInStep (List (Str×Addr))))) >>= (fun r=>(pure r:Sem _))=pure (clOf env.cells scope.names []):=by rw[e];rfl
 exact e'
theorem jrk{cells:List (Str×Addr)}{x:Str}{c:Addr}:∀ (ns:List (Str×NameKind)) (acc:List (Str×Addr)),(clOf cells ns acc).lookup x=some c->acc.lookup x=some c\/((x,NameKind.free)∈ns/\c=(cells.lookup x).getD 0)
 | [],acc,h=>.inl h
 | (n,k)::r,acc,h=>by
  rcases jrk r _ h with e|⟨e1,e2⟩
  ·by_cases hk:k=.free
   ·subst hk;rw[if_pos ffk,List.lookup_cons] at e
    cases hx:x == n with
    | true =>
     rw[hx] at e;have:x=n:=by simpa using hx
     subst this;exact .inr ⟨zaa,(zby e).symm⟩
    | false=>rw[hx] at e;exact .inl e
   ·rw[if_neg (by simpa using hk)] at e;exact .inl e
  ·exact .inr ⟨zaw _ e1,e2⟩
theorem jrj{cells:List (Str×Addr)}{x:Str}:∀ (ns:List (Str×NameKind)) (acc:List (Str×Addr)),acc.lookup x=some ((cells.lookup x).getD 0)->(clOf cells ns acc).lookup x=some ((cells.lookup x).getD 0)
 | [],acc,h=>h
 | (n,k)::r,acc,h=>by
  refine jrj r _ ?_
  by_cases hk:k=.free
  ·subst hk;rw[if_pos ffk,List.lookup_cons]
   cases hx:x == n with
   | true =>
    have:x=n:=by simpa using hx
    subst this;rfl
   | false=>exact h
  ·rw[if_neg (by simpa using hk)];exact h
theorem jmq{cells:List (Str×Addr)}{x:Str}:∀ (ns:List (Str×NameKind)) (acc:List (Str×Addr)),(x,NameKind.free)∈ns->(clOf cells ns acc).lookup x=some ((cells.lookup x).getD 0)
 | [],acc,h=>by cases h
 | (n,k)::r,acc,h=>by
  rcases List.mem_cons.mp h with e|e
  ·cases e;refine jrj r _ ?_;rw[if_pos ffk,List.lookup_cons];simp
  ·exact jmq r _ e
def jfb(X:Cx)(scope:Scope)(N:List Str)(C:Addr)(s0:Shared)(H0:Hp)(ex:List Addr):Cx where
 prog:=X.prog
 w:=X.w
 K:=X.K
 mg:=X.mg
 base:=X.base
 A:=X.A
 N:=N
 s₀:=s0
 Hz:=H0
 env:=compEnvC scope (clOf X.env.cells scope.names []) C X.env
 outer:=X.stack
 stack:=X.stack
 ex:=ex
 fn:=fun _=>false
 calm:=X.calm
 pn:=[]
 xe:=fun _ _=>False
def jz6(N:List Str)(out:List (Str×NameKind))(inn:List (Str×NameKind))(caps:qg):Bool :=
 inn.all (fun p=>p.2 != .cell)&&inn.all (fun p=>p.2 != .local || inn.lookup p.1 == some .local) &&
 inn.all (fun p=>p.2 != .free || (out.lookup p.1 == some .cell || out.lookup p.1 == some .free)) &&
 caps.all (fun p=>N[p.2]? == some p.1&&inn.lookup p.1 == some .free)
structure CapsOk(X:Cx)(scope:Scope)(caps:qg):Prop where
 kind:scope.kind=.function
 nocell:∀ x∈scope.names,x.2≠.cell
 loc:∀ x∈scope.names,x.2=.local->scope.names.lookup x.1=some .local
 fre:∀ p∈scope.names,p.2=.free->X.env.kindOf p.1=some .cell\/X.env.kindOf p.1=some .free
 cap:∀ p∈caps,X.N[p.2]? = some p.1/\scope.names.lookup p.1=some .free
def jez{X:Cx}{scope osc:Scope}{N:List Str}{caps:qg}(hN:X.N=N)(ho:X.env.scope=osc)(hk:scope.kind=.function)(h:jz6 N osc.names scope.names caps=true):CapsOk X scope caps:=by
 unfold jz6 at h;simp only[Bool.and_eq_true,List.all_eq_true] at h;obtain⟨⟨⟨h1,h2⟩,h3⟩,h4⟩:=h;refine⟨hk,fun x hx=>by simpa using h1 x hx,fun x hx hl=>?_,fun p hp hf=>?_,fun p hp=>?_⟩
 ·have:=h2 x hx;rw[hl] at this;simpa using this
 ·have:=h3 p hp;rw[hf] at this;show X.env.scope.names.lookup p.1=_\/X.env.scope.names.lookup p.1=_;rw[ho];simpa using this
 ·have:=h4 p hp;rw[hN];simpa using this
def jfn(own:Nat)(caps:qg)(Z:St):St:=List.replicate own none++caps.map fun p=>(Z[p.2]?).join
def jJu(own:Nat)(caps:qg)(wi:TI)(g:TG)(tc:TT)(te:TE):TE:=fun Z H Q=>wi Z H fun Jq H1=>∀ D,H1 D=none ->
 ∃ W:Nat->Nat->St->Hp->Prop,(∃ m,W 0 m (jfn own caps Z) (upd H1 D (.lst [])))/\∀ i m Z' H',W i m Z' H' ->
  (Jq.stop i H'/\Q (.ref D) H')\/(Jq.go i H'/\∃ N:St->Hp->Prop,(∀ Z2 H2,N Z2 H2->∃ m',m'<m/\W (i+1) m' Z2 H2) /\
   ∀ x H2,Jq.yld i H' x H2->g x Z' H2 fun Z3 H3=>tc Z3 H3 fun b H4=>if b=true then te Z3 H4 fun v H5=>∃ ys,H5 D=some (.lst ys)/\ys.length<sizeLine/\N Z3 (upd H5 D (.lst (ys++[v]))) else N Z3 H4)
theorem jhn{scope:Scope}{env:Env}{x:Str}{k:NameKind}:∀ {ns:List (Str×NameKind)},(ns.map fun (n,k)=>if (k == NameKind.free&&env.scope.kind == .function&&env.kindOf n == some .cell) then (n,NameKind.cell) else (n,k)).lookup x=some k ->
  ∃ k',ns.lookup x=some k'/\(k=k'\/(k'=.free/\k=.cell))
 | [],h=>by simp at h
 | (n,k0)::r,h=>by
  rw[List.map_cons] at h
  by_cases hc:(k0 == NameKind.free&&env.scope.kind == .function&&env.kindOf n == some .cell)=true
  ·simp only[if_pos hc,List.lookup_cons] at h
   cases hx:x == n with
   | true =>
    rw[hx] at h;refine⟨k0,by simp[List.lookup_cons,hx],.inr ⟨?_,(zby h).symm⟩⟩;simp only[Bool.and_eq_true] at hc;simpa using hc.1.1
   | false =>
    rw[hx] at h;obtain⟨k',e,q⟩:=jhn (scope:=scope) h;exact⟨k',by simp only[List.lookup_cons,hx];exact e,q⟩
  ·simp only[if_neg hc,List.lookup_cons] at h
   cases hx:x == n with
   | true =>
    rw[hx] at h;exact⟨k0,by simp[List.lookup_cons,hx],.inl (zby h).symm⟩
   | false =>
    rw[hx] at h;obtain⟨k',e,q⟩:=jhn (scope:=scope) h;exact⟨k',by simp only[List.lookup_cons,hx];exact e,q⟩
theorem jhm{env:Env}{x:Str}:∀ {ns:List (Str×NameKind)},ns.lookup x=some .free ->
  (ns.map fun (n,k)=>if (k == NameKind.free&&env.scope.kind == .function&&env.kindOf n == some .cell) then (n,NameKind.cell) else (n,k)).lookup x=some .cell \/
  (ns.map fun (n,k)=>if (k == NameKind.free&&env.scope.kind == .function&&env.kindOf n == some .cell) then (n,NameKind.cell) else (n,k)).lookup x=some .free
 | [],h=>by simp at h
 | (n,k0)::r,h=>by
  rw[List.map_cons];simp only[List.lookup_cons] at h
  by_cases hc:(k0 == NameKind.free&&env.scope.kind == .function&&env.kindOf n == some .cell)=true
  ·simp only[if_pos hc,List.lookup_cons]
   cases hx:x == n with
   | true=>exact .inl rfl
   | false=>rw[hx] at h;exact jhm h
  ·simp only[if_neg hc,List.lookup_cons]
   cases hx:x == n with
   | true=>rw[hx] at h;exact .inr h
   | false=>rw[hx] at h;exact jhm h
def ju3{own:Nat}{caps:qg}{Z:St}{i:Nat}{v:V}(h:(jfn own caps Z)[i]? = some (some v)):∃ p,caps[i-own]? = some p/\own<=i/\Z[p.2]? = some (some v):=by
 unfold jfn at h
 by_cases hi:i<own
 ·rw[List.getElem?_append_left (by simpa using hi),List.getElem?_replicate,if_pos hi] at h;cases h
 ·rw[List.getElem?_append_right (by simpa using hi),List.length_replicate,zba] at h
  cases e:caps[i-own]? with
  | none=>rw[e] at h;cases h
  | some p =>
   rw[e] at h;refine⟨p,rfl,by omega,?_⟩;have h':(Z[p.2]?).join=some v:=zby h
   cases q:Z[p.2]? with
   | none=>rw[q] at h';cases h'
   | some o=>rw[q] at h';exact congrArg some h'
section
variable {X:Cx}{U:qc}{Z:St}{H:Hp}{s:Shared}
def jyh{scope:Scope}{own:List Str}{caps:qg}{h':Heap}{t':Nat}{fp:List Addr}(I:Inv X U Z H s)(ck:CapsOk X scope caps)
  (hf:∀ b∈fp,FpOk X U H b) (hb:∀ b∈fp,b<s.heap.objs.size) (ns:h'.Ns s.heap.objs.size fun x=>([]:List (Str×Value)).reverse.lookup x)
  (sb:Heap.SameBut s.heap.objs.size (s.heap.push { cls:=.type "dict",data:=.dict #[] }) h') :
  Inv (jfb X scope (own++caps.map (·.1)) s.heap.objs.size s H fp) [] (jfn own.length caps Z) H { s with heap:=h',toks:=t' }:=by
 have up:∀ b o,s.heap.get? b=some o->h'.get? b=some o:=fun b o e=>sb.extBut b o (zcv (zbv e)) (zaz _ e)
 have stk:∀ b∈fp,b∉frs X.stack:=fun b hb' z=>by
  obtain⟨_,f1,f2,_⟩:=hf b hb';rcases List.mem_cons.mp (I.stkSub b z) with q|q
  ·exact f1 q
  ·exact f2 q
 have clc:∀ x c,(clOf X.env.cells scope.names []).lookup x=some c->X.env.cells.lookup x=some c:=fun x c h=>by
  rcases jrk _ _ h with e|⟨e1,e2⟩
  ·cases e
  ·obtain⟨c',hc'⟩:=I.ok.has x (ck.fre _ e1 rfl);rw[hc'] at e2 |-
   exact congrArg some e2.symm
 have cell:∀ x c,(clOf X.env.cells scope.names []).lookup x=some c->∃ v,s.heap.IsCell c v:=fun x c h=>I.cell x c (clc x c h)
 have okk:(jfb X scope (own++caps.map (·.1)) s.heap.objs.size s H fp).Ok:=by
  refine⟨I.ok.mod,ck.kind,I.ok.glob,I.ok.blt,zac _,fun x y c h1 h2=>I.ok.inj x y c (clc x c h1) (clc y c h2),fun x hx=>?_,fun x c hfn=>?_,I.ok.hd,I.ok.frames,.inl rfl,fun b z=>⟨?_,fun x c h=>?_⟩,I.bs,
   zdy I.ok.bsz I.sz,fun b o e z=>?_,stk,I.stack,I.stkFree⟩
  ·have hx':∃ k,(scope.names.map fun (n,k)=>if (k == NameKind.free&&X.env.scope.kind == .function&&X.env.kindOf n == some .cell) then (n,NameKind.cell) else (n,k)).lookup x=some k/\(k=.cell\/k=.free):=by
    rcases hx with q|q
    ·exact⟨_,q,.inl rfl⟩
    ·exact⟨_,q,.inr rfl⟩
   obtain⟨k,q,hk⟩:=hx';obtain⟨k',e,r⟩:=jhn (scope:=scope) q;have m:=PySem.mem_of_lookup e;have hfree:k'=.free:=by
    rcases r with r|r
    ·rcases hk with hk|hk
     ·exact absurd (r.symm.trans hk) (ck.nocell _ m)
     ·exact r.symm.trans hk
    ·exact r.1
   subst hfree;exact⟨_,jmq _ _ m⟩
  ·cases hfn
  ·exact zcv (hb b z)
  ·exact (hf b z).2.2.2.2.1 x c (clc x c h)
  ·rcases (hf b z).2.2.2.1 with q|q
   ·exact I.ok.noex b o e q
   ·exact absurd (zcx (zbv e) (zdy I.ok.bsz q)) (Nat.lt_irrefl _)
 refine⟨okk,rfl,I.bare,Un.kept up,⟨_,ns,fun i x v h1 h2 h3=>?_⟩,fun x c h=>?_,I.hok.fresh (zac _),fun x c h=>I.freeC x c (clc x c h),fun p hp=>absurd (show p∈([]:qc) from hp) (by simp),I.hok.kept up,?_⟩
 ·obtain⟨p,hp,hi,hv⟩:=ju3 h2;have hx:p.1=x:=by
   have h1':(own++caps.map (·.1))[i]? = some x:=h1;rw[List.getElem?_append_right hi,zba,hp] at h1';exact zby h1'
  subst hx;obtain⟨cN,cf⟩:=ck.cap p (List.mem_of_getElem? hp);have mem:=PySem.mem_of_lookup cf;obtain⟨m,hn,hl⟩:=I.loc;have kf:=ck.fre _ mem rfl;obtain⟨u,r,l⟩:=hl p.2 p.1 v cN hv (by rcases kf with q|q;exact .inr (.inl q);exact .inr (.inr q));refine⟨u,r,.inr ?_⟩;rcases l with ⟨k,_⟩|⟨k,c,e,z⟩
  ·rcases kf with q|q<;>(rw[q] at k;cases k)
  ·refine⟨jhm cf,c,?_,z.keeps up⟩;show (clOf X.env.cells scope.names []).lookup p.1=some c;rw[jmq _ _ mem,e];rfl
 ·obtain⟨v,z⟩:=cell x c h;exact⟨v,z.keeps up⟩
 ·show (jfn own.length caps Z).length=(own++caps.map (·.1)).length;simp[jfn]
end
abbrev NoX:qd:=fun _ _=>False
def jy2{α:Type}{M:Model}{A:Around}{t:Sem α}{Q:α->Shared->Prop}{E:qd}{s:Shared}(h:wpAny M A t Q NoX s):wpAny M A t Q E s:=wpAny_mono h (fun _ _ q=>q) fun _ _ q=>q.elim
abbrev jxd(ifs:List Expr)(env:Env):Sem Bool:=forIn ifs true fun c r=>if r=true then do let ok <- isTrue c env (eval c env);pure (ForInStep.yield ok) else pure (ForInStep.yield r)
section
variable {prog:Program}{w:World}{A:Around}{R:Result->Shared->Prop}{s:Shared}
def jom{elt target iter:Expr}{ifs:List Expr}{scope:Scope}{pos:Pos}{it acc:Value}{env:Env}(Jq:Nat->Shared->Prop)
  (turn:∀ n s,Jq n s->wpAny (model prog w) A (pyNext it) (fun r s1=>match r with
   | none=>R (.ok .next) s1
   | some v=>wpAny (model prog w) A (letOwnedTupleGo target it v) (fun _ s2=>wpAny (model prog w) A (assign target env v) (fun _ s3=>wpAny (model prog w) A (jxd ifs env) (fun ok s4 =>
     if ok=true then wpAny (model prog w) A (eval elt env) (fun x s5=>wpAny (model prog w) A (call (.builtin "list.append") [acc,x]) (fun _ s6=>∃ m,m<n/\Jq m s6) NoX s5) NoX s4
     else ∃ m,m<n/\Jq m s4) NoX s3) NoX s2) NoX s1) NoX s)
  (n:Nat) (h:Jq n s):codeAny (model prog w) A (.compLoop (.ListComp elt [⟨target,iter,ifs,0⟩] scope pos) 0 it acc env) R s:=by
 refine codeAny_loop rfl Jq (fun n s hJ=>?_) n h;show wpAny _ A ((compTurn (.ListComp elt [⟨target,iter,ifs,0⟩] scope pos) 0 it acc env).onRaise (fun x=>do noteFrame x env;theTreesLotGoes x)) _ _ s;refine wpAny_noted (jy2 ?_);rw[compTurn_list];refine zay (wpAny_standAt (zay (thn (turn n s hJ) fun r s1 h1=>?_)))
 cases r with
 | none=>exact zab h1
 | some v =>
  refine zay (thn h1 fun _ s2 h2=>zay (thn h2 fun _ s3 h3=>zay (thn h3 fun ok s4 h4=>?_)))
  cases ok with
  | false =>
   rw[if_neg (by decide)] at h4
   first
    | exact zab ⟨rfl,h4⟩
    | exact zay (zab (zab ⟨rfl,h4⟩))
  | true =>
   rw[if_pos rfl] at h4
   first
    | exact zay (zay (thn h4 fun x s5 h5=>zay (thn h5 fun _ s6 h6=>zab (zab ⟨rfl,h6⟩))))
    | exact zay (thn h4 fun x s5 h5=>zay (thn h5 fun _ s6 h6=>zab ⟨rfl,h6⟩))
end
section
variable {X:Cx}
def PC0(X:Cx)(ifs:List Expr)(t:TT):Prop :=
 ∀ (U:qc) (s:Shared) (Z:St) (H:Hp) (Q:Bool->Hp->Prop),Inv X U Z H s->t Z H Q->wpAny (model X.prog X.w) X.A (jxd ifs X.env) (TP X U Z Q) X.xe s
def jEe:TT:=fun _ H Q=>Q true H
def jDe:PC0 X [] jEe:=fun U s Z H Q I h=>wpAny_tests_nil ⟨H,I,h⟩
def jGj{c:Expr}{t:TT}(h:PT X c t):PC0 X [c] t:=fun U s Z H Q I hw=>wpAny_tests_one (h U s Z H Q I hw)
def jCk{P:Program}{w:World}{H:Hp}{h h':Heap}{C:Addr}(ok:HOk P w H h)(hC:H C=none)(sb:Heap.SameBut C h h'):HOk P w H h':=fun b ob e=>by
 refine (ok b ob e).stay (fun c u hc q=>(sb.2 c ?_).trans q) (fun _ q=>q) fun _ _ q=>q
 rintro rfl;rcases hc with rfl|hc
 ·rw[hC] at e;cases e
 ·rw[hC] at hc;cases hc
def jHv{fs ex:List Addr}{H H':Hp}{h h1 h2:Heap}{C:Addr}(u:Un fs ex H H' h h1)(hC:h.objs.size<=C)(sb:Heap.SameBut C h1 h2):Un fs ex H H' h h2:=by
 have ne:∀ b o,h.get? b=some o->b≠C:=fun b o e=>zcv (zcx (zbv e) hC)
 refine⟨fun b o e n a c=>(sb.2 b (ne b o e)).trans (u.keep b o e n a c),fun b o e n a c=>?_,u.free,fun b o e c=>?_,u.tups,u.frzs,u.tbls⟩
 ·obtain⟨sl,q⟩:=u.slot b o e n a c;exact⟨sl,(sb.2 b (ne b o e)).trans q⟩
 ·obtain⟨o',q⟩:=u.there b o e c;exact⟨o',(sb.2 b (ne b o e)).trans q⟩
inductive CpInv(X:Cx)(tn:Nat->Heap->Prop)(fp:List Addr)(W:Nat->Nat->St->Hp->Prop)(n:Nat)(s:Shared):Prop
 | mk (i:Nat) (Z:St) (H:Hp) (hI:Inv X [] Z H s) (ht:tn i s.heap) (hf:∀ b∈fp,H b=none) (hw:W i n Z H)
def jDg{elt tg iter:Expr}{ifs:List Expr}{scope:Scope}{pos:Pos}{own:List Str}{caps:qg}{wi:TI}{g:TG}{tc:TT}{te:TE}(hc:X.calm=true)(ck:CapsOk X scope caps)
  (hi:PI X tg iter wi) (hg:∀ C s0 H0 ex,PG (jfb X scope (own++caps.map (·.1)) C s0 H0 ex) tg g) (ht:∀ C s0 H0 ex,PC0 (jfb X scope (own++caps.map (·.1)) C s0 H0 ex) ifs tc)
  (he:∀ C s0 H0 ex,PE (jfb X scope (own++caps.map (·.1)) C s0 H0 ex) elt te) (hs:∀ x,foldedSetIterable iter X.env x=pure x:=by intro _;rfl) :
  PE X (.ListComp elt [⟨tg,iter,ifs,0⟩] scope pos) (jJu own.length caps wi g tc te):=by
 intro U s Z H Q I h;have hcl:closureFor scope X.env=pure (clOf X.env.cells scope.names []):=js8 fun p hp hf=>I.ok.has p.1 (ck.fre p hp hf)
 rw[eval_ListComp];refine wpAny_comprehension_free (use:=none) rfl hs hcl ck.kind ck.loc (thn (hi U s Z H _ I h) fun v s1 h1=>thn h1 fun itv s2 h2=>?_);obtain⟨it,fp,tn,Jq,H2,e,I2,T,st2,f2,hw⟩:=h2;subst e;obtain⟨W,⟨m0,w0⟩,turn⟩:=hw s2.heap.objs.size (I2.hok.fresh (zac _));refine wpAny_newObj_type ?_;have hD:=I2.hok.fresh (zac s2.heap.objs.size);have I3:Inv X U Z (upd H2 s2.heap.objs.size (.lst [])) { s2 with heap:=s2.heap.push { cls:=.type "list",data:=.seq ([]:List Value).toArray } } :=
  I2.laid (t':=s2.toks) (fun b u e=>zaz _ e) (zac _) ⟨Nat.zero_le _,[],0,.nil,zbz _ rfl⟩
 have hlt:∀ b∈fp,b<s2.heap.objs.size:=fun b hb=>by obtain⟨o,e,_⟩:=T.obj _ _ st2 b hb;exact zbv e
 have f3:∀ b∈fp,FpOk X U (upd H2 s2.heap.objs.size (.lst [])) b:=fun b hb=>⟨by rw[jaj (zcv (hlt b hb))];exact (f2 b hb).1,(f2 b hb).2⟩
 have hlt3:∀ b∈fp,b<(s2.heap.push { cls:=.type "list",data:=.seq ([]:List Value).toArray }).objs.size:=fun b hb=>by rw[Heap.size_push];exact Nat.lt_succ_of_lt (hlt b hb)
 refine wpAny_newFunctionEnv ck.nocell (by intro y hy;simp at hy) (fun h' hns hsb=>?_) ck.kind;generalize hS3:({ s2 with heap:=s2.heap.push { cls:=.type "list",data:=.seq ([]:List Value).toArray } }:Shared)=S3 at I3 hns hsb |-
 have hlt3':∀ b∈fp,b<S3.heap.objs.size:=by rw[<- hS3];exact hlt3
 have I4:=jyh (own:=own) (t':=S3.toks+([]:List (Str×Value)).length) I3 ck f3 hlt3' hns hsb;have st4:tn 0 h':=T.keep _ _ _ st2 fun b hb o e=>hsb.extBut b o (zcv (hlt3' b hb)) (zaz _ (by rw[<- hS3];exact zaz _ e))
 have hsz:s2.heap.objs.size<S3.heap.objs.size:=by rw[<- hS3];show _<(Heap.push _ _).objs.size;rw[Heap.size_push];exact Nat.lt_succ_self _
 generalize hCC:S3.heap.objs.size=C at I4 hsb hns hsz;have loop:codeAny (model X.prog X.w) X.A (.compLoop (.ListComp elt [⟨tg,iter,ifs,0⟩] scope pos) 0 (.ref it) (.ref s2.heap.objs.size) (compEnvC scope (clOf X.env.cells scope.names []) C X.env))
   (compPost (model X.prog X.w) X.A X.xe none (EP X U Z Q) (.ref s2.heap.objs.size) C) { S3 with heap:=h',toks:=S3.toks+([]:List (Str×Value)).length }:=by
  have xf:∀ {H':Hp},(∀ b∈fp,H' b=none)->∀ b∈fp,FpOk (jfb X scope (own++caps.map (·.1)) C S3 (upd H2 s2.heap.objs.size (.lst [])) fp) [] H' b:=fun hn b hb=>by
   refine⟨hn b hb,?_,?_,.inl hb,fun x c e=>(I4.ok.exf b hb).2 x c e,fun p hp=>absurd (show p∈([]:qc) from hp) (by simp)⟩
   ·exact (I4.ok.exf b hb).1
   ·exact I4.ok.exfs b hb
  refine jom (CpInv (jfb X scope (own++caps.map (·.1)) C S3 (upd H2 s2.heap.objs.size (.lst [])) fp) tn fp W) ?_ m0
   ⟨0,_,_,I4,st4,fun b hb=>(f3 b hb).1,w0⟩
  rintro n s5 ⟨i,Z5,H5,I5,st5,fr5,w5⟩;rcases turn i n Z5 H5 w5 with ⟨stop,qn⟩|⟨go,N,hN,step⟩
  ·refine thn (T.done (jfb X scope (own++caps.map (·.1)) C S3 (upd H2 s2.heap.objs.size (.lst [])) fp) rfl rfl rfl hc i [] s5 Z5 H5 NoX I5 (xf fr5) st5 stop) fun r s6 hzz=>?_
   obtain⟨hr,I6⟩:=hzz;subst hr;obtain⟨m6,n6,_⟩:=id I6.loc;refine⟨m6,n6,fun h7 sb7=>⟨.ref s2.heap.objs.size,H5,?_,rfl,qn⟩⟩;have C3:S3.heap.objs.size<=C:=Nat.le_of_eq hCC;refine I3.call' (s':={ s6 with heap:=h7 }) (ch:=fp) I6.os (jHv I6.base C3 sb7) (jCk I6.hok I6.free sb7) I6.bare fun b hb=>?_
   obtain⟨_,q1,_,q3,q4,q5⟩:=f3 b hb;exact⟨q3,q1,q4,q5⟩
  ·refine thn (T.item (jfb X scope (own++caps.map (·.1)) C S3 (upd H2 s2.heap.objs.size (.lst [])) fp) rfl rfl rfl hc i [] s5 Z5 H5 NoX I5 (xf fr5) st5 go) fun r s6 hzz=>?_
   obtain⟨u,hr,h6⟩:=hzz;subst hr;refine thn h6 fun _ s7 hzz=>?_
   obtain⟨x,H7,I7,r7,y7,st7,fr7⟩:=hzz;have I7':=I7.pinned (xf fr7) (T.obj _ _ st7);refine thn (hg _ _ _ _ _ s7 Z5 H7 x u _ I7' r7 (step x H7 y7)) fun _ s8 hzz=>?_
   obtain⟨Z8,H8,I8,q8⟩:=hzz;refine thn (ht _ _ _ _ _ s8 Z8 H8 _ I8 q8) fun ok s9 hzz=>?_
   obtain⟨H9,I9,q9⟩:=hzz;have again:∀ {s':Shared} {Z':St} {H':Hp},Inv (jfb X scope (own++caps.map (·.1)) C S3 (upd H2 s2.heap.objs.size (.lst [])) fp) ([]++jpi fp s7.heap) Z' H' s'->N Z' H'->∃ m,m<n/\CpInv (jfb X scope (own++caps.map (·.1)) C S3 (upd H2 s2.heap.objs.size (.lst [])) fp) tn fp W m s':=fun {s' Z' H'} Ia na=>by
    obtain⟨m',hm,wa⟩:=hN Z' H' na;refine⟨m',hm,i+1,Z',H',Ia.unpinned,T.keep _ _ _ st7 fun b hb o e=>(Ia.pin (b,o) (zcy _ (zcy _ (jhy hb e)))).1,fun b hb=>?_,wa⟩;obtain⟨o,e,d⟩:=T.obj _ _ st7 b hb;exact (Ia.pin (b,o) (zcy _ (zcy _ (jhy hb e)))).2.1
   cases ok with
   | false =>
    rw[if_neg (by decide)] at q9 |-
    exact again I9 q9
   | true =>
    rw[if_pos rfl] at q9 |-
    refine thn (he _ _ _ _ _ s9 Z8 H9 _ I9 q9) fun y s10 hzz=>?_
    obtain⟨vy,H10,I10,r10,ys,hys,hlen,q10⟩:=hzz;refine thn (ji3 _ s10 Z8 H10 (.ref s2.heap.objs.size) [vy] (.ref s2.heap.objs.size) [y] (fun _ H'=>N Z8 H') I10 rfl (.cons r10 .nil) ⟨_,ys,vy,rfl,rfl,hys,hlen,q10⟩) fun _ s11 hzz=>?_
    obtain⟨_,H11,I11,_,q11⟩:=hzz;exact again I11 q11
 exact codeAny_compStart_list loop (T.self _ 0 _ _ _ st4 loop)
end
end L2
namespace DL
open L2
inductive D where
 | non|bl (b:Bool)|int (i:Int)|str (x:Str)|ty (n:String)|obj (i:Nat)|tup (xs:List D)|lst (xs:List D)
structure XD where
 cls:Str
 fs:List (Str×D)
abbrev M(α:Type):=Option (Except XD α)
def M.b{α β:Type}(m:M α)(f:α->M β):M β:=match m with
 | none=>none
 | some (.error x)=>some (.error x)
 | some (.ok a)=>f a
def M.p{α:Type}(a:α):M α:=some (.ok a)
def M.o{α:Type}:Option α->M α
 | none=>none
 | some a=>some (.ok a)
inductive M.BInv{α β:Type}(m:M α)(f:α->M β)(r:Except XD β):Prop
 | ok (a:α) (h1:m=some (.ok a)) (h2:f a=some r)
 | err (x:XD) (h1:m=some (.error x)) (h2:r=.error x)
def M.b_inv{α β:Type}{m:M α}{f:α->M β}{r:Except XD β}(h:m.b f=some r):M.BInv m f r:=by
 cases m with
 | none=>cases h
 | some e =>
  cases e with
  | error x=>exact .err x rfl (zby h).symm
  | ok a=>exact .ok a rfl h
def M.o_inv{α:Type}{m:Option α}{r:Except XD α}(h:M.o m=some r):∃ a,m=some a/\r=.ok a:=by
 cases m with
 | none=>cases h
 | some a=>exact⟨a,rfl,(zby h).symm⟩
@[simp] theorem M.b_ok{α β:Type}(a:α)(f:α->M β):M.b (some (.ok a)) f=f a:=rfl
@[simp] theorem M.b_p{α β:Type}(a:α)(f:α->M β):M.b (M.p a) f=f a:=rfl
@[simp] theorem M.b_err{α β:Type}(x:XD)(f:α->M β):M.b (some (.error x)) f=some (.error x):=rfl
@[simp] theorem M.o_some{α:Type}(a:α):M.o (some a)=M.p a:=rfl
abbrev Rho:=Nat->Option Addr
mutual
def Rep(J:Rho)(K:W.Frag)(H:Hp):D->V->Prop
 | .non,v=>v=.non
 | .bl b,v=>v=.bl b
 | .int i,v=>v=.int i
 | .str x,v=>v=.str x
 | .ty n,v=>v=.ty n
 | .obj i,v=>∃ a,J i=some a/\v=.ref a
 | .tup ds,v=>∃ a xs,v=.ref a/\SqT K H a xs/\Reps J K H ds xs
 | .lst ds,v=>∃ a xs,v=.ref a/\SqL K H a xs/\Reps J K H ds xs
def Reps(J:Rho)(K:W.Frag)(H:Hp):List D->List V->Prop
 | [],xs=>xs=[]
 | d::ds,xs=>∃ v vs,xs=v::vs/\Rep J K H d v/\Reps J K H ds vs
end
variable {J:Rho}{K:W.Frag}{H H':Hp}
def jw2{a:Addr}{u:HO}(e:Same H H')(h:Rd H a u):Rd H' a u:=by
 rcases h with h|⟨o,h⟩
 ·exact .inl (e a _ h)
 ·exact .inr ⟨o,e a _ h⟩
def jem{a:Addr}{xs:List V}(e:Same H H')(h:SqL K H a xs):SqL K H' a xs:=h.imp (jw2 e) id
def jde{a:Addr}{xs:List V}(e:Same H H')(h:SqT K H a xs):SqT K H' a xs:=h.imp (jw2 e) id
mutual
def Rep.mono(e:Same H H'):∀ {d:D} {v:V},Rep J K H d v->Rep J K H' d v
 | .non,_,h=>by unfold Rep at h |-;exact h
 | .bl _,_,h=>by unfold Rep at h |-;exact h
 | .int _,_,h=>by unfold Rep at h |-;exact h
 | .str _,_,h=>by unfold Rep at h |-;exact h
 | .ty _,_,h=>by unfold Rep at h |-;exact h
 | .obj _,_,h=>by unfold Rep at h |-;exact h
 | .tup _,_,h=>by
  unfold Rep at h |-
  obtain⟨a,xs,q1,q2,q3⟩:=h;exact⟨a,xs,q1,jde e q2,Reps.mono e q3⟩
 | .lst _,_,h=>by
  unfold Rep at h |-
  obtain⟨a,xs,q1,q2,q3⟩:=h;exact⟨a,xs,q1,jem e q2,Reps.mono e q3⟩
def Reps.mono(e:Same H H'):∀ {ds:List D} {vs:List V},Reps J K H ds vs->Reps J K H' ds vs
 | [],_,h=>by unfold Reps at h |-;exact h
 | _::_,_,h=>by
  unfold Reps at h |-
  obtain⟨v,vs,q1,q2,q3⟩:=h;exact⟨v,vs,q1,Rep.mono e q2,Reps.mono e q3⟩
end
def reps_nil{vs:List V}:Reps J K H [] vs↔vs=[]:=by unfold Reps;exact Iff.rfl
def reps_cons{d:D}{ds:List D}{vs:List V}:Reps J K H (d::ds) vs↔∃ v r,vs=v::r/\Rep J K H d v/\Reps J K H ds r:=by
 conv=>lhs;unfold Reps
def Reps.cons{d:D}{ds:List D}{v:V}{vs:List V}(h:Rep J K H d v)(t:Reps J K H ds vs):Reps J K H (d::ds) (v::vs):=reps_cons.mpr ⟨v,vs,rfl,h,t⟩
def Reps.nil:Reps J K H [] []:=reps_nil.mpr rfl
theorem Reps.length:∀ {ds:List D} {vs:List V},Reps J K H ds vs->vs.length=ds.length
 | [],_,h=>by rw[reps_nil.mp h];rfl
 | _::_,_,h=>by
  obtain⟨v,r,rfl,_,t⟩:=reps_cons.mp h;simp[Reps.length t]
theorem Reps.get:∀ {ds:List D} {vs:List V} {i:Nat} {d:D},Reps J K H ds vs->ds[i]? = some d->∃ v,vs[i]? = some v/\Rep J K H d v
 | [],_,_,_,_,e=>by simp at e
 | _::_,_,0,_,h,e=>by
  obtain⟨v,r,rfl,q,_⟩:=reps_cons.mp h;simp at e;subst e
  exact⟨v,rfl,q⟩
 | _::_,_,i+1,_,h,e=>by
  obtain⟨v,r,rfl,_,t⟩:=reps_cons.mp h;obtain⟨u,q1,q2⟩:=Reps.get (i:=i) t (by simpa using e);exact⟨u,by simpa using q1,q2⟩
theorem Reps.append:∀ {ds es:List D} {vs us:List V},Reps J K H ds vs->Reps J K H es us->Reps J K H (ds++es) (vs++us)
 | [],_,_,_,h,k=>by rw[reps_nil.mp h];exact k
 | _::_,_,_,_,h,k=>by
  obtain⟨v,r,rfl,q,t⟩:=reps_cons.mp h;exact Reps.cons q (Reps.append t k)
def rep_int{i:Int}{v:V}:Rep J K H (.int i) v↔v=.int i:=by unfold Rep;exact Iff.rfl
def rep_str{x:Str}{v:V}:Rep J K H (.str x) v↔v=.str x:=by unfold Rep;exact Iff.rfl
def rep_ty{n:String}{v:V}:Rep J K H (.ty n) v↔v=.ty n:=by unfold Rep;exact Iff.rfl
def rep_obj{i:Nat}{v:V}:Rep J K H (.obj i) v↔∃ a,J i=some a/\v=.ref a:=by unfold Rep;exact Iff.rfl
def rep_bl{b:Bool}{v:V}:Rep J K H (.bl b) v↔v=.bl b:=by unfold Rep;exact Iff.rfl
def rep_non{v:V}:Rep J K H .non v↔v=.non:=by unfold Rep;exact Iff.rfl
def rep_tup{ds:List D}{v:V}:Rep J K H (.tup ds) v↔∃ a xs,v=.ref a/\SqT K H a xs/\Reps J K H ds xs:=by conv=>lhs;unfold Rep
def rep_lst{ds:List D}{v:V}:Rep J K H (.lst ds) v↔∃ a xs,v=.ref a/\SqL K H a xs/\Reps J K H ds xs:=by conv=>lhs;unfold Rep
theorem reps_ints:∀ {ns:List Int} {vs:List V},Reps J K H (ns.map .int) vs↔vs=ns.map V.int
 | [],vs=>reps_nil
 | n::ns,vs=>by
  rw[List.map_cons,reps_cons];constructor
  ·rintro⟨v,r,rfl,h1,h2⟩;rw[rep_int.mp h1,reps_ints.mp h2];rfl
  ·rintro rfl;exact⟨_,_,rfl,rep_int.mpr rfl,reps_ints.mpr rfl⟩
def hid(H:Hp)(G:qe):Hp:=fun b=>if G b=true then none else H b
def hid_some{G:qe}{b:Addr}{o:HO}:hid H G b=some o↔G b=false/\H b=some o:=by
 unfold hid;cases e:G b<;>simp
def jaq{G:qe}(e:Same H H'):Same (hid H G) (hid H' G):=fun b o h=>by
 obtain⟨q1,q2⟩:=hid_some.mp h;exact hid_some.mpr ⟨q1,e b o q2⟩
def jfg{G G':qe}(h:∀ b,G' b=true->G b=true):Same (hid H G) (hid H G'):=fun b o q=>by
 obtain⟨q1,q2⟩:=hid_some.mp q;refine hid_some.mpr ⟨?_,q2⟩
 cases e:G' b with
 | false=>rfl
 | true=>rw[h b e] at q1;cases q1
def jao{G:qe}:Same (hid H G) H:=fun b o q=>(hid_some.mp q).2
def jgh{G:qe}{a:Addr}{o:HO}(h:G a=true):hid (upd H a o) G=hid H G:=by
 funext b
 unfold hid upd
 by_cases e:b=a
 ·subst e;rw[if_pos h,if_pos h]
 ·rw[if_neg e]
def ja7{p:Addr}{o:HO}(h:H p=none):Same H (upd H p o):=fun b u e=>by rw[jaj (ja6 e h)];exact e
def jlb{Hz:Hp}{p:Addr}{o:HO}(e:Same Hz H)(h:Hz p=none):Same Hz (upd H p o):=fun b u q=>by rw[jaj (ja6 q h)];exact e b u q
abbrev DSt:=List (Option D)
def jD0:Option (Option V)->Option Addr
 | some (some (.ref a))=>some a
 | _=>none
def jtr{o:Option (Option V)}{a:Addr}:jD0 o=some a↔o=some (some (.ref a)):=by
 constructor
 ·intro h;unfold jD0 at h
  split at h
  ·cases h;rfl
  ·cases h
 ·rintro rfl;rfl
def ownA(Z:St):List Nat->List Addr
 | []=>[]
 | i::O=>(jD0 Z[i]?).toList++ownA Z O
def jyt{Z:St}{O:List Nat}{a:Addr}:a∈ownA Z O↔∃ i∈O,Z[i]? = some (some (.ref a)):=by
 induction O with
 | nil=>simp[ownA]
 | cons j O ih =>
  unfold ownA;rw[zdx,ih,Option.mem_toList,jtr];constructor
  ·rintro (h|⟨i,hi,h⟩)
   ·exact⟨j,zaa,h⟩
   ·exact⟨i,zaw _ hi,h⟩
  ·rintro⟨i,hi,h⟩;rcases List.mem_cons.mp hi with rfl|hi
   ·exact .inl h
   ·exact .inr ⟨i,hi,h⟩
def fob(F:qe)(Z:St)(O:List Nat):qe:=fun b=>F b || (ownA Z O).contains b
def fob_t{F:qe}{Z:St}{O:List Nat}{b:Addr}:fob F Z O b=true↔F b=true\/∃ i∈O,Z[i]? = some (some (.ref b)):=by
 unfold fob;rw[Bool.or_eq_true,zbc,jyt]
def jgd{F:qe}{Z:St}:fob F Z []=F:=by
 funext b;unfold fob ownA;simp
structure RS(J:Rho)(K:W.Frag)(Hz H:Hp)(F:qe)(O:List Nat)(Z:St)(Y:DSt):Prop where
 len:Z.length=Y.length
 same:Same Hz H
 fin:∀ b,F b=true->H b≠none
 val:∀ (i:Nat) d,Y[i]? = some (some d)->i∉O->∃ v,Z[i]? = some (some v)/\Rep J K (hid H (fob F Z O)) d v
 own:∀ i∈O,∃ (a:Addr) (xs:List V) (ds:List D),Y[i]? = some (some (.lst ds))/\Z[i]? = some (some (.ref a))/\H a=some (.lst xs)/\(Hz a=none/\F a=false)/\Reps J K (hid H (fob F Z O)) ds xs
 nd:∀ i∈O,∀ j∈O,∀ a,Z[i]? = some (some (.ref a))->Z[j]? = some (some (.ref a))->i=j
section
variable {Hz:Hp}{F:qe}{O:List Nat}{Z:St}{Y:DSt}
def jD2{b:Addr}(e:Same H H')(h:H b≠none):H' b≠none:=fun z=>by
 cases q:H b with
 | none=>exact h q
 | some o=>rw[e b o q] at z;cases z
def jll{b p:Addr}{o:HO}(h:H b≠none):upd H p o b≠none:=by
 by_cases e:b=p
 ·subst e;rw[jam];exact fun z=>nomatch z
 ·rw[jaj e];exact h
def RS.mono(R:RS J K Hz H F O Z Y)(e:Same H H'):RS J K Hz H' F O Z Y :=
 ⟨R.len,R.same.trans e,fun b hb=>jD2 e (R.fin b hb),fun i d h ho=>let ⟨v,q1,q2⟩:=R.val i d h ho;⟨v,q1,q2.mono (jaq e)⟩,
  fun i hi=>let ⟨a,xs,ds,q1,q2,q3,q4,q5⟩:=R.own i hi;⟨a,xs,ds,q1,q2,e a _ q3,q4,q5.mono (jaq e)⟩,R.nd⟩
def RS.fresh(R:RS J K Hz H F O Z Y){p:Addr}(h:H p=none):fob F Z O p=false:=by
 cases e:fob F Z O p with
 | false=>rfl
 | true =>
  rcases fob_t.mp e with q|⟨i,hi,q⟩
  ·exact absurd h (R.fin p q)
  ·obtain⟨a,xs,ds,_,q2,q3,_⟩:=R.own i hi;rw[q] at q2;cases q2
   rw[q3] at h;cases h
def RS.fresh0(R:RS J K Hz H F O Z Y){p:Addr}(h:H p=none):Hz p=none:=by
 cases e0:Hz p with
 | none=>rfl
 | some o=>rw[R.same p o e0] at h;cases h
def RS.thaw{O':List Nat}(R:RS J K Hz H F O Z Y)(h:∀ i∈O',i∈O):RS J K Hz H F O' Z Y:=by
 have le:∀ b,fob F Z O' b=true->fob F Z O b=true:=fun b q=>by
  rcases fob_t.mp q with q|⟨i,hi,q⟩
  ·exact fob_t.mpr (.inl q)
  ·exact fob_t.mpr (.inr ⟨i,h i hi,q⟩)
 refine⟨R.len,R.same,R.fin,fun i d hd ho=>?_,fun i hi=>?_,fun i hi j hj=>R.nd i (h i hi) j (h j hj)⟩
 ·by_cases hO:i∈O
  ·obtain⟨a,xs,ds,q1,q2,q3,q4,q5⟩:=R.own i hO;rw[q1] at hd;cases hd
   refine⟨_,q2,rep_lst.mpr ⟨a,xs,rfl,SqL.of (hid_some.mpr ⟨?_,q3⟩),q5.mono (jfg le)⟩⟩
   cases e:fob F Z O' a with
   | false=>rfl
   | true =>
    rcases fob_t.mp e with z|⟨j,hj,z⟩
    ·rw[q4.2] at z;cases z
    ·exact absurd (R.nd i hO j (h j hj) a q2 z ▸ hj) ho
  ·obtain⟨v,q1,q2⟩:=R.val i d hd hO;exact⟨v,q1,q2.mono (jfg le)⟩
 ·obtain⟨a,xs,ds,q1,q2,q3,q4,q5⟩:=R.own i (h i hi);exact⟨a,xs,ds,q1,q2,q3,q4,q5.mono (jfg le)⟩
def jda{i:Nat}{v:V}(h:i∉O):fob F (Z.set i (some v)) O=fob F Z O:=by
 have:ownA (Z.set i (some v)) O=ownA Z O:=by
  induction O with
  | nil=>rfl
  | cons j O ih =>
   unfold ownA;rw[zbw (by rintro rfl;exact h zaa),ih fun z=>h (zaw _ z)]
 unfold fob;rw[this]
def RS.set(R:RS J K Hz H F O Z Y){i:Nat}{d:D}{v:V}(ho:i∉O)(hr:Rep J K (hid H (fob F Z O)) d v):RS J K Hz H F O (Z.set i (some v)) (Y.set i (some d)):=by
 have ne:∀ j∈O,j≠i:=fun j hj e=>ho (e ▸ hj)
 refine⟨by simp[R.len],R.same,R.fin,fun j e hd hj=>?_,fun j hj=>?_,fun j hj k hk a e1 e2=>?_⟩
 ·rw[jda ho]
  by_cases hji:j=i
  ·subst hji;have hl:j<Y.length:=by
    by_cases q:j<Y.length
    ·exact q
    ·rw[List.getElem?_eq_none (by simpa using q)] at hd;cases hd
   rw[zcz hl] at hd;cases hd;exact⟨v,zcz (by rw[R.len];exact hl),hr⟩
  ·rw[zbw (Ne.symm hji)] at hd |-
   exact R.val j e hd hj
 ·rw[jda ho,zbw (Ne.symm (ne j hj)),zbw (Ne.symm (ne j hj))];exact R.own j hj
 ·rw[zbw (Ne.symm (ne j hj))] at e1;rw[zbw (Ne.symm (ne k hk))] at e2;exact R.nd j hj k hk a e1 e2
def RS.take(R:RS J K Hz H F O Z Y){i:Nat}{ds:List D}{p:Addr}{xs:List V}{H1:Hp}(ho:i∉O)(hi:i<Y.length)(e:Same H H1)(hp:H1 p=none)(hr:Reps J K (hid H1 (fob F Z O)) ds xs) :
  RS J K Hz (upd H1 p (.lst xs)) F (i::O) (Z.set i (some (.ref p))) (Y.set i (some (.lst ds))):=by
 have R1:=R.mono e;have p0:=R1.fresh0 hp;have pf:=R1.fresh hp;have ne:∀ j∈O,j≠i:=fun j hj e=>ho (e ▸ hj)
 have lZ:i<Z.length:=by rw[R.len];exact hi
 have gp:∀ b,fob F (Z.set i (some (.ref p))) (i::O) b=true↔b=p\/fob F Z O b=true:=fun b=>by
  rw[fob_t,fob_t];constructor
  ·rintro (q|⟨j,hj,q⟩)
   ·exact .inr (.inl q)
   ·rcases List.mem_cons.mp hj with rfl|hj
    ·rw[zcz lZ] at q;cases q;exact .inl rfl
    ·rw[zbw (Ne.symm (ne j hj))] at q;exact .inr (.inr ⟨j,hj,q⟩)
  ·rintro (rfl|q|⟨j,hj,q⟩)
   ·exact .inr ⟨i,zaa,zcz lZ⟩
   ·exact .inl q
   ·exact .inr ⟨j,zaw _ hj,by rw[zbw (Ne.symm (ne j hj))];exact q⟩
 have eqH:hid (upd H1 p (.lst xs)) (fob F (Z.set i (some (.ref p))) (i::O))=hid H1 (fob F Z O):=by
  funext b
  by_cases hb:b=p
  ·subst hb;unfold hid;rw[if_pos ((gp b).mpr (.inl rfl)),hp]
   split<;>rfl
  ·unfold hid;rw[jaj hb]
   cases q:fob F Z O b with
   | true=>rw[if_pos ((gp b).mpr (.inr q)),if_pos rfl]
   | false =>
    rw[if_neg (by rw[gp];rintro (z|z);exact hb z;rw[q] at z;cases z),if_neg (by decide)]
 refine⟨by simp[R.len],jlb R1.same p0,fun b hb=>jll (R1.fin b hb),fun j d hd hj=>?_,fun j hj=>?_,fun j hj k hk a e1 e2=>?_⟩
 ·have hji:j≠i:=fun z=>hj (z ▸ zaa)
  rw[eqH];rw[zbw (Ne.symm hji)] at hd |-
  exact R1.val j d hd fun z=>hj (zaw _ z)
 ·rw[eqH];rcases List.mem_cons.mp hj with rfl|hj
  ·exact⟨p,xs,ds,zcz hi,zcz lZ,jam,⟨p0,by cases z:F p with|false=>rfl|true=>rw[fob_t.mpr (.inl z)] at pf;cases pf⟩,hr⟩
  ·obtain⟨a,ys,es,q1,q2,q3,q4,q5⟩:=R1.own j hj;refine⟨a,ys,es,by rw[zbw (Ne.symm (ne j hj))];exact q1,by rw[zbw (Ne.symm (ne j hj))];exact q2,?_,q4,q5⟩;rw[jaj (ja6 q3 hp)];exact q3
 ·have np:∀ j∈O,∀ a,Z[j]? = some (some (.ref a))->a≠p:=fun j hj a q z=>by
   obtain⟨a',ys,es,q1,q2,q3,q4,q5⟩:=R1.own j hj;rw[q] at q2;cases q2
   rw[z,hp] at q3;cases q3
  rcases List.mem_cons.mp hj with rfl|hj
  ·rw[zcz lZ] at e1;cases e1;rcases List.mem_cons.mp hk with rfl|hk
   ·rfl
   ·rw[zbw (Ne.symm (ne k hk))] at e2;exact absurd rfl (np k hk p e2)
  ·rw[zbw (Ne.symm (ne j hj))] at e1;rcases List.mem_cons.mp hk with hke|hk
   ·subst hke;rw[zcz lZ] at e2;cases e2;exact absurd rfl (np j (by assumption) p e1)
   ·rw[zbw (Ne.symm (ne k hk))] at e2;exact R.nd j hj k hk a e1 e2
def RS.write(R:RS J K Hz H F O Z Y){i:Nat}{a:Addr}{ds:List D}{xs:List V}(hi:i∈O)(ha:Z[i]? = some (some (.ref a)))(hr:Reps J K (hid H (fob F Z O)) ds xs) :
  RS J K Hz (upd H a (.lst xs)) F O Z (Y.set i (some (.lst ds))):=by
 obtain⟨a',ys,es,q1,q2,q3,q4,q5⟩:=R.own i hi;rw[ha] at q2;cases q2
 have hl:i<Y.length:=(zbb.mp q1).1;have hh:hid (upd H a (.lst xs)) (fob F Z O)=hid H (fob F Z O):=jgh (fob_t.mpr (.inr ⟨i,hi,ha⟩));refine⟨by simp[R.len],jlb R.same q4.1,fun b hb=>jll (R.fin b hb),fun j d hd hj=>?_,fun j hj=>?_,R.nd⟩
 ·have hji:j≠i:=fun z=>hj (z ▸ hi)
  rw[hh];rw[zbw (Ne.symm hji)] at hd;exact R.val j d hd hj
 ·rw[hh]
  by_cases hji:j=i
  ·subst hji;exact⟨a,xs,ds,zcz hl,ha,jam,q4,hr⟩
  ·obtain⟨b,zs,fs,p1,p2,p3,p4,p5⟩:=R.own j hj;refine⟨b,zs,fs,by rw[zbw (Ne.symm hji)];exact p1,p2,?_,p4,p5⟩;rw[jaj (show b≠a from fun z=>hji (R.nd j hj i hi b p2 (by rw[z];exact ha)))];exact p3
end
def XRep(K:W.Frag)(H:Hp)(x:XD)(c:Value)(dx:Option Addr):Prop:=False
def okX(K:W.Frag)(Hz:Hp)(E:XK)(x:XD):Prop:=∀ c dx H',Same Hz H'->XRep K H' x c dx->E c dx H'
inductive tD(K:W.Frag)(O:List Nat)(E:XK)(f:DSt->M D)(Z:St)(H:Hp)(Q:VK):Prop
 | mk (J:Rho) (Hz:Hp) (F:qe) (Y:DSt) (r:Except XD D) (R:RS J K Hz H F O Z Y) (hf:f Y=some r) (k:match (generalizing:=false) r with
  | .ok d=>∀ v H',Same H H'->Rep J K (hid H' (fob F Z O)) d v->Q v H'
  | .error x=>okX K Hz E x)
def DE(X:Cx)(O:List Nat)(E:XK)(e:Expr)(f:DSt->M D):Prop:=PE X e (tD X.K O E f)
inductive tB(K:W.Frag)(O:List Nat)(E:XK)(f:DSt->M Bool)(Z:St)(H:Hp)(Q:Bool->Hp->Prop):Prop
 | mk (J:Rho) (Hz:Hp) (F:qe) (Y:DSt) (r:Except XD Bool) (R:RS J K Hz H F O Z Y) (hf:f Y=some r) (k:match (generalizing:=false) r with
  | .ok b=>∀ H',Same H H'->Q b H'
  | .error x=>okX K Hz E x)
def DT(X:Cx)(O:List Nat)(E:XK)(e:Expr)(f:DSt->M Bool):Prop:=PT X e (tB X.K O E f)
inductive tL(K:W.Frag)(O:List Nat)(E:XK)(f:DSt->M (List D))(Z:St)(H:Hp)(Q:List V->Hp->Prop):Prop
 | mk (J:Rho) (Hz:Hp) (F:qe) (Y:DSt) (r:Except XD (List D)) (R:RS J K Hz H F O Z Y) (hf:f Y=some r) (k:match (generalizing:=false) r with
  | .ok ds=>∀ vs H',Same H H'->Reps J K (hid H' (fob F Z O)) ds vs->Q vs H'
  | .error x=>okX K Hz E x)
def DA(X:Cx)(O:List Nat)(E:XK)(es:List Expr)(f:DSt->M (List D)):Prop:=PA X es (tL X.K O E f)
def vR(i:Nat):DSt->M D:=fun Y=>M.o (Y[i]?).join
def fC(d:D):DSt->M D:=fun _=>M.p d
def f2(g:D->D->Option D)(fa fb:DSt->M D):DSt->M D:=fun Y=>(fa Y).b fun x=>(fb Y).b fun y=>M.o (g x y)
def f1(g:D->Option D)(fa:DSt->M D):DSt->M D:=fun Y=>(fa Y).b fun x=>M.o (g x)
def t2(g:D->D->Option D)(fa fb:DSt->M D):DSt->M Bool:=fun Y=>(fa Y).b fun x=>(fb Y).b fun y=>match g x y with
 | some (.bl b)=>M.p b
 | _=>none
def fNil:DSt->M (List D):=fun _=>M.p []
def jac(f:DSt->M D)(g:DSt->M (List D)):DSt->M (List D):=fun Y=>(f Y).b fun x=>(g Y).b fun xs=>M.p (x::xs)
def fL(k:List D->Option D)(g:DSt->M (List D)):DSt->M D:=fun Y=>(g Y).b fun xs=>M.o (k xs)
section
variable {J:Rho}{X:Cx}{O:List Nat}{E:XK}{a b c e:Expr}{es:List Expr}{fa fb fc:DSt->M D}{fl:DSt->M (List D)}{pos:Pos}
def join_some{Y:DSt}{i:Nat}{d:D}(h:(Y[i]?).join=some d):Y[i]? = some (some d):=by
 cases e:Y[i]? with
 | none=>rw[e] at h;cases h
 | some o=>rw[e] at h;exact congrArg some h
def jaa(i:Nat){x:Str}(ho:O.contains i=false:=by rfl)(hN:X.N[i]? = some x:=by rfl)(hv:Vis X.env.scope x:=by first|exact Or.inl rfl|exact Or.inr (Or.inl rfl)|exact Or.inr (Or.inr rfl))
  (hd:(x == ("__debug__":Str))=false:=by decide) (hcd:(x == ("__classdict__":Str))=false:=by decide):DE X O E (.Name x pos) (vR i):=by
 rintro U s Z H Q I ⟨J,Hz,F,Y,r,R,hf,h⟩;obtain⟨d,e,rfl⟩:=M.o_inv hf;have ho':i∉O:=fun z=>by rw[zbc.mpr z] at ho;cases ho
 obtain⟨v,q1,q2⟩:=R.val i d (join_some e) ho';exact jl9 hN hv hd hcd U s Z H Q I ⟨v,q1,h v H (Same.refl H) q2⟩
def jko{t:TE}{d:D}{v:V}(h:PE X e (tC v))(hr:∀ J H,Rep J X.K H d v):DE X O E e (fC d):=by
 rintro U s Z H Q I ⟨J,Hz,F,Y,r,R,hf,k⟩;cases hf;exact h U s Z H Q I (k v H (Same.refl H) (hr _ _))
def jaf{i:Int}{j}:DE X O E (.Constant (.int i) j pos) (fC (.int i)):=jko (t:=tC (.int i)) jGl fun _ _=>rep_int.mpr rfl
def juo{k:Bool}{j}:DE X O E (.Constant (.bool k) j pos) (fC (.bl k)):=jko (t:=tC (.bl k)) jJf fun _ _=>rep_bl.mpr rfl
def jgz{j}:DE X O E (.Constant .none j pos) (fC .non):=jko (t:=tC .non) jGm fun _ _=>rep_non.mpr rfl
def jan{x:Str}{j}:DE X O E (.Constant (.str x) j pos) (fC (.str x)):=jko (t:=tC (.str x)) jGo fun _ _=>rep_str.mpr rfl
def OpD(K:W.Frag)(g:D->D->Option D)(r:R2):Prop:=∀ x y d,g x y=some d->∀ (J:Rho) (H:Hp) (G:qe) u v (Q:VK),(∀ p,H p=none->G p=false)->Rep J K (hid H G) x u->Rep J K (hid H G) y v ->
 (∀ w H',Same H H'->Rep J K (hid H' G) d w->Q w H')->r u v H Q
def UnD(K:W.Frag)(g:D->Option D)(r:V->Hp->VK->Prop):Prop:=∀ x d,g x=some d->∀ (J:Rho) (H:Hp) (G:qe) u (Q:VK),(∀ p,H p=none->G p=false)->Rep J K (hid H G) x u ->
 (∀ w H',Same H H'->Rep J K (hid H' G) d w->Q w H')->r u H Q
def CaD(K:W.Frag)(g:List D->Option D)(r:List V->Hp->VK->Prop):Prop:=∀ xs d,g xs=some d->∀ (J:Rho) (H:Hp) (G:qe) us (Q:VK),(∀ p,H p=none->G p=false)->Reps J K (hid H G) xs us ->
 (∀ w H',Same H H'->Rep J K (hid H' G) d w->Q w H')->r us H Q
def jre{g:D->D->Option D}{r:R2}{Z:St}{H:Hp}{Q:VK}(hg:OpD X.K g r)(h:tD X.K O E (f2 g fa fb) Z H Q):tOp r (tD X.K O E fa) (tD X.K O E fb) Z H Q:=by
 obtain⟨J,Hz,F,Y,rr,R,hf,h⟩:=h;rcases M.b_inv hf with ⟨x,e1,hf⟩|⟨x,e1,rfl⟩
 ·refine⟨J,Hz,F,Y,.ok x,R,e1,fun u H1 s1 r1=>?_⟩;rcases M.b_inv hf with ⟨y,e2,hf⟩|⟨y,e2,rfl⟩
  ·refine⟨J,Hz,F,Y,.ok y,R.mono s1,e2,fun v H2 s2 r2=>?_⟩;obtain⟨d,hd,rfl⟩:=M.o_inv hf;exact hg x y d hd J H2 _ u v Q (fun p hp=>(R.mono (s1.trans s2)).fresh hp) (r1.mono (jaq s2)) r2 fun w H3 s3 r3=>h w H3 (s1.trans (s2.trans s3)) r3
  ·exact⟨J,Hz,F,Y,.error y,R.mono s1,e2,h⟩
 ·exact⟨J,Hz,F,Y,.error x,R,e1,h⟩
def jaw{op:Operator}{g:D->D->Option D}{r:R2}(ho:OpR X (binaryOp op) r)(hg:OpD X.K g r)(ha:DE X O E a fa)(hb:DE X O E b fb):DE X O E (.BinOp a op b pos) (f2 g fa fb) :=
 fun U s Z H Q I h=>jGn ho ha hb U s Z H Q I (jre hg h)
def jbw{g:D->D->Option D}{r:R2}(ho:IxR X r)(hg:OpD X.K g r)(ha:DE X O E a fa)(hb:DE X O E b fb)(hs:jkj b:=by exact fun _ _=>rfl):DE X O E (.Subscript a b pos) (f2 g fa fb) :=
 fun U s Z H Q I h=>jy8 ho ha hb hs U s Z H Q I (jre hg h)
def jfc{op:CmpOp}{g:D->D->Option D}{r:R2}(ho:OpR X (compareOp op) r)(hg:OpD X.K g r)(ha:DE X O E a fa)(hb:DE X O E b fb)(hm:behindInMarks op b=false):DE X O E (.Compare a [op] [b] pos) (f2 g fa fb) :=
 fun U s Z H Q I h=>jwc ho ha hb hm U s Z H Q I (jre hg h)
def jap{op:CmpOp}{g:D->D->Option D}{r:R2}(ho:OpR X (compareOp op) r)(hg:OpD X.K g r)(ha:DE X O E a fa)(hb:DE X O E b fb)(hm:behindInMarks op b=false):DT X O E (.Compare a [op] [b] pos) (t2 g fa fb):=by
 rintro U s Z H Q I ⟨J,Hz,F,Y,rr,R,hf,h⟩;refine jwo ho ha hb hm U s Z H Q I (jre (r:=r) hg ?_);have key:∃ r':Except XD D,f2 g fa fb Y=some r'/\(match r',rr with|.ok d,.ok b=>d=.bl b|.error x,.error y=>x=y|_,_=>False):=by
  rcases M.b_inv hf with ⟨x,e1,hf⟩|⟨x,e1,rfl⟩
  ·rcases M.b_inv hf with ⟨y,e2,hf⟩|⟨y,e2,rfl⟩
   ·unfold f2;rw[e1,M.b_ok,e2,M.b_ok]
    cases e3:g x y with
    | none=>rw[e3] at hf;cases hf
    | some d =>
     rw[e3] at hf
     cases d with
     | bl k=>cases hf;exact⟨_,rfl,rfl⟩
     | _=>cases hf
   ·exact⟨.error y,by unfold f2;rw[e1,M.b_ok,e2];rfl,rfl⟩
  ·exact⟨.error x,by unfold f2;rw[e1];rfl,rfl⟩
 obtain⟨r',e,q⟩:=key;refine⟨J,Hz,F,Y,r',R,e,?_⟩
 cases r' with
 | error x=>cases rr with
  | error y=>cases q;exact h
  | ok _=>exact q.elim
 | ok d=>cases rr with
  | error y=>exact q.elim
  | ok k =>
   cases q;exact fun v H' s' rv=>⟨k,rep_bl.mp rv,h H' s'⟩
def jJ8{g:D->Option D}{r:V->Hp->VK->Prop}{Z:St}{H:Hp}{Q:VK}(hg:UnD X.K g r)(h:tD X.K O E (f1 g fa) Z H Q):tUn r (tD X.K O E fa) Z H Q:=by
 obtain⟨J,Hz,F,Y,rr,R,hf,h⟩:=h;rcases M.b_inv hf with ⟨x,e1,hf⟩|⟨x,e1,rfl⟩
 ·refine⟨J,Hz,F,Y,.ok x,R,e1,fun u H1 s1 r1=>?_⟩;obtain⟨d,hd,rfl⟩:=M.o_inv hf;exact hg x d hd J H1 _ u Q (fun p hp=>(R.mono s1).fresh hp) r1 fun w H3 s3 r3=>h w H3 (s1.trans s3) r3
 ·exact⟨J,Hz,F,Y,.error x,R,e1,h⟩
def jjh{op:UnaryOp}{g:D->Option D}{r:V->Hp->VK->Prop}(ho:UnR X (unaryOp op) r)(hg:UnD X.K g r)(ha:DE X O E a fa):DE X O E (.UnaryOp op a pos) (f1 g fa) :=
 fun U s Z H Q I h=>jJh ho ha U s Z H Q I (jJ8 hg h)
def jae:DA X O E [] fNil:=by
 rintro p U s Z H Q I ⟨J,Hz,F,Y,r,R,hf,h⟩;cases hf;exact jk8 p U s Z H Q I (h [] H (Same.refl H) Reps.nil)
def jab(ha:DE X O E e fa)(hr:DA X O E es fl)(hs:zsE e es X.env:=by rfl):DA X O E (e::es) (jac fa fl):=by
 rintro p U s Z H Q I ⟨J,Hz,F,Y,r,R,hf,h⟩;refine jfo ha hr hs p U s Z H Q I ?_;rcases M.b_inv hf with ⟨x,e1,hf⟩|⟨x,e1,rfl⟩
 ·refine⟨J,Hz,F,Y,.ok x,R,e1,fun u H1 s1 r1=>?_⟩;rcases M.b_inv hf with ⟨xs,e2,hf⟩|⟨y,e2,rfl⟩
  ·cases hf;exact⟨J,Hz,F,Y,.ok xs,R.mono s1,e2,fun vs H2 s2 r2=>h (u::vs) H2 (s1.trans s2) (Reps.cons (r1.mono (jaq s2)) r2)⟩
  ·exact⟨J,Hz,F,Y,.error y,R.mono s1,e2,h⟩
 ·exact⟨J,Hz,F,Y,.error x,R,e1,h⟩
def jvf{k:List D->Option D}{r:List V->Hp->VK->Prop}{Z:St}{H:Hp}{Q:VK}(hg:CaD X.K k r)(h:tD X.K O E (fL k fl) Z H Q):tCB r (tL X.K O E fl) Z H Q:=by
 obtain⟨J,Hz,F,Y,rr,R,hf,h⟩:=h;rcases M.b_inv hf with ⟨x,e1,hf⟩|⟨x,e1,rfl⟩
 ·refine⟨J,Hz,F,Y,.ok x,R,e1,fun u H1 s1 r1=>?_⟩;obtain⟨d,hd,rfl⟩:=M.o_inv hf;exact hg x d hd J H1 _ u Q (fun p hp=>(R.mono s1).fresh hp) r1 fun w H3 s3 r3=>h w H3 (s1.trans s3) r3
 ·exact⟨J,Hz,F,Y,.error x,R,e1,h⟩
def ja1{k:List D->Option D}{r:List V->Hp->VK->Prop}{x:Str}{id:String}{p:Pos}(hc:CallR X (.builtin id) r)(hg:CaD X.K k r)(hG:Gl X x)(hm:X.mg x=none)(hv:bootBuiltins x=some (.builtin id))(ha:DA X O E (e::es) fl)
  (hn:x≠"__name__":=by decide) (hdb:(x == ("__debug__":Str))=false:=by decide) (he:zsE e es X.env:=by rfl) (hpl:zbT pos es X.env:=by rfl) :
  DE X O E (.Call (.Name x p) (e::es) [] pos) (fL k fl):=fun U s Z H Q I h=>jnp hc hG hm hv ha hn hdb he hpl U s Z H Q I (jvf hg h)
def jbc{k:List D->Option D}{r:List V->Hp->VK->Prop}{x:Str}{T:String}{p:Pos}(hc:CallR X (.type T) r)(hg:CaD X.K k r)(hG:Gl X x)(hm:X.mg x=none)(hv:bootBuiltins x=some (.type T))(ha:DA X O E (e::es) fl)
  (hn:x≠"__name__":=by decide) (hdb:(x == ("__debug__":Str))=false:=by decide) (he:zsE e es X.env:=by rfl) (hpl:zbT pos es X.env:=by rfl) :
  DE X O E (.Call (.Name x p) (e::es) [] pos) (fL k fl):=fun U s Z H Q I h=>jwb hc hG hm hv ha hn hdb he hpl U s Z H Q I (jvf hg h)
def jb3(xs:List D):Option D:=if xs.length<=sizeLine then some (.tup xs) else none
def jbq(xs:List D):Option D:=if xs.length<=sizeLine then some (.lst xs) else none
def jc7{J:Rho}{K:W.Frag}{H:Hp}{G:qe}{p:Addr}{vs:List V}{ds:List D}(hp:H p=none)(hG:G p=false)(h:Reps J K (hid H G) ds vs):Rep J K (hid (upd H p (.tup vs)) G) (.tup ds) (.ref p) :=
 rep_tup.mpr ⟨p,vs,rfl,SqT.of (hid_some.mpr ⟨hG,jam⟩),h.mono (jaq (ja7 hp))⟩
def jd1{J:Rho}{K:W.Frag}{H:Hp}{G:qe}{p:Addr}{vs:List V}{ds:List D}(hp:H p=none)(hG:G p=false)(h:Reps J K (hid H G) ds vs):Rep J K (hid (upd H p (.lst vs)) G) (.lst ds) (.ref p) :=
 rep_lst.mpr ⟨p,vs,rfl,SqL.of (hid_some.mpr ⟨hG,jam⟩),h.mono (jaq (ja7 hp))⟩
def jc0{x1}(h:DA X O E es fl):DE X O E (.Tuple es x1 pos) (fL jb3 fl):=by
 rintro U s Z H Q I ⟨J,Hz,F,Y,rr,R,hf,k⟩;refine jwe h U s Z H Q I ?_;rcases M.b_inv hf with ⟨x,e1,hf⟩|⟨x,e1,rfl⟩
 ·refine⟨J,Hz,F,Y,.ok x,R,e1,fun u H1 s1 r1=>?_⟩;obtain⟨d,hd,rfl⟩:=M.o_inv hf;unfold jb3 at hd
  split at hd
  ·rename_i hz;cases hd;exact⟨by rw[r1.length];exact hz,fun p hp=>k _ _ (s1.trans (ja7 hp)) (jc7 hp ((R.mono s1).fresh hp) r1)⟩
  ·cases hd
 ·exact⟨J,Hz,F,Y,.error x,R,e1,k⟩
def jg5(h:DA X O E es fl):DE X O E (.List es pos) (fL jbq fl):=by
 rintro U s Z H Q I ⟨J,Hz,F,Y,rr,R,hf,k⟩;refine jph h U s Z H Q I ?_;rcases M.b_inv hf with ⟨x,e1,hf⟩|⟨x,e1,rfl⟩
 ·refine⟨J,Hz,F,Y,.ok x,R,e1,fun u H1 s1 r1=>?_⟩;obtain⟨d,hd,rfl⟩:=M.o_inv hf;unfold jbq at hd
  split at hd
  ·rename_i hz;cases hd;exact⟨by rw[r1.length];exact hz,fun p hp=>k _ _ (s1.trans (ja7 hp)) (jd1 hp ((R.mono s1).fresh hp) r1)⟩
  ·cases hd
 ·exact⟨J,Hz,F,Y,.error x,R,e1,k⟩
def fAnd(fa fb:DSt->M D):DSt->M D:=fun Y=>(fa Y).b fun x=>match x with
 | .bl true=>fb Y
 | .bl false=>M.p (.bl false)
 | _=>none
def fOr(fa fb:DSt->M D):DSt->M D:=fun Y=>(fa Y).b fun x=>match x with
 | .bl true=>M.p (.bl true)
 | .bl false=>fb Y
 | _=>none
def gNot:D->Option D
 | .bl b=>some (.bl !b)
 | _=>none
def tAnd(ta tb:DSt->M Bool):DSt->M Bool:=fun Y=>(ta Y).b fun x=>if x=true then tb Y else M.p false
def tOr(ta tb:DSt->M Bool):DSt->M Bool:=fun Y=>(ta Y).b fun x=>if x=true then M.p true else tb Y
def tNot(ta:DSt->M Bool):DSt->M Bool:=fun Y=>(ta Y).b fun x=>M.p !x
def fIf(tc:DSt->M Bool)(fa fb:DSt->M D):DSt->M D:=fun Y=>(tc Y).b fun x=>if x=true then fa Y else fb Y
variable {rest:List Expr}{ta tb' tc:DSt->M Bool}
def jor{op}(h:DE X O E a fa):DE X O E (.BoolOp op [a] pos) fa:=fun U s Z H Q I hw=>jAv h U s Z H Q I hw
def jun(ha:DE X O E a fa)(hb:DE X O E (.BoolOp .And (b::rest) pos) fb):DE X O E (.BoolOp .And (a::b::rest) pos) (fAnd fa fb):=by
 rintro U s Z H Q I ⟨J,Hz,F,Y,rr,R,hf,k⟩;refine jAs ha hb U s Z H Q I ?_;rcases M.b_inv hf with ⟨x,e1,hf⟩|⟨x,e1,rfl⟩
 ·refine⟨J,Hz,F,Y,.ok x,R,e1,fun u H1 s1 r1=>?_⟩
  cases x with
  | bl z =>
   refine⟨z,rep_bl.mp r1,?_⟩
   cases z with
   | true =>
    refine iteT ⟨J,Hz,F,Y,rr,R.mono s1,hf,?_⟩
    cases rr with
    | ok d=>exact fun v H' s' r'=>k v H' (s1.trans s') r'
    | error y=>exact k
   | false =>
    refine iteF ?_;cases hf;exact k _ H1 s1 (rep_bl.mpr rfl)
  | _=>cases hf
 ·exact⟨J,Hz,F,Y,.error x,R,e1,k⟩
def jBz(ha:DE X O E a fa)(hb:DE X O E (.BoolOp .Or (b::rest) pos) fb):DE X O E (.BoolOp .Or (a::b::rest) pos) (fOr fa fb):=by
 rintro U s Z H Q I ⟨J,Hz,F,Y,rr,R,hf,k⟩;refine jJg ha hb U s Z H Q I ?_;rcases M.b_inv hf with ⟨x,e1,hf⟩|⟨x,e1,rfl⟩
 ·refine⟨J,Hz,F,Y,.ok x,R,e1,fun u H1 s1 r1=>?_⟩
  cases x with
  | bl z =>
   refine⟨z,rep_bl.mp r1,?_⟩
   cases z with
   | true =>
    refine iteT ?_;cases hf;exact k _ H1 s1 (rep_bl.mpr rfl)
   | false =>
    refine iteF ⟨J,Hz,F,Y,rr,R.mono s1,hf,?_⟩
    cases rr with
    | ok d=>exact fun v H' s' r'=>k v H' (s1.trans s') r'
    | error y=>exact k
  | _=>cases hf
 ·exact⟨J,Hz,F,Y,.error x,R,e1,k⟩
def jE4(ha:DE X O E a fa):DE X O E (.UnaryOp .Not a pos) (f1 gNot fa):=by
 rintro U s Z H Q I ⟨J,Hz,F,Y,rr,R,hf,k⟩;refine jAu ha U s Z H Q I ?_;rcases M.b_inv hf with ⟨x,e1,hf⟩|⟨x,e1,rfl⟩
 ·refine⟨J,Hz,F,Y,.ok x,R,e1,fun u H1 s1 r1=>?_⟩
  cases x with
  | bl z=>cases hf;exact⟨z,rep_bl.mp r1,k _ H1 s1 (rep_bl.mpr rfl)⟩
  | _=>cases hf
 ·exact⟨J,Hz,F,Y,.error x,R,e1,k⟩
def DW(X:Cx)(O:List Nat)(E:XK)(e:Expr)(f:DSt->M Bool):Prop:=PW X e (tB X.K O E f)
def DW.dt{f:DSt->M Bool}(h:DW X O E e f):DT X O E e f:=PW.pt h
def je2(ha:DT X O E a ta):DW X O E (.BoolOp .And [a] pos) ta:=jwq ha
def jos(ha:DT X O E a ta):DW X O E (.BoolOp .Or [a] pos) ta:=jA0 ha
def jff(ha:DT X O E a ta)(hb:DW X O E (.BoolOp .And (b::rest) pos) tb'):DW X O E (.BoolOp .And (a::b::rest) pos) (tAnd ta tb'):=by
 rintro wh U s Z H Q I ⟨J,Hz,F,Y,rr,R,hf,k⟩;refine jAz ha hb wh U s Z H Q I ?_;rcases M.b_inv hf with ⟨x,e1,hf⟩|⟨x,e1,rfl⟩
 ·refine⟨J,Hz,F,Y,.ok x,R,e1,fun H1 s1=>?_⟩
  cases x with
  | true =>
   refine iteT ⟨J,Hz,F,Y,rr,R.mono s1,hf,?_⟩
   cases rr with
   | ok d=>exact fun H' s'=>k H' (s1.trans s')
   | error y=>exact k
  | false=>cases hf;exact iteF (k H1 s1)
 ·exact⟨J,Hz,F,Y,.error x,R,e1,k⟩
def jp8(ha:DT X O E a ta)(hb:DW X O E (.BoolOp .Or (b::rest) pos) tb'):DW X O E (.BoolOp .Or (a::b::rest) pos) (tOr ta tb'):=by
 rintro wh U s Z H Q I ⟨J,Hz,F,Y,rr,R,hf,k⟩;refine jGw ha hb wh U s Z H Q I ?_;rcases M.b_inv hf with ⟨x,e1,hf⟩|⟨x,e1,rfl⟩
 ·refine⟨J,Hz,F,Y,.ok x,R,e1,fun H1 s1=>?_⟩
  cases x with
  | true=>cases hf;exact iteT (k H1 s1)
  | false =>
   refine iteF ⟨J,Hz,F,Y,rr,R.mono s1,hf,?_⟩
   cases rr with
   | ok d=>exact fun H' s'=>k H' (s1.trans s')
   | error y=>exact k
 ·exact⟨J,Hz,F,Y,.error x,R,e1,k⟩
def jrr(ha:DT X O E a ta):DT X O E (.UnaryOp .Not a pos) (tNot ta):=by
 rintro U s Z H Q I ⟨J,Hz,F,Y,rr,R,hf,k⟩;refine jAy ha U s Z H Q I ?_;rcases M.b_inv hf with ⟨x,e1,hf⟩|⟨x,e1,rfl⟩
 ·cases hf;exact⟨J,Hz,F,Y,.ok x,R,e1,fun H1 s1=>k H1 s1⟩
 ·exact⟨J,Hz,F,Y,.error x,R,e1,k⟩
def truD:D->Option Bool
 | .non=>some false
 | .bl b=>some b
 | .int i=>some (i != 0)
 | .str x=>if x.length<=sizeLine then some ((x.length:Int) != 0) else none
 | .tup xs=>some !xs.isEmpty
 | .lst xs=>some !xs.isEmpty
 | _=>none
def tTru(fa:DSt->M D):DSt->M Bool:=fun Y=>(fa Y).b fun x=>M.o (truD x)
def isE{J:Rho}{K:W.Frag}{H:Hp}{ds:List D}{xs:List V}(h:Reps J K H ds xs):xs.isEmpty=ds.isEmpty:=by
 cases ds with
 | nil=>rw[reps_nil.mp h];rfl
 | cons d ds=>obtain⟨v,r,rfl,_⟩:=reps_cons.mp h;rfl
def jfe(ha:DE X O E a fa)(he:∀ whole,isTrue a X.env whole=(do let v <- whole;standAt a.pos;holding [v] (truthy v)):=by exact fun _=>rfl):DT X O E a (tTru fa):=by
 rintro U s Z H Q I ⟨J,Hz,F,Y,rr,R,hf,k⟩;refine jsj ha he U s Z H Q I ?_;rcases M.b_inv hf with ⟨x,e1,hf⟩|⟨x,e1,rfl⟩
 ·refine⟨J,Hz,F,Y,.ok x,R,e1,fun u H1 s1 r1=>?_⟩;obtain⟨z,hz,rfl⟩:=M.o_inv hf;refine⟨z,?_,k H1 s1⟩
  cases x with
  | non=>cases hz;rw[rep_non.mp r1];rfl
  | bl y=>cases hz;rw[rep_bl.mp r1];rfl
  | int i=>cases hz;rw[rep_int.mp r1];rfl
  | str y =>
   by_cases hl:y.length<=sizeLine
   ·have e:truD (.str y)=some ((y.length:Int) != 0):=if_pos hl;rw[e] at hz;cases hz
    rw[rep_str.mp r1];exact⟨hl,rfl⟩
   ·have e:truD (.str y)=none:=if_neg hl;rw[e] at hz;cases hz
  | tup ds =>
   cases hz;obtain⟨q,xs,rfl,q2,q3⟩:=rep_tup.mp r1;exact .inr (.inl ⟨xs,jde jao q2,by rw[isE q3]⟩)
  | lst ds =>
   cases hz;obtain⟨q,xs,rfl,q2,q3⟩:=rep_lst.mp r1;exact .inl ⟨xs,jem jao q2,by rw[isE q3]⟩
  | ty n=>cases hz
  | obj n=>cases hz
 ·exact⟨J,Hz,F,Y,.error x,R,e1,k⟩
def jop(hc:DT X O E c tc)(ha:DE X O E a fa)(hb:DE X O E b fb):DE X O E (.IfExp c a b pos) (fIf tc fa fb):=by
 rintro U s Z H Q I ⟨J,Hz,F,Y,rr,R,hf,k⟩;refine jy7 hc ha hb U s Z H Q I ?_;rcases M.b_inv hf with ⟨x,e1,hf⟩|⟨x,e1,rfl⟩
 ·refine⟨J,Hz,F,Y,.ok x,R,e1,fun H1 s1=>?_⟩
  cases x with
  | true =>
   refine iteT ⟨J,Hz,F,Y,rr,R.mono s1,hf,?_⟩
   cases rr with
   | ok d=>exact fun v H' s' r'=>k v H' (s1.trans s') r'
   | error y=>exact k
  | false =>
   refine iteF ⟨J,Hz,F,Y,rr,R.mono s1,hf,?_⟩
   cases rr with
   | ok d=>exact fun v H' s' r'=>k v H' (s1.trans s') r'
   | error y=>exact k
 ·exact⟨J,Hz,F,Y,.error x,R,e1,k⟩
def jou(g g':D->D->Option D)(fa fb fc:DSt->M D):DSt->M D:=fun Y=>(fa Y).b fun x=>(fb Y).b fun y=>match g x y with
 | some (.bl true)=>(fc Y).b fun z=>M.o (g' y z)
 | some (.bl false)=>M.p (.bl false)
 | _=>none
def jrm{op op':CmpOp}{g g':D->D->Option D}{r r':R2}(ho:OpR X (compareOp op) r)(hg:OpD X.K g r)(ho':OpR X (compareOp op') r')(hg':OpD X.K g' r')(ha:DE X O E a fa)(hb:DE X O E b fb)(hc:DE X O E c fc)
  (hm:lastMarks [op,op'] [b,c]=false:=by with_unfolding_all rfl):DE X O E (.Compare a [op,op'] [b,c] pos) (jou g g' fa fb fc):=by
 rintro U s Z H Q I ⟨J,Hz,F,Y,rr,R,hf,k⟩;refine jy6 ho ho' ha hb hc hm U s Z H Q I ?_;rcases M.b_inv hf with ⟨x,e1,hf⟩|⟨x,e1,rfl⟩
 ·refine⟨J,Hz,F,Y,.ok x,R,e1,fun u H1 s1 r1=>?_⟩;rcases M.b_inv hf with ⟨y,e2,hf⟩|⟨y,e2,rfl⟩
  ·refine⟨J,Hz,F,Y,.ok y,R.mono s1,e2,fun v H2 s2 r2=>?_⟩
   cases e3:g x y with
   | none=>rw[e3] at hf;cases hf
   | some d =>
    rw[e3] at hf
    cases d with
    | bl z =>
     refine hg x y _ e3 J H2 _ u v _ (fun p hp=>(R.mono (s1.trans s2)).fresh hp) (r1.mono (jaq s2)) r2 fun w H3 s3 r3=>⟨z,rep_bl.mp r3,?_⟩
     cases z with
     | true =>
      refine iteT ?_;rcases M.b_inv hf with ⟨z,e4,hf⟩|⟨z,e4,rfl⟩
      ·refine⟨J,Hz,F,Y,.ok z,R.mono (s1.trans (s2.trans s3)),e4,fun t H4 s4 r4=>?_⟩;obtain⟨d,hd,rfl⟩:=M.o_inv hf;exact hg' y z d hd J H4 _ v t Q (fun p hp=>(R.mono (s1.trans (s2.trans (s3.trans s4)))).fresh hp) (r2.mono (jaq (s3.trans s4))) r4 fun w H5 s5 r5=>k w H5 (s1.trans (s2.trans (s3.trans (s4.trans s5)))) r5
      ·exact⟨J,Hz,F,Y,.error z,R.mono (s1.trans (s2.trans s3)),e4,k⟩
     | false =>
      refine iteF ?_;cases hf;exact k _ H3 (s1.trans (s2.trans s3)) (rep_bl.mpr rfl)
    | _=>cases hf
  ·exact⟨J,Hz,F,Y,.error y,R.mono s1,e2,k⟩
 ·exact⟨J,Hz,F,Y,.error x,R,e1,k⟩
end
inductive Out where
 | nx (Y:DSt)|rt (d:D)|bk (Y:DSt)|ct (Y:DSt)
def Ok(J:Rho)(K:W.Frag)(O' B:List Nat)(E:XK)(Hz:Hp)(F:qe)(Hv:Hp)(Dn:Ends):Except XD Out->Prop
 | .ok (.nx Y')=>∀ Z' H',Same Hv (hid H' (fob F Z' O'))->RS J K Hz H' F O' Z' Y'->Dn.nx Z' H'
 | .ok (.rt d)=>∀ v H',Same Hz H'->Rep J K (hid H' F) d v->Dn.rt v H'
 | .ok (.bk Y')=>∀ Z' H',Same Hv (hid H' (fob F Z' B))->RS J K Hz H' F B Z' Y'->Dn.bk Z' H'
 | .ok (.ct Y')=>∀ Z' H',Same Hv (hid H' (fob F Z' B))->RS J K Hz H' F B Z' Y'->Dn.ct Z' H'
 | .error x=>okX K Hz E x
inductive sD(K:W.Frag)(O O' B:List Nat)(E:XK)(g:DSt->M Out)(Dn:Ends)(Z:St)(H:Hp):Prop
 | mk (J:Rho) (Hz:Hp) (F:qe) (Y:DSt) (r:Except XD Out) (R:RS J K Hz H F O Z Y) (hf:g Y=some r) (k:Ok J K O' B E Hz F (hid H (fob F Z O)) Dn r)
def DS(X:Cx)(O O' B:List Nat)(E:XK)(st:Stmt)(g:DSt->M Out):Prop:=PS X st (sD X.K O O' B E g)
def DSs(X:Cx)(O O' B:List Nat)(E:XK)(st:List Stmt)(g:DSt->M Out):Prop:=PSs X st (sD X.K O O' B E g)
def Ok.back{J:Rho}{K:W.Frag}{O' B:List Nat}{E:XK}{Hz:Hp}{F:qe}{Hv Hv':Hp}{Dn:Ends}{r:Except XD Out}(e:Same Hv Hv')(h:Ok J K O' B E Hz F Hv Dn r):Ok J K O' B E Hz F Hv' Dn r:=by
 cases r with
 | error x=>exact h
 | ok o =>
  cases o with
  | nx Y'=>exact fun Z' H' f=>h Z' H' (e.trans f)
  | bk Y'=>exact fun Z' H' f=>h Z' H' (e.trans f)
  | ct Y'=>exact fun Z' H' f=>h Z' H' (e.trans f)
  | rt d=>exact h
def gNx:DSt->M Out:=fun Y=>M.p (.nx Y)
def gSeq(g1 g2:DSt->M Out):DSt->M Out:=fun Y=>(g1 Y).b fun o=>match o with
 | .nx Y'=>g2 Y'
 | o=>M.p o
def gSet(i:Nat)(f:DSt->M D):DSt->M Out:=fun Y=>(f Y).b fun d=>M.p (.nx (Y.set i (some d)))
def gRet(f:DSt->M D):DSt->M Out:=fun Y=>(f Y).b fun d=>M.p (.rt d)
def jIy(f:DSt->M D):DSt->M Out:=fun Y=>(f Y).b fun _=>M.p (.nx Y)
def gIf(t:DSt->M Bool)(g1 g2:DSt->M Out):DSt->M Out:=fun Y=>(t Y).b fun b=>if b=true then g1 Y else g2 Y
def gBrk:DSt->M Out:=fun Y=>M.p (.bk Y)
def gCnt:DSt->M Out:=fun Y=>M.p (.ct Y)
def jow:DSt->M Out:=fun _=>none
def gApp(i:Nat)(f:DSt->M D):DSt->M Out:=fun Y=>(f Y).b fun d=>match (Y[i]?).join with
 | some (.lst ds)=>if ds.length<sizeLine then M.p (.nx (Y.set i (some (.lst (ds++[d]))))) else none
 | _=>none
def forD(g:DSt->M Out)(tg:D->DSt->Option DSt):List D->DSt->M Out
 | [],Y=>M.p (.nx Y)
 | d::ds,Y=>match tg d Y with
  | none=>none
  | some Y1=>(g Y1).b fun o=>match o with
   | .nx Y'=>forD g tg ds Y'
   | .ct Y'=>forD g tg ds Y'
   | .bk Y'=>M.p (.nx Y')
   | .rt v=>M.p (.rt v)
def gFor(fi:DSt->M (List D))(tg:D->DSt->Option DSt)(g:DSt->M Out):DSt->M Out:=fun Y=>(fi Y).b fun ds=>forD g tg ds Y
def jb0(t:DSt->M Bool)(g:DSt->M Out):Nat->DSt->M Out
 | 0,_=>none
 | n+1,Y=>(t Y).b fun b=>if b=true then (g Y).b fun o=>match o with
   | .nx Y'=>jb0 t g n Y'
   | .ct Y'=>jb0 t g n Y'
   | .bk Y'=>M.p (.nx Y')
   | .rt v=>M.p (.rt v)
  else M.p (.nx Y)
section
variable {J:Rho}{X:Cx}{O O' O'' B:List Nat}{E:XK}{b c e:Expr}{es:List Expr}{fa:DSt->M D}{fl:DSt->M (List D)}{pos:Pos}{st:Stmt}{rest:List Stmt}{g g1 g2:DSt->M Out}{tc:DSt->M Bool}
def jbi:DSs X O O B E [] gNx:=by
 rintro U s Z H Dn I ⟨J,Hz,F,Y,r,R,hf,h⟩;cases hf;exact jwn U s Z H Dn I (h Z H (Same.refl _) R)
def jah(h1:DS X O O' B E st g1)(h2:DSs X O' O'' B E rest g2):DSs X O O'' B E (st::rest) (gSeq g1 g2):=by
 rintro U s Z H Dn I ⟨J,Hz,F,Y,r,R,hf,h⟩;refine jns h1 h2 U s Z H Dn I ?_;rcases M.b_inv hf with ⟨o,e1,hf⟩|⟨x,e1,rfl⟩
 ·refine⟨J,Hz,F,Y,.ok o,R,e1,?_⟩
  cases o with
  | nx Y'=>exact fun Z' H' f R'=>⟨J,Hz,F,Y',r,R',hf,h.back f⟩
  | rt d=>cases hf;exact h
  | bk Y'=>cases hf;exact h
  | ct Y'=>cases hf;exact h
 ·exact⟨J,Hz,F,Y,.error x,R,e1,h⟩
def jai(h1:DS X O O' B E st g):DSs X O O' B E [st] g:=fun U s Z H Dn I h=>jnt h1 U s Z H Dn I h
def jmt{sts:List Stmt}(hO:∀ i∈O',i∈O)(h:DSs X O' O'' B E sts g):DSs X O O'' B E sts g:=by
 rintro U s Z H Dn I ⟨J,Hz,F,Y,r,R,hf,k⟩;refine h U s Z H Dn I ⟨J,Hz,F,Y,r,R.thaw hO,hf,k.back (jfg fun b q=>?_)⟩;rcases fob_t.mp q with q|⟨i,hi,q⟩
 ·exact fob_t.mpr (.inl q)
 ·exact fob_t.mpr (.inr ⟨i,hO i hi,q⟩)
def jvc{F:qe}{Z:St}{O O':List Nat}(hO:∀ i∈O',i∈O):∀ b,fob F Z O' b=true->fob F Z O b=true:=fun b q=>by
 rcases fob_t.mp q with q|⟨i,hi,q⟩
 ·exact fob_t.mpr (.inl q)
 ·exact fob_t.mpr (.inr ⟨i,hO i hi,q⟩)
def jsq{F:qe}{Z:St}{H H':Hp}{i:Nat}{v:V}(ho:i∉O)(s1:Same H H'):Same (hid H (fob F Z O)) (hid H' (fob F (Z.set i (some v)) O)):=by
 rw[jda ho];exact jaq s1
def ja3{i:Nat}{x:Str}{pos':Pos}(hN:X.N.Nodup)(he:DE X O E e fa)(ho:O.contains i=false:=by rfl)(hi:X.N[i]? = some x:=by rfl)(hx:Loc X.env.scope x:=by first|exact Or.inl rfl|exact Or.inr rfl)(hs:swapsWith e (some (.Name x pos')) pos.line X.env=pure false:=by rfl)
  (hf:X.fn x=true\/X.env.scope.names.lookup x=some .local:=by first|exact .inl rfl|exact .inr rfl|assumption):DS X O O B E (.Assign [.Name x pos'] e pos) (gSet i fa):=by
 rintro U s Z H Dn I ⟨J,Hz,F,Y,r,R,hg,k⟩;have ho':i∉O:=fun z=>by rw[zbc.mpr z] at ho;cases ho
 refine jma hN hi hx he hs hf U s Z H Dn I ?_;rcases M.b_inv hg with ⟨d,e1,hg⟩|⟨y,e1,rfl⟩
 ·cases hg;exact⟨J,Hz,F,Y,.ok d,R,e1,fun v H' s' r'=>k _ H' (jsq ho' s') ((R.mono s').set ho' r')⟩
 ·exact⟨J,Hz,F,Y,.error y,R,e1,k⟩
def jrq{i:Nat}{x:Str}{pos' pos2:Pos}(hN:X.N.Nodup)(h:DA X O E es fl)(ho:O.contains i=false:=by rfl)(hi:X.N[i]? = some x:=by rfl)(hx:Loc X.env.scope x:=by first|exact Or.inl rfl|exact Or.inr rfl)(hs:swapsWith (.List es pos2) (some (.Name x pos')) pos.line X.env=pure false:=by rfl)
  (hf:X.fn x=true\/X.env.scope.names.lookup x=some .local:=by first|exact .inl rfl|exact .inr rfl|assumption):DS X O (i::O) B E (.Assign [.Name x pos'] (.List es pos2) pos) (gSet i (fL jbq fl)):=by
 rintro U s Z H Dn I ⟨J,Hz,F,Y,r,R,hg,k⟩;have ho':i∉O:=fun z=>by rw[zbc.mpr z] at ho;cases ho
 have hl:i<Y.length:=by rw[<- R.len,I.len];exact (zbb.mp hi).1
 refine jma hN hi hx (jph h) hs hf U s Z H Dn I ?_;rcases M.b_inv hg with ⟨d,e1,hg⟩|⟨y,e1,rfl⟩
 ·cases hg;rcases M.b_inv e1 with ⟨ds,e1,hd⟩|⟨y,e1,z⟩
  ·refine⟨J,Hz,F,Y,.ok ds,R,e1,fun vs H1 s1 r1=>?_⟩;obtain⟨d',hd',z⟩:=M.o_inv hd;cases z;unfold jbq at hd'
   split at hd'
   ·rename_i hz;cases hd';refine⟨by rw[r1.length];exact hz,fun p hp=>?_⟩;refine k _ _ ?_ (R.take ho' hl s1 hp r1);have pf:=(R.mono s1).fresh hp;have lZ:i<Z.length:=by rw[R.len];exact hl
    intro b o q;obtain⟨q1,q2⟩:=hid_some.mp q;have q3:=s1 b o q2;have hb:b≠p:=ja6 q3 hp;refine hid_some.mpr ⟨?_,by rw[jaj hb];exact q3⟩
    cases z:fob F (Z.set i (some (.ref p))) (i::O) b with
    | false=>rfl
    | true =>
     rcases fob_t.mp z with z|⟨j,hj,z⟩
     ·rw[fob_t.mpr (.inl z)] at q1;cases q1
     ·rcases List.mem_cons.mp hj with rfl|hj
      ·rw[zcz lZ] at z;cases z;exact absurd rfl hb
      ·rw[zbw (by rintro rfl;exact ho' hj)] at z;rw[fob_t.mpr (.inr ⟨j,hj,z⟩)] at q1;cases q1
   ·cases hd'
  ·cases z
 ·rcases M.b_inv e1 with ⟨ds,e1,hd⟩|⟨y',e1,z⟩
  ·obtain⟨_,_,z⟩:=M.o_inv hd;cases z
  ·cases z;exact⟨J,Hz,F,Y,.error _,R,e1,k⟩
def ja8(he:DE X O E e fa):DS X O O' B E (.Return (some e) pos) (gRet fa):=by
 rintro U s Z H Dn I ⟨J,Hz,F,Y,r,R,hg,k⟩;refine jwm he U s Z H Dn I ?_;rcases M.b_inv hg with ⟨d,e1,hg⟩|⟨y,e1,rfl⟩
 ·cases hg;exact⟨J,Hz,F,Y,.ok d,R,e1,fun v H' s' r'=>k v H' (R.same.trans s') (r'.mono (jfg fun b q=>fob_t.mpr (.inl q)))⟩
 ·exact⟨J,Hz,F,Y,.error y,R,e1,k⟩
def jdp{s1 s2:List Stmt}(hc:DT X O E c tc)(h1:DSs X O O' B E s1 g1)(h2:DSs X O O' B E s2 g2):DS X O O' B E (.If c s1 s2 pos) (gIf tc g1 g2):=by
 rintro U s Z H Dn I ⟨J,Hz,F,Y,r,R,hg,k⟩;refine jDp hc h1 h2 U s Z H Dn I ?_;rcases M.b_inv hg with ⟨z,e1,hg⟩|⟨y,e1,rfl⟩
 ·refine⟨J,Hz,F,Y,.ok z,R,e1,fun H1 s1=>?_⟩
  cases z with
  | true=>exact iteT ⟨J,Hz,F,Y,r,R.mono s1,hg,k.back (jaq s1)⟩
  | false=>exact iteF ⟨J,Hz,F,Y,r,R.mono s1,hg,k.back (jaq s1)⟩
 ·exact⟨J,Hz,F,Y,.error y,R,e1,k⟩
def jur:DS X B O' B E (.Continue pos) gCnt:=by
 rintro U s Z H Dn I ⟨J,Hz,F,Y,r,R,hf,h⟩;cases hf;exact jqz U s Z H Dn I (h Z H (Same.refl _) R)
def jrp:DS X O O' B E st jow:=by
 rintro U s Z H Dn I ⟨J,Hz,F,Y,r,R,hf,h⟩;cases hf
def jir{i:Nat}{x:Str}{p1 p2 p3:Pos}(ho:O.contains i=true)(he:DE X O E e fa)(hi:X.N[i]? = some x:=by rfl)(hv:Vis X.env.scope x:=by first|exact Or.inl rfl|exact Or.inr (Or.inl rfl)|exact Or.inr (Or.inr rfl))
  (hd:(x == ("__debug__":Str))=false:=by decide) (hcd:(x == ("__classdict__":Str))=false:=by decide) (hbase:attributeBase (.Name x p1) "append" X.env (eval (.Name x p1) X.env)=eval (.Name x p1) X.env:=by rfl)
  (hfew:((backTo p3 (starEach [e] X.env)).all (fun x=>!x.1)&&(backToKw p3 (keywordEach [] X.env)).all (fun x=>x.1.isSome)
   && decide ([e].length+([]:List Keyword).length+(if ([]:List Keyword).isEmpty then 0 else 1)<30))=true:=by rfl)
  (hline:(p2.endLine == p3.line)=true:=by rfl) (hs:starEach [e] X.env=[(false,eval e X.env)]:=by rfl) (hsw:swapsWith (.Call (.Attribute (.Name x p1) "append" p2) [e] [] p3) none pos.line X.env=pure false:=by rfl) :
  DS X O O B E (.Expr (.Call (.Attribute (.Name x p1) "append" p2) [e] [] p3) pos) (gApp i fa):=by
 rintro U s Z H Dn I ⟨J,Hz,F,Y,r,R,hg,k⟩;have ho':i∈O:=zbc.mp ho;obtain⟨l,xs0,ds0,q1,q2,q3,q4,q5⟩:=R.own i ho';refine jnr (jDf PySem.F.plainAttrs_list PySem.F.slot_list_append PySem.F.type_list_append ji3 (jl9 hi hv hd hcd) (jfo he jk8 hs) hbase hfew hline hs rfl) hsw U s Z H Dn I ?_;refine⟨.ref l,q2,.inl ⟨rfl,_,SqL.of q3⟩,?_⟩;rcases M.b_inv hg with ⟨d,e1,hg⟩|⟨y,e1,rfl⟩
 ·refine⟨J,Hz,F,Y,.ok d,R,e1,fun v H1 s1 r1=>?_⟩;have hj:(Y[i]?).join=some (.lst ds0):=by rw[q1];rfl
  rw[hj] at hg;dsimp only at hg
  split at hg
  ·rename_i hz;cases hg;have R1:=R.mono s1;obtain⟨l',xs,ds,p1,p2,p3,p4,p5⟩:=R1.own i ho';rw[q2] at p2;cases p2
   rw[q1] at p1;cases p1
   refine⟨l,xs,v,rfl,rfl,p3,by rw[p5.length];exact hz,?_⟩;refine k Z _ ?_ (R1.write ho' q2 (p5.append (Reps.cons r1 Reps.nil)));rw[jgh (fob_t.mpr (.inr ⟨i,ho',q2⟩))];exact jaq s1
  ·cases hg
 ·exact⟨J,Hz,F,Y,.error y,R,e1,k⟩
inductive tG(K:W.Frag)(O:List Nat)(h:D->DSt->Option DSt)(v:V)(Z:St)(H:Hp)(Q:St->Hp->Prop):Prop
 | mk (J:Rho) (Hz:Hp) (F:qe) (Y:DSt) (d:D) (Y':DSt) (R:RS J K Hz H F O Z Y) (hr:Rep J K (hid H (fob F Z O)) d v) (hf:h d Y=some Y') (k:∀ Z',fob F Z' O=fob F Z O->RS J K Hz H F O Z' Y'->Q Z' H)
def DG(X:Cx)(O:List Nat)(tg:Expr)(h:D->DSt->Option DSt):Prop:=PG X tg (tG X.K O h)
def gName(i:Nat):D->DSt->Option DSt:=fun d Y=>some (Y.set i (some d))
def je4(i j:Nat):D->DSt->Option DSt:=fun d Y=>match d with
 | .tup [x,y]=>some ((Y.set i (some x)).set j (some y))
 | _=>none
def jdg{i:Nat}{x:Str}(hN:X.N.Nodup)(ho:O.contains i=false:=by rfl)(hi:X.N[i]? = some x:=by rfl)(hx:Loc X.env.scope x:=by first|exact Or.inl rfl|exact Or.inr rfl)
  (hf:X.fn x=true\/X.env.scope.names.lookup x=some .local:=by first|exact .inl rfl|exact .inr rfl|assumption):DG X O (.Name x pos) (gName i):=by
 rintro U s Z H v u Q I r ⟨J,Hz,F,Y,d,Y',R,rd,e,k⟩;have ho':i∉O:=fun z=>by rw[zbc.mpr z] at ho;cases ho
 cases e;exact jqy hN hi hx hf U s Z H v u Q I r (k _ (jda ho') (R.set ho' rd))
def jg7{i j:Nat}{x y:Str}{px py:Pos}{kk:Nat}(hc:X.calm=true)(hN:X.N.Nodup)(ho:O.contains i=false:=by rfl)(ho2:O.contains j=false:=by rfl)(hi:X.N[i]? = some x:=by rfl)(hj:X.N[j]? = some y:=by rfl)
  (hx:Loc X.env.scope x:=by first|exact Or.inl rfl|exact Or.inr rfl) (hy:Loc X.env.scope y:=by first|exact Or.inl rfl|exact Or.inr rfl)
  (hf:X.fn x=true\/X.env.scope.names.lookup x=some .local:=by first|exact .inl rfl|exact .inr rfl|assumption) (hf2:X.fn y=true\/X.env.scope.names.lookup y=some .local:=by first|exact .inl rfl|exact .inr rfl|assumption) :
  DG X O (.Tuple [.Name x px,.Name y py] kk pos) (je4 i j):=by
 rintro U s Z H v u Q I r ⟨J,Hz,F,Y,d,Y',R,rd,e,k⟩;have ho':i∉O:=fun z=>by rw[zbc.mpr z] at ho;cases ho
 have ho2':j∉O:=fun z=>by rw[zbc.mpr z] at ho2;cases ho2
 unfold je4 at e
 split at e
 ·rename_i d1 d2;cases e;obtain⟨p,xs,rfl,q2,q3⟩:=rep_tup.mp rd;obtain⟨v1,xs1,rfl,r1,q3⟩:=reps_cons.mp q3;obtain⟨v2,xs2,rfl,r2,q3⟩:=reps_cons.mp q3;cases reps_nil.mp q3;refine jGp hc (jsf (jqy hN hi hx hf) (jsf (jqy hN hj hy hf2) jDj)) rfl rfl U s Z H _ u Q I r ?_;refine⟨p,_,rfl,jde jao q2,rfl,v1,_,rfl,v2,_,rfl,rfl,?_⟩;have e2:fob F ((Z.set i (some v1)).set j (some v2)) O=fob F Z O:=(jda ho2').trans (jda ho');refine k _ e2 ?_;have R1:=R.set ho' r1;exact R1.set ho2' (by rw[jda ho'];exact r2)
 ·cases e
def ItD(J:Rho)(K:W.Frag)(Jq:It)(ds:List D)(Hv:Hp):Prop:=∀ (H':Hp) (G':qe) (i:Nat),Same Hv (hid H' G')->(∀ p,H' p=none->G' p=false) ->
 (i<ds.length->Jq.go i H'/\∀ x H2,Jq.yld i H' x H2->Same H' H2/\∃ d,ds[i]? = some d/\Rep J K (hid H2 G') d x)/\(i=ds.length->Jq.stop i H')
inductive tI(K:W.Frag)(O:List Nat)(E:XK)(f:DSt->M (List D))(Z:St)(H:Hp)(Q:It->Hp->Prop):Prop
 | mk (J:Rho) (Hz:Hp) (F:qe) (Y:DSt) (r:Except XD (List D)) (R:RS J K Hz H F O Z Y) (hf:f Y=some r) (k:match (generalizing:=false) r with
  | .ok ds=>∀ Jq H',Same H H'->ItD J K Jq ds (hid H' (fob F Z O))->Q Jq H'
  | .error x=>okX K Hz E x)
def DI(X:Cx)(O:List Nat)(E:XK)(tg iter:Expr)(f:DSt->M (List D)):Prop:=PI X tg iter (tI X.K O E f)
def jkq{tg iter:Expr}{body:List Stmt}{fi:DSt->M (List D)}{h:D->DSt->Option DSt}(hp:PassesOwn (model X.prog X.w) X.A X.env X.xe)(hc:X.calm=true)(hi:DI X O E tg iter fi)(hg:DG X O tg h)(hb:DSs X O O O E body g)
  (hs:∀ x,foldedSetIterable iter X.env x=pure x:=by intro _;rfl):DS X O O B E (.For tg iter body [] pos) (gFor fi h g):=by
 rintro U s Z H Dn I ⟨J,Hz,F,Y,r,R,hgf,k⟩;refine jwl hp hc hi hg hb hs U s Z H Dn I ?_;rcases M.b_inv hgf with ⟨ds,e1,hgf⟩|⟨y,e1,rfl⟩
 ·refine⟨J,Hz,F,Y,.ok ds,R,e1,fun Jq H1 s1 it=>?_⟩;refine⟨fun i m Z' H'=>m=ds.length-i/\i<=ds.length/\∃ Y',RS J X.K Hz H' F O Z' Y'/\Same (hid H1 (fob F Z O)) (hid H' (fob F Z' O))/\forD g h (ds.drop i) Y'=some r,⟨ds.length,by simp,Nat.zero_le _,Y,R.mono s1,Same.refl _,hgf⟩,?_⟩;rintro i m Z' H' ⟨rfl,hil,Y',R',f',hr⟩;obtain⟨j1,j2⟩:=it H' (fob F Z' O) i f' (fun p hp=>R'.fresh hp)
  by_cases hlt:i<ds.length
  ·obtain⟨go,yld⟩:=j1 hlt;refine .inr ⟨go,fun Z2 H2=>∃ Y2,RS J X.K Hz H2 F O Z2 Y2/\Same (hid H1 (fob F Z O)) (hid H2 (fob F Z2 O))/\forD g h (ds.drop (i+1)) Y2=some r,fun Z2 H2 ⟨Y2,a1,a2,a3⟩=>⟨ds.length-(i+1),by omega,rfl,hlt,Y2,a1,a2,a3⟩,fun x H2 y=>?_⟩;obtain⟨s2,d,hd,rd⟩:=yld x H2 y;have hdr:ds.drop i=d::ds.drop (i+1):=by
    rw[List.drop_eq_getElem_cons hlt];have:ds[i]=d:=by rw[zax hlt] at hd;exact zby hd
    rw[this]
   rw[hdr] at hr;unfold forD at hr
   cases e2:h d Y' with
   | none=>rw[e2] at hr;cases hr
   | some Y1 =>
    rw[e2] at hr;dsimp only at hr;have f2:Same (hid H1 (fob F Z O)) (hid H2 (fob F Z' O)):=f'.trans (jaq s2);refine⟨J,Hz,F,Y',d,Y1,R'.mono s2,rd,e2,fun Z3 ef R3=>?_⟩;rcases M.b_inv hr with ⟨o,e3,hr⟩|⟨y,e3,rfl⟩
    ·refine⟨J,Hz,F,Y1,.ok o,R3,e3,?_⟩;rw[ef]
     cases o with
     | nx Y4=>exact fun Z4 H4 f4 R4=>⟨Y4,R4,f2.trans f4,hr⟩
     | ct Y4=>exact fun Z4 H4 f4 R4=>⟨Y4,R4,f2.trans f4,hr⟩
     | bk Y4=>cases hr;exact fun Z4 H4 f4 R4=>k Z4 H4 ((jaq s1).trans (f2.trans f4)) R4
     | rt v=>cases hr;exact k
    ·exact⟨J,Hz,F,Y1,.error y,R3,e3,k⟩
  ·have ei:i=ds.length:=by omega
   subst ei;rw[List.drop_length] at hr;cases hr;exact .inl ⟨j2 rfl,k Z' H' ((jaq s1).trans f') R'⟩
 ·exact⟨J,Hz,F,Y,.error y,R,e1,k⟩
def jis{c:Expr}{body:List Stmt}{fuel:Nat}(hp:PassesOwn (model X.prog X.w) X.A X.env X.xe)(hc:DT X O E c tc)(hb:DSs X O O O E body g):DS X O O B E (.While c body [] pos) (jb0 tc g fuel):=by
 rintro U s Z H Dn I ⟨J,Hz,F,Y,r,R,hg,k⟩;refine jsi hp hc hb U s Z H Dn I ?_;refine⟨fun m Z' H'=>∃ Y',RS J X.K Hz H' F O Z' Y'/\Same (hid H (fob F Z O)) (hid H' (fob F Z' O))/\jb0 tc g m Y'=some r,⟨fuel,Y,R,Same.refl _,hg⟩,?_⟩;rintro m Z' H' ⟨Y',R',f',hr⟩
 cases m with
 | zero=>cases hr
 | succ m =>
  unfold jb0 at hr;rcases M.b_inv hr with ⟨z,e1,hr⟩|⟨y,e1,rfl⟩
  ·refine⟨J,Hz,F,Y',.ok z,R',e1,fun H1 s1=>?_⟩;have f1:Same (hid H (fob F Z O)) (hid H1 (fob F Z' O)):=f'.trans (jaq s1)
   cases z with
   | true =>
    rw[if_pos rfl] at hr;refine iteT ⟨fun Z2 H2=>∃ Y2,RS J X.K Hz H2 F O Z2 Y2/\Same (hid H (fob F Z O)) (hid H2 (fob F Z2 O))/\jb0 tc g m Y2=some r,fun Z2 H2 ⟨Y2,a1,a2,a3⟩=>⟨m,Nat.lt_succ_self _,Y2,a1,a2,a3⟩,?_⟩;rcases M.b_inv hr with ⟨o,e3,hr⟩|⟨y,e3,rfl⟩
    ·refine⟨J,Hz,F,Y',.ok o,R'.mono s1,e3,?_⟩
     cases o with
     | nx Y4=>exact fun Z4 H4 f4 R4=>⟨Y4,R4,f1.trans f4,hr⟩
     | ct Y4=>exact fun Z4 H4 f4 R4=>⟨Y4,R4,f1.trans f4,hr⟩
     | bk Y4=>cases hr;exact fun Z4 H4 f4 R4=>k Z4 H4 (f1.trans f4) R4
     | rt v=>cases hr;exact k
    ·exact⟨J,Hz,F,Y',.error y,R'.mono s1,e3,k⟩
   | false =>
    rw[if_neg (by decide)] at hr;cases hr;exact iteF (k Z' H1 f1 (R'.mono s1))
  ·exact⟨J,Hz,F,Y',.error y,R',e1,k⟩
end
end DL
namespace L2
open PyProof.Rows
def ItOn(k:Bool)(h:Heap)(it l:Addr)(i:Nat):Prop:=if k=true then h.IsTupleIter it l i else h.IsListIter it l i
def SrcOn(k:Bool)(h:Heap)(l:Addr)(xs:Array Value):Prop:=if k=true then h.IsTuple l xs else h.IsList l xs
def ItOn.mv{k:Bool}{h h':Heap}{it l:Addr}{i:Nat}(x:ItOn k h it l i)(e:∀ o,h.get? it=some o->h'.get? it=some o):ItOn k h' it l i:=by
 cases k with
 | true=>exact Heap.IsTupleIter.at (h:=h) x e
 | false=>exact Heap.IsListIter.at (h:=h) x e
def SrcOn.mv{k:Bool}{h h':Heap}{l:Addr}{xs:Array Value}(x:SrcOn k h l xs)(e:∀ o,h.get? l=some o->h'.get? l=some o):SrcOn k h' l xs:=by
 cases k with
 | true=>exact Heap.IsTuple.at (h:=h) x e
 | false=>exact Heap.IsList.at (h:=h) x e
def ItOn.ob{k:Bool}{h:Heap}{it l:Addr}{i:Nat}(x:ItOn k h it l i):∃ o vs,h.get? it=some o/\o.data=.fields vs:=by
 cases k with
 | true=>obtain⟨o,e,_,d⟩:=(x:h.IsTupleIter it l i);exact⟨o,_,e,d⟩
 | false=>obtain⟨o,e,_,d⟩:=(x:h.IsListIter it l i);exact⟨o,_,e,d⟩
section
variable {prog:Program}{w:World}{A:Around}{E:qd}{s:Shared}
def jtj{it l:Addr}{i:Nat}{items:Array Value}{x:Value}{Q:qd}(hi:s.heap.IsTupleIter it l i)(hl:s.heap.IsTuple l items)(hx:items[i]? = some x)
  (hQ:∀ h',h'.IsTupleIter it l (i+1)->Heap.SameBut it s.heap h'->Q x { s with heap:=h' }):wpAny (model prog w) A (Builtin.SmallTypes.nextOf (.ref it)) Q E s:=by
 obtain⟨ob,eo,oc,od⟩:=id hi;obtain⟨tl,el,_,nl,dl⟩:=hl;unfold Builtin.SmallTypes.nextOf;refine zay (wpAny_callSpecial?_slot (name:=Str.ofString "__next__") hi.typeIs F.slot_tuple_iterator_next (wpAny_call_entry F.slot_tuple_iterator_next hi.typeIs F.entry_tuple_iterator_next ?_ (F.args_tuple_iterator_next_1 _)));show wpAny _ _ (field (.ref it) 0 >>= _) _ _ s;refine zay (wpAny_field eo od (x:=.ref l) rfl ?_);show wpAny _ _ (if (Value.ref l == Value.none)=true then _ else _) _ _ s;rw[if_neg (show ¬ ((Value.ref l == Value.none)=true) from fun q=>Bool.false_ne_true q)];show wpAny _ _ (field (.ref it) 1 >>= _) _ _ s;refine zay (wpAny_field eo od (x:=.int i 0) rfl (show wpAny _ _ (seqItems? (.ref l) >>= _) _ _ s from zay (wpAny_seqItems el dl ?_)));simp only[Int.toNat_natCast,hx];refine zay (wpAny_setField eo od (by simp) (zab ⟨x,rfl,zab (hQ _ ⟨_,Heap.get?_update_self _ eo (Obj.isFreed_of_fields (Obj.data_mapFields od _)),(Obj.cls_mapFields ..).trans oc,?_⟩ (Heap.SameBut.update ..))⟩));rw[Obj.data_mapFields od];simp[rawInt]
def jlv{it l:Addr}{i:Nat}{items:Array Value}{Q:qd}(hh:A.handled=none)(hi:s.heap.IsTupleIter it l i)(hl:s.heap.IsTuple l items)(hx:items[i]? = none)
  (hE:∀ h' e,Heap.ExtBut it s.heap h'->(∃ o,h'.get? e=some o/\o.cls=.type "StopIteration")->E (.ref e) { s with heap:=h' }):wpAny (model prog w) A (Builtin.SmallTypes.nextOf (.ref it)) Q E s:=by
 obtain⟨ob,eo,oc,od⟩:=id hi;obtain⟨tl,el,_,nl,dl⟩:=hl;unfold Builtin.SmallTypes.nextOf;refine zay (wpAny_callSpecial?_slot (name:=Str.ofString "__next__") hi.typeIs F.slot_tuple_iterator_next (wpAny_call_entry F.slot_tuple_iterator_next hi.typeIs F.entry_tuple_iterator_next ?_ (F.args_tuple_iterator_next_1 _)));show wpAny _ _ (field (.ref it) 0 >>= _) _ _ s;refine zay (wpAny_field eo od (x:=.ref l) rfl ?_);show wpAny _ _ (if (Value.ref l == Value.none)=true then _ else _) _ _ s;rw[if_neg (show ¬ ((Value.ref l == Value.none)=true) from fun q=>Bool.false_ne_true q)];show wpAny _ _ (field (.ref it) 1 >>= _) _ _ s;refine zay (wpAny_field eo od (x:=.int i 0) rfl (show wpAny _ _ (seqItems? (.ref l) >>= _) _ _ s from zay (wpAny_seqItems el dl ?_)));simp only[Int.toNat_natCast,hx];refine zay (wpAny_rule (zay (wpAny_setField eo od (by simp) ?_)));show wpAny _ _ (newExc (.type "StopIteration") [] >>= _) _ _ _;refine zay ?_;simp only[newExc,newTuple];refine zay (wpAny_newObj_type (zay (m:=firstArgMember _ _) (wpAny_of_eq (a:=Value.none) (by first|rfl|(simp only[firstArgMember];rfl)) (wpAny_newObj_type ?_ (by size_fits)))) (by size_fits));simp only[raiseNew];refine zay (wpAny_handled ?_)
 first|rw[show A.in1.handled=none from hh]|rw[hh]
 exact zay (zab (wpAny_throw (hE _ _ (((Heap.SameBut.update ..).extBut.push _).push _) ⟨_,zbz _ rfl,rfl⟩)))
def jk2{k:Bool}{it l:Addr}{i:Nat}{items:Array Value}{x:Value}{Q:qd}(hi:ItOn k s.heap it l i)(hl:SrcOn k s.heap l items)(hx:items[i]? = some x)
  (hQ:∀ h',ItOn k h' it l (i+1)->Heap.SameBut it s.heap h'->Q x { s with heap:=h' }):wpAny (model prog w) A (Builtin.SmallTypes.nextOf (.ref it)) Q E s:=by
 cases k with
 | true=>exact jtj hi hl hx hQ
 | false=>exact wpAny_nextOf_list_item hi hl hx hQ
def ji4{k:Bool}{it l:Addr}{i:Nat}{items:Array Value}{Q:qd}(hh:A.handled=none)(hi:ItOn k s.heap it l i)(hl:SrcOn k s.heap l items)(hx:items[i]? = none)
  (hE:∀ h' e,Heap.ExtBut it s.heap h'->(∃ o,h'.get? e=some o/\o.cls=.type "StopIteration")->E (.ref e) { s with heap:=h' }):wpAny (model prog w) A (Builtin.SmallTypes.nextOf (.ref it)) Q E s:=by
 cases k with
 | true=>exact jlv hh hi hl hx hE
 | false=>exact wpAny_nextOf_list_end hh hi hl hx hE
def ju9{k:Bool}{l:Addr}{xs:Array Value}{Q:qd}(hl:SrcOn k s.heap l xs)
  (h:∀ o,ItOn k (s.heap.push o) s.heap.objs.size l 0->Q (.ref s.heap.objs.size) { s with heap:=s.heap.push o }):wpAny (model prog w) A (pyIter (.ref l)) Q E s:=by
 cases k with
 | true=>exact wpAny_pyIter_tuple hl (h _ ⟨_,zbz _ rfl,rfl,rfl⟩)
 | false=>exact wpAny_pyIter_list hl (h _ ⟨_,zbz _ rfl,rfl,rfl⟩)
structure ZFar(z TI TO i1 i2:Addr):Prop where
 a1:TI≠z
 a2:TO≠z
 a3:i1≠z
 a4:i2≠z
 a5:TI≠TO
 a6:TI≠i1
 a7:TI≠i2
 a8:TO≠i1
 a9:TO≠i2
 a10:i1≠i2
def LFar(z TO i1 i2 l:Addr):Prop:=l≠z/\l≠TO/\l≠i1/\l≠i2
def jz2{k1 k2:Bool}{z TI TO i1 i2 l1 l2:Addr}{n1 n2:Nat}{xs ys:Array Value}{x y a b:Value}{Q:qd}(D:ZFar z TI TO i1 i2)(d1:LFar z TO i1 i2 l1)(d2:LFar z TO i1 i2 l2)
  (hz:IsZip s.heap z TI TO .none) (ht:IsPair s.heap TI (.ref i1) (.ref i2)) (hu:IsPair s.heap TO a b) (j1:ItOn k1 s.heap i1 l1 n1) (j2:ItOn k2 s.heap i2 l2 n2) (c1:SrcOn k1 s.heap l1 xs) (c2:SrcOn k2 s.heap l2 ys)
  (hx:xs[n1]? = some x) (hy:ys[n2]? = some y)
  (hQ:∀ h',IsZip h' z TI TO (rawInt s.heap.objs.size)->IsPair h' TO x y->ItOn k1 h' i1 l1 (n1+1)->ItOn k2 h' i2 l2 (n2+1)->IsPair h' s.heap.objs.size x y ->
   (∀ c o,c≠z->c≠TO->c≠i1->c≠i2->s.heap.get? c=some o->h'.get? c=some o)->Q (.ref s.heap.objs.size) { s with heap:=h' }) :
  wpAny (model prog w) A (Builtin.«zip.__next__» ⟨[.ref z],[]⟩) (fun fin s'=>∃ v,fin=.done (.ret v)/\Q v s') E s:=by
 show wpAny _ _ (field (.ref z) 2 >>= _) _ _ _;refine zay (wpAny_field hz rfl (x:=.bool false) rfl (show wpAny _ _ (field (.ref z) 3 >>= _) _ _ _ from zay (wpAny_field hz rfl (x:=.ref TI) rfl (zay (wpAny_seqItems ht rfl ?_)))));show wpAny _ _ (Builtin.SmallTypes.ownedTupleIsFree (.ref z) >>= _) _ _ _;refine zay ?_;unfold Builtin.SmallTypes.ownedTupleIsFree;refine zay (wpAny_field hz rfl (x:=.none) rfl (zab ?_));simp only[if_true];refine zay (wpAny_rule (zay (wpAny_field hz rfl (x:=.ref TO) rfl (zay (wpAny_setField_rec hz (by simp) fun g1 z1 e1=>zay ?_)))))
 replace z1:IsZip g1 z TI TO .ellipsis:=z1
 simp only[List.zipIdx_cons,List.zipIdx_nil,List.forIn_cons,List.forIn_nil];refine zay (zay (wpAny_onRaise (show wpAny _ _ (Builtin.SmallTypes.nextOf (.ref i1) >>= _) _ _ _ from ?_)));refine zay (jk2 (j1.mv fun o q=>e1.extBut _ _ D.a3 q) (c1.mv fun o q=>e1.extBut _ _ d1.1 q) hx fun g2 m1 e2=>zab ?_);have u2:IsPair g2 TO a b:=e2.extBut _ _ D.a8 (e1.extBut _ _ D.a2 hu);refine zay (wpAny_seqItems u2 rfl (zay (wpAny_updateSeq_pair u2 fun g3 u3 e3=>zay (wpAny_letGo (zab ?_)))))
 replace u3:IsPair g3 TO x b:=u3
 have up3:∀ c o,c≠z->c≠TO->c≠i1->s.heap.get? c=some o->g3.get? c=some o:=fun c o p1 p2 p3 q=>e3.extBut _ _ p2 (e2.extBut _ _ p3 (e1.extBut _ _ p1 q))
 refine zay (zay (wpAny_onRaise (show wpAny _ _ (Builtin.SmallTypes.nextOf (.ref i2) >>= _) _ _ _ from ?_)));refine zay (jk2 (j2.mv fun o q=>up3 _ o D.a4 D.a9.symm D.a10.symm q) (c2.mv fun o q=>up3 _ o d2.1 d2.2.1 d2.2.2.1 q) hy fun g4 m2 e4=>zab ?_);have u4:IsPair g4 TO x b:=e4.extBut _ _ D.a9 u3;refine zay (wpAny_seqItems u4 rfl (zay (wpAny_updateSeq_pair u4 fun g5 u5 e5=>zay (wpAny_letGo (zab (zab ?_))))))
 replace u5:IsPair g5 TO x y:=u5
 refine zay (wpAny_seqItems u5 rfl (zay (wpAny_newTuple ?_)));have sz:g5.objs.size=s.heap.objs.size:=by rw[e5.1,e4.1,e3.1,e2.1,e1.1]
 have z5:IsZip g5 z TI TO .ellipsis:=e5.extBut _ _ D.a2.symm (e4.extBut _ _ D.a4.symm (e3.extBut _ _ D.a2.symm (e2.extBut _ _ D.a3.symm z1)));have up5:∀ c o,c≠z->c≠TO->c≠i1->c≠i2->s.heap.get? c=some o->g5.get? c=some o:=fun c o p1 p2 p3 p4 q=>e5.extBut _ _ p2 (e4.extBut _ _ p4 (up3 c o p1 p2 p3 q))
 have m15:ItOn k1 g5 i1 l1 (n1+1):=m1.mv fun o q=>e5.extBut _ _ D.a8.symm (e4.extBut _ _ D.a10 (e3.extBut _ _ D.a8.symm q))
 have m25:ItOn k2 g5 i2 l2 (n2+1):=m2.mv fun o q=>e5.extBut _ _ D.a9.symm q
 have zlt:z<g5.objs.size:=zbv z5;show wpAny _ _ (Builtin.SmallTypes.ownedTupleHandOut (.ref z) (.ref g5.objs.size) >>= _) _ _ _;refine zay ?_;unfold Builtin.SmallTypes.ownedTupleHandOut;have z6:IsZip (g5.push { cls:=.type "tuple",data:=.seq #[x,y] }) z TI TO .ellipsis:=zaz _ z5;refine zay (wpAny_setField_rec z6 (by simp) fun g7 z7 e7=>?_)
 replace z7:IsZip g7 z TI TO (rawInt g5.objs.size):=z7
 refine wpAny_setField_rec z7 (by simp) fun g8 z8 e8=>?_
 replace z8:IsZip g8 z TI TO (rawInt g5.objs.size):=z8
 have up8:∀ c o,c≠z->g5.get? c=some o->g8.get? c=some o:=fun c o p1 q=>e8.extBut _ _ p1 (e7.extBut _ _ p1 (zaz _ q))
 have t8:IsPair g8 g5.objs.size x y:=e8.extBut _ _ (Nat.ne_of_gt zlt) (e7.extBut _ _ (Nat.ne_of_gt zlt) (zbz _ rfl));rw[sz] at z8 t8;refine zab ⟨_,rfl,?_⟩;show Q (.ref g5.objs.size) _;rw[sz];exact hQ g8 z8 (up8 _ _ D.a2 u5) (m15.mv fun o q=>up8 _ o D.a3 q) (m25.mv fun o q=>up8 _ o D.a4 q) t8 fun c o p1 p2 p3 p4 q=>up8 c o p1 (up5 c o p1 p2 p3 p4 q)
def jEr{k1 k2:Bool}{z TI TO i1 i2 l1 l2:Addr}{n1 n2:Nat}{xs ys:Array Value}{a b:Value}{Q:PySem.Fin->Shared->Prop}(hh:A.handled=none)(D:ZFar z TI TO i1 i2)(d1:LFar z TO i1 i2 l1)(d2:LFar z TO i1 i2 l2)
  (hz:IsZip s.heap z TI TO .none) (ht:IsPair s.heap TI (.ref i1) (.ref i2)) (hu:IsPair s.heap TO a b) (j1:ItOn k1 s.heap i1 l1 n1) (j2:ItOn k2 s.heap i2 l2 n2) (c1:SrcOn k1 s.heap l1 xs) (c2:SrcOn k2 s.heap l2 ys)
  (hend:xs[n1]? = none\/ys[n2]? = none)
  (hE:∀ h' e,(∀ c o,c≠z->c≠TO->c≠i1->c≠i2->s.heap.get? c=some o->h'.get? c=some o)->(∃ o,h'.get? e=some o/\o.cls=.type "StopIteration")->E (.ref e) { s with heap:=h' }) :
  wpAny (model prog w) A (Builtin.«zip.__next__» ⟨[.ref z],[]⟩) Q E s:=by
 show wpAny _ _ (field (.ref z) 2 >>= _) _ _ _;refine zay (wpAny_field hz rfl (x:=.bool false) rfl (show wpAny _ _ (field (.ref z) 3 >>= _) _ _ _ from zay (wpAny_field hz rfl (x:=.ref TI) rfl (zay (wpAny_seqItems ht rfl ?_)))));show wpAny _ _ (Builtin.SmallTypes.ownedTupleIsFree (.ref z) >>= _) _ _ _;refine zay ?_;unfold Builtin.SmallTypes.ownedTupleIsFree;refine zay (wpAny_field hz rfl (x:=.none) rfl (zab ?_));simp only[if_true];refine zay (wpAny_rule (zay (wpAny_field hz rfl (x:=.ref TO) rfl (zay (wpAny_setField_rec hz (by simp) fun g1 z1 e1=>zay ?_)))))
 replace z1:IsZip g1 z TI TO .ellipsis:=z1
 simp only[List.zipIdx_cons,List.zipIdx_nil,List.forIn_cons,List.forIn_nil];refine zay (zay (wpAny_onRaise (show wpAny _ _ (Builtin.SmallTypes.nextOf (.ref i1) >>= _) _ _ _ from ?_)))
 cases hx:xs[n1]? with
 | none =>
  refine zay (ji4 hh (j1.mv fun o q=>e1.extBut _ _ D.a3 q) (c1.mv fun o q=>e1.extBut _ _ d1.1 q) hx fun g2 e f2 he=>?_);obtain⟨oe,q1,q2⟩:=he;have z2:IsZip g2 z TI TO .ellipsis:=f2 _ _ D.a3.symm z1;have nez:e≠z:=fun p=>by subst p;rw[z2] at q1;cases q1;simp at q2
  exact wpAny_setField_rec z2 (by simp) fun g3 _ e3=>hE g3 e (fun c o p1 _ p3 _ q=>e3.extBut _ _ p1 (f2 _ _ p3 (e1.extBut _ _ p1 q))) ⟨oe,e3.extBut _ _ nez q1,q2⟩
 | some x =>
  have hy:ys[n2]? = none:=by rcases hend with h|h;rw[hx] at h;cases h;exact h
  refine zay (jk2 (j1.mv fun o q=>e1.extBut _ _ D.a3 q) (c1.mv fun o q=>e1.extBut _ _ d1.1 q) hx fun g2 m1 e2=>zab ?_);have u2:IsPair g2 TO a b:=e2.extBut _ _ D.a8 (e1.extBut _ _ D.a2 hu);refine zay (wpAny_seqItems u2 rfl (zay (wpAny_updateSeq_pair u2 fun g3 u3 e3=>zay (wpAny_letGo (zab ?_)))));have up3:∀ c o,c≠z->c≠TO->c≠i1->s.heap.get? c=some o->g3.get? c=some o:=fun c o p1 p2 p3 q=>e3.extBut _ _ p2 (e2.extBut _ _ p3 (e1.extBut _ _ p1 q))
  refine zay (zay (wpAny_onRaise (show wpAny _ _ (Builtin.SmallTypes.nextOf (.ref i2) >>= _) _ _ _ from ?_)));refine zay (ji4 hh (j2.mv fun o q=>up3 _ o D.a4 D.a9.symm D.a10.symm q) (c2.mv fun o q=>up3 _ o d2.1 d2.2.1 d2.2.2.1 q) hy fun g4 e f4 he=>?_);obtain⟨oe,q1,q2⟩:=he;have z4:IsZip g4 z TI TO .ellipsis:=f4 _ _ D.a4.symm (e3.extBut _ _ D.a2.symm (e2.extBut _ _ D.a3.symm z1));have nez:e≠z:=fun p=>by subst p;rw[z4] at q1;cases q1;simp at q2
  exact wpAny_setField_rec z4 (by simp) fun g5 _ e5=>hE g5 e (fun c o p1 p2 p3 p4 q=>e5.extBut _ _ p1 (f4 _ _ p4 (up3 c o p1 p2 p3 q))) ⟨oe,e5.extBut _ _ nez q1,q2⟩
def jy1{k1 k2:Bool}{z TI TO i1 i2 l1 l2:Addr}{n1 n2:Nat}{xs ys:Array Value}{x y a b:Value}{Q:Option Value->Shared->Prop}(D:ZFar z TI TO i1 i2)(d1:LFar z TO i1 i2 l1)(d2:LFar z TO i1 i2 l2)
  (hz:IsZip s.heap z TI TO .none) (ht:IsPair s.heap TI (.ref i1) (.ref i2)) (hu:IsPair s.heap TO a b) (j1:ItOn k1 s.heap i1 l1 n1) (j2:ItOn k2 s.heap i2 l2 n2) (c1:SrcOn k1 s.heap l1 xs) (c2:SrcOn k2 s.heap l2 ys)
  (hx:xs[n1]? = some x) (hy:ys[n2]? = some y)
  (hQ:∀ h',IsZip h' z TI TO (rawInt s.heap.objs.size)->IsPair h' TO x y->ItOn k1 h' i1 l1 (n1+1)->ItOn k2 h' i2 l2 (n2+1)->IsPair h' s.heap.objs.size x y ->
   (∀ c o,c≠z->c≠TO->c≠i1->c≠i2->s.heap.get? c=some o->h'.get? c=some o)->Q (some (.ref s.heap.objs.size)) { s with heap:=h' }):wpAny (model prog w) A (pyNext (.ref z)) Q E s:=by
 have ty:s.TypeIs (.ref z) "zip":=⟨_,hz,rfl⟩
 unfold pyNext;exact zay (wpAny_attempt (wpAny_callSpecial?_slot (name:=Str.ofString "__next__") ty F.slot_zip_next (wpAny_call_entry F.slot_zip_next ty F.entry_zip_next
  (jz2 D d1 d2 hz ht hu j1 j2 c1 c2 hx hy fun h' b1 b2 b3 b4 b5 b6=>zab (hQ h' b1 b2 b3 b4 b5 b6)) (F.args_zip_next_1 _))))
def jo7{k1 k2:Bool}{z TI TO i1 i2 l1 l2:Addr}{n1 n2:Nat}{xs ys:Array Value}{a b:Value}{Q:Option Value->Shared->Prop}(hh:A.handled=none)(D:ZFar z TI TO i1 i2)(d1:LFar z TO i1 i2 l1)(d2:LFar z TO i1 i2 l2)
  (hz:IsZip s.heap z TI TO .none) (ht:IsPair s.heap TI (.ref i1) (.ref i2)) (hu:IsPair s.heap TO a b) (j1:ItOn k1 s.heap i1 l1 n1) (j2:ItOn k2 s.heap i2 l2 n2) (c1:SrcOn k1 s.heap l1 xs) (c2:SrcOn k2 s.heap l2 ys)
  (hend:xs[n1]? = none\/ys[n2]? = none)
  (hQ:∀ h',(∀ c o,c≠z->c≠TO->c≠i1->c≠i2->s.heap.get? c=some o->h'.get? c=some o)->Q none { s with heap:=h' }):wpAny (model prog w) A (pyNext (.ref z)) Q E s:=by
 have ty:s.TypeIs (.ref z) "zip":=⟨_,hz,rfl⟩
 unfold pyNext;refine zay (wpAny_attempt (wpAny_callSpecial?_slot (name:=Str.ofString "__next__") ty F.slot_zip_next (wpAny_call_entry F.slot_zip_next ty F.entry_zip_next (jEr hh D d1 d2 hz ht hu j1 j2 c1 c2 hend fun h' e hk he=>?_) (F.args_zip_next_1 _))));obtain⟨o,ho,hc⟩:=he;exact zay (wpAny_isInstance (T:="StopIteration") (b:=true) ⟨o,ho,hc⟩ isSubtype_stop (zab (hQ _ hk)))
abbrev zA(h:Heap)(o1 o2:Obj):Heap:=(h.push o1).push o2
abbrev zB(h:Heap)(o1 o2:Obj):Heap:=(zA h o1 o2).push { cls:=.type "tuple",data:=.seq #[.ref h.objs.size,.ref (h.push o1).objs.size] }
abbrev zC(h:Heap)(o1 o2:Obj):Heap:=(zB h o1 o2).push { cls:=.type "tuple",data:=.seq #[.none,.none] }
abbrev zD(h:Heap)(o1 o2:Obj):Heap:=(zC h o1 o2).push { cls:=.type "zip",data:=.fields #[.none,.bool false,.bool false,.ref (zA h o1 o2).objs.size,.ref (zB h o1 o2).objs.size] }
def jvo{k1 k2:Bool}(l1 l2:Addr)(xs ys:Array Value):Meets (Builtin.«zip.__new__» ⟨[.type "zip",.ref l1,.ref l2],[]⟩) (fun _ R s=>SrcOn k1 s.heap l1 xs/\SrcOn k2 s.heap l2 ys /\
  ∀ o1 o2,ItOn k1 (s.heap.push o1) s.heap.objs.size l1 0->ItOn k2 (zA s.heap o1 o2) (s.heap.push o1).objs.size l2 0->R (.ok (.ret (.ref (zC s.heap o1 o2).objs.size))) { s with heap:=zD s.heap o1 o2 }) :=
 .of_wp fun prog w A R s h=>by
  obtain⟨hp,g,d,tk,os⟩:=s;obtain⟨c1,c2,h⟩:=h;have hsub:=sub_zip;have q1:SrcOn k1 (Shared.heap ⟨hp,g,d,tk,os⟩) l1 xs:=c1
  wp_walk using ju9 q1
  intro o1 w1;have q2:SrcOn k2 (Shared.heap ⟨hp.push o1,g,d,tk,os⟩) l2 ys:=SrcOn.mv c2 fun o e=>zaz _ e
  wp_walk using ju9 q2
  intro o2 w2
  wp_walk
  exact⟨_,rfl,h o1 o2 w1 w2⟩
end
section
variable {X:Cx}{U:qc}{Z:St}{H:Hp}{s:Shared}
def Inv.spun{fp:List Addr}{h':Heap}{t':Nat}{T:Addr}{vs:List V}{its:List Value}(I:Inv X U Z H s)(hf:∀ b∈fp,FpOk X U H b)(k:∀ b o,b∉fp->s.heap.get? b=some o->h'.get? b=some o)
  (ko:∀ b∈fp,∃ o,h'.get? b=some o) (hT:s.heap.get? T=none) (hn:H T=none) (hv:Vals vs its) (hz:vs.length<=sizeLine) (ht:IsTup h' T its.toArray):Inv X U Z (upd H T (.tup vs)) { s with heap:=h',toks:=t' }:=by
 have nT:∀ b o,s.heap.get? b=some o->b≠T:=fun b o e z=>by rw[z,hT] at e;cases e
 have nf:∀ b u,H b=some u->b∉fp:=fun b u e z=>by rw[(hf b z).1] at e;cases e
 refine I.step (g':=s.gens) (d':=s.drawn) (ch:=fp) (fun b hb=>?_) (fun b o _ _ hc e _=>k b o hc e) (fun b o _ _ hc e _=>⟨o.slots,k b o hc e⟩) (fun b o _ e n=>by rw[jaj (nT b o e)];exact n)
  (fun b o hc e=>⟨o,k b o hc e⟩) (fun b xs e=>by rw[jaj (ja6 e hn)];exact e) (fun b o u e=>by rw[jaj (ja6 e hn)];exact e) (fun b ps e=>⟨#[],by rw[jaj (ja6 e hn),e];simp⟩) (fun m hm=>?_) (fun b u e=>?_) I.bare
 ·obtain⟨_,f1,_,f3,f4,f5⟩:=hf b hb;exact⟨f3,f1,f4,f5⟩
 ·obtain⟨o,es,ep,ho,r⟩:=hm;exact⟨o,es,ep,k _ o (fun z=>(hf _ z).2.1 rfl) ho,r⟩
 ·by_cases hb:b=T
  ·subst hb;rw[jam] at e;cases e
   exact⟨hz,its,hv,ht⟩
  ·rw[jaj hb] at e;refine (I.hok b u e).stay (fun c v hc q=>k c v ?_ q) (fun c q=>by rw[jaj (ja6 q hn)];exact q) fun c xs q=>by rw[jaj (ja6 q hn)];exact q
   rcases hc with z|z
   ·rw[z];exact nf b u e
   ·exact nf c _ z
def Inv.spun0{fp:List Addr}{h':Heap}{t':Nat}(I:Inv X U Z H s)(hf:∀ b∈fp,FpOk X U H b)(k:∀ b o,b∉fp->s.heap.get? b=some o->h'.get? b=some o):Inv X U Z H { s with heap:=h',toks:=t' }:=by
 have nf:∀ b u,H b=some u->b∉fp:=fun b u e z=>by rw[(hf b z).1] at e;cases e
 refine I.step (g':=s.gens) (d':=s.drawn) (ch:=fp) (fun b hb=>?_) (fun b o _ _ hc e _=>k b o hc e) (fun b o _ _ hc e _=>⟨o.slots,k b o hc e⟩) (fun b o _ e n=>n)
  (fun b o hc e=>⟨o,k b o hc e⟩) (fun b xs e=>e) (fun b o u e=>e) (fun b ps e=>⟨#[],by rw[e];simp⟩) (fun m hm=>?_) (fun b u e=>?_) I.bare
 ·obtain⟨_,f1,_,f3,f4,f5⟩:=hf b hb;exact⟨f3,f1,f4,f5⟩
 ·obtain⟨o,es,ep,ho,r⟩:=hm;exact⟨o,es,ep,k _ o (fun z=>(hf _ z).2.1 rfl) ho,r⟩
 ·refine (I.hok b u e).stay (fun c v hc q=>k c v ?_ q) (fun c q=>q) fun c xs q=>q
  rcases hc with z|z
  ·rw[z];exact nf b u e
  ·exact nf c _ z
def SqV(k:Bool)(K:W.Frag)(H:Hp)(l:Addr)(xs:List V):Prop:=if k=true then SqT K H l xs else SqL K H l xs
def Inv.src{k:Bool}{l:Addr}{xs:List V}(I:Inv X U Z H s)(h:SqV k X.K H l xs):∃ its:List Value,Vals xs its/\SrcOn k s.heap l its.toArray/\xs.length<=sizeLine:=by
 cases k with
 | true =>
  obtain⟨its,r,p,z⟩:=I.tuple (h:SqT X.K H l xs);exact⟨its,r,p,z⟩
 | false =>
  obtain⟨its,r,p,z⟩:=I.list (h:SqL X.K H l xs);exact⟨its,r,p.isList,z⟩
def Inv.src_inj{k:Bool}{l:Addr}{xs ys:List V}(I:Inv X U Z H s)(h:SqV k X.K H l xs)(h':SqV k X.K H l ys):xs=ys:=by
 cases k with
 | true=>exact I.tuple_inj (h:SqT X.K H l xs) h'
 | false=>exact I.list_inj (h:SqL X.K H l xs) h'
def jj3{k:Bool}{l:Addr}{xs:List V}(I:Inv X U Z H s)(h:SqV k X.K H l xs){b:Addr}(f:FpOk X U H b):l≠b:=by
 intro e;subst e;obtain⟨f0,f1,f2,f3,_⟩:=f;have base:∀ o,X.K.lookup l=some o->False:=fun o q=>by
  have hb:=I.ok.mod.kin l o q;rcases f3 with z|z
  ·exact I.ok.noex l o hb z
  ·exact absurd (zcx (zbv hb) (zdy I.ok.bsz z)) (Nat.lt_irrefl _)
 cases k with
 | true =>
  rcases (h:SqT X.K H l xs) with q|⟨o,its,n,q,_⟩
  ·rcases q with q|⟨o,q⟩<;>(rw[f0] at q;cases q)
  ·exact base o q
 | false =>
  rcases (h:SqL X.K H l xs) with q|⟨o,its,n,q,_⟩
  ·rcases q with q|⟨o,q⟩<;>(rw[f0] at q;cases q)
  ·exact base o q
end
def Itz(k1 k2:Bool)(K:W.Frag)(l1 l2:Addr):It :=
  ⟨fun i H=>∃ xs ys x y,SqV k1 K H l1 xs/\SqV k2 K H l2 ys/\xs[i]? = some x/\ys[i]? = some y,
   fun i H v H'=>∃ T x y,H T=none/\v=.ref T/\H'=upd H T (.tup [x,y])/\(∀ xs,SqV k1 K H l1 xs->xs[i]? = some x)/\(∀ ys,SqV k2 K H l2 ys->ys[i]? = some y),
   fun i H=>∃ xs ys,SqV k1 K H l1 xs/\SqV k2 K H l2 ys/\(xs.length<=i\/ys.length<=i)⟩
def jzx{P:Program}{w:World}{K:W.Frag}{es:List Expr}{kk:Nat}{tp:Pos}(k1 k2:Bool)(l1 l2 z TI TO i1 i2:Addr)(D:ZFar z TI TO i1 i2) :
  Turn P w K (.Tuple es kk tp) (Itz k1 k2 K l1 l2) [z,TI,TO,i1,i2] z (fun i h=>IsZip h z TI TO .none/\IsPair h TI (.ref i1) (.ref i2)/\(∃ a b,IsPair h TO a b)/\ItOn k1 h i1 l1 i/\ItOn k2 h i2 l2 i) where
 mem:=by simp
 obj:=fun i h st b hb=>by
  obtain⟨q1,q2,⟨a,b',q3⟩,q4,q5⟩:=st;simp only[List.mem_cons,List.not_mem_nil,or_false] at hb;rcases hb with rfl|rfl|rfl|rfl|rfl
  ·exact⟨_,q1,fun v e=>nomatch e⟩
  ·exact⟨_,q2,fun v e=>nomatch e⟩
  ·exact⟨_,q3,fun v e=>nomatch e⟩
  ·obtain⟨o,vs,e,d⟩:=q4.ob;exact⟨o,e,fun v z=>by rw[d] at z;cases z⟩
  ·obtain⟨o,vs,e,d⟩:=q5.ob;exact⟨o,e,fun v z=>by rw[d] at z;cases z⟩
 keep:=fun i h h' st k=>by
  obtain⟨q1,q2,⟨a,b',q3⟩,q4,q5⟩:=st;exact⟨k z (by simp) _ q1,k TI (by simp) _ q2,⟨a,b',k TO (by simp) _ q3⟩,q4.mv fun o e=>k i1 (by simp) o e,q5.mv fun o e=>k i2 (by simp) o e⟩
 item:=by
  intro X hP hw hK hc i U s Z H E I hf st hg;subst hP hw hK;obtain⟨q1,q2,⟨a,b',q3⟩,q4,q5⟩:=st;obtain⟨xs,ys,x,y,sx,sy,hx,hy⟩:=hg;obtain⟨ix,rx,cx,_⟩:=I.src sx;obtain⟨iy,ry,cy,_⟩:=I.src sy;obtain⟨u,hu,ru⟩:=rx.get hx;obtain⟨v,hv,rv⟩:=ry.get hy;have far:∀ {k:Bool} {l:Addr} {xs:List V},SqV k X.K H l xs->LFar z TO i1 i2 l:=fun h=>⟨jj3 I h (hf z (by simp)),jj3 I h (hf TO (by simp)),jj3 I h (hf i1 (by simp)),jj3 I h (hf i2 (by simp))⟩
  refine jy1 D (far sx) (far sy) q1 q2 q3 q4 q5 cx cy (x:=u) (y:=v) (by simpa using hu) (by simpa using hv) fun h' b1 b2 b3 b4 b5 b6=>⟨_,rfl,?_⟩
  have keep:∀ b o,b∉[z,TI,TO,i1,i2]->s.heap.get? b=some o->h'.get? b=some o:=fun b o hb e=>by
   simp only[List.mem_cons,List.not_mem_nil,or_false,not_or] at hb;exact b6 b o hb.1 hb.2.2.1 hb.2.2.2.1 hb.2.2.2.2 e
  have e2:IsPair h' TI (.ref i1) (.ref i2):=b6 TI _ D.a1 D.a5 D.a6 D.a7 q2;have hfr:H s.heap.objs.size=none:=I.hok.fresh (zac _);have hno:s.heap.get? s.heap.objs.size=none:=Heap.get?_none_of_le (zac _);have Tz:s.heap.objs.size≠z:=Nat.ne_of_gt (zbv q1);refine wpAny_letOwnedTupleGo_zip b1 fun h2 z2 s2=>?_
  have up2:∀ b o,b≠z->h'.get? b=some o->h2.get? b=some o:=fun b o hb e=>s2.extBut _ _ hb e
  have keep2:∀ b o,b∉[z,TI,TO,i1,i2]->s.heap.get? b=some o->h2.get? b=some o:=fun b o hb e=>up2 b o (fun q=>hb (by simp[q])) (keep b o hb e)
  have tu:IsTup h2 s.heap.objs.size [u,v].toArray:=⟨_,up2 _ _ Tz b5,rfl,0,rfl⟩
  have I2:Inv X U Z (upd H s.heap.objs.size (.tup [x,y])) { s with heap:=h2 }:=I.spun (t':=s.toks) hf keep2 (fun b hb=>by
   simp only[List.mem_cons,List.not_mem_nil,or_false] at hb;rcases hb with rfl|rfl|rfl|rfl|rfl
   ·exact⟨_,z2⟩
   ·exact⟨_,up2 _ _ D.a1 e2⟩
   ·exact⟨_,up2 _ _ D.a2 b2⟩
   ·obtain⟨o,vs,e,_⟩:=b3.ob;exact⟨o,up2 _ _ D.a3 e⟩
   ·obtain⟨o,vs,e,_⟩:=b4.ob;exact⟨o,up2 _ _ D.a4 e⟩) hno hfr (.cons ru (.cons rv .nil)) (by show 2<=sizeLine;decide) tu
  refine⟨.ref s.heap.objs.size,_,I2,rfl,⟨_,x,y,hfr,rfl,rfl,fun xs' h=>by rw[I.src_inj h sx];exact hx,fun ys' h=>by rw[I.src_inj h sy];exact hy⟩,?_,fun b hb=>?_⟩
  ·exact⟨z2,up2 _ _ D.a1 e2,⟨_,_,up2 _ _ D.a2 b2⟩,b3.mv fun o e=>up2 _ o D.a3 e,b4.mv fun o e=>up2 _ o D.a4 e⟩
  ·have:b≠s.heap.objs.size:=fun q=>by
    subst q;simp only[List.mem_cons,List.not_mem_nil,or_false] at hb;rcases hb with q|q|q|q|q
    ·exact Tz q
    ·exact absurd (zbv q2) (by rw[q];exact Nat.lt_irrefl _)
    ·exact absurd (zbv q3) (by rw[q];exact Nat.lt_irrefl _)
    ·obtain⟨o,vs,e,_⟩:=q4.ob;exact absurd (zbv e) (by rw[q];exact Nat.lt_irrefl _)
    ·obtain⟨o,vs,e,_⟩:=q5.ob;exact absurd (zbv e) (by rw[q];exact Nat.lt_irrefl _)
   rw[jaj this];exact (hf b hb).1
 done:=by
  intro X hP hw hK hc i U s Z H E I hf st hg;subst hP hw hK;obtain⟨q1,q2,⟨a,b',q3⟩,q4,q5⟩:=st;obtain⟨xs,ys,sx,sy,hend⟩:=hg;obtain⟨ix,rx,cx,_⟩:=I.src sx;obtain⟨iy,ry,cy,_⟩:=I.src sy;have far:∀ {k:Bool} {l:Addr} {xs:List V},SqV k X.K H l xs->LFar z TO i1 i2 l:=fun h=>⟨jj3 I h (hf z (by simp)),jj3 I h (hf TO (by simp)),jj3 I h (hf i1 (by simp)),jj3 I h (hf i2 (by simp))⟩
  have lx:=rx.length;have ly:=ry.length;refine jo7 (I.ok.hd hc) D (far sx) (far sy) q1 q2 q3 q4 q5 cx cy ?_ fun h' k=>⟨rfl,I.spun0 (t':=s.toks) hf fun b o hb e=>?_⟩
  ·rcases hend with h|h
   ·exact .inl (by simp;omega)
   ·exact .inr (by simp;omega)
  ·simp only[List.mem_cons,List.not_mem_nil,or_false,not_or] at hb;exact k b o hb.1 hb.2.2.1 hb.2.2.2.1 hb.2.2.2.2 e
 self:=fun _ _ _ _ _ st h=>wpAny_pyIter_zip st.1 h
def zfar(n:Nat):ZFar (n+4) (n+2) (n+3) n (n+1):=⟨show (n+2:Nat)≠n+4 by omega,show (n+3:Nat)≠n+4 by omega,show (n:Nat)≠n+4 by omega,show (n+1:Nat)≠n+4 by omega,show (n+2:Nat)≠n+3 by omega,
 show (n+2:Nat)≠n by omega,show (n+2:Nat)≠n+1 by omega,show (n+3:Nat)≠n by omega,show (n+3:Nat)≠n+1 by omega,show (n:Nat)≠n+1 by omega⟩
section
variable {X:Cx}
def iZip(K:W.Frag)(ta:TA):TI:=fun Z H R=>ta Z H fun vs H1=>∃ k1 k2 l1 l2 xs ys,vs=[.ref l1,.ref l2]/\SqV k1 K H1 l1 xs/\SqV k2 K H1 l2 ys/\R (Itz k1 k2 K l1 l2) H1
def jGr{a b:Expr}{ta:TA}{es:List Expr}{kk:Nat}{tp p pos:Pos}(hg:Gl X "zip")(hm:X.mg "zip"=none)(ha:PA X [a,b] ta)(hs:starEach [a,b] X.env=[(false,eval a X.env),(false,eval b X.env)]:=by rfl)(hs2:starEach [b] X.env=[(false,eval b X.env)]:=by rfl) :
  PI X (.Tuple es kk tp) (.Call (.Name "zip" p) [a,b] [] pos) (iZip X.K ta):=by
 intro U s Z H R I h;refine Call_ (jl4 I hg hm boot_zip (PyProof.Rows.callWith_type1 (thn (ha pos U s Z H _ I h) fun us s1 hzz=>?_) (by rw[hs,hs2]) (by rw[hs2];rfl)));obtain⟨vs,H1,I1,r1,q1⟩:=hzz;obtain⟨k1,k2,l1,l2,xs,ys,e,sx,sy,q⟩:=q1;subst e;obtain⟨u1,u2,rfl,e1,e2⟩:=r1.two;cases e1;cases e2;obtain⟨ix,rx,cx,_⟩:=I1.src sx;obtain⟨iy,ry,cy,_⟩:=I1.src sy;refine callType_new F.called_zip (by decide) (F.typeCall_zip_2 _ _) (F.newCall_zip_2 _ _) (fun obj=>F.args_object_init_3 obj _ _) F.entry_zip_new (jvo l1 l2 ix.toArray iy.toArray) ⟨cx,cy,fun o1 o2 w1 w2=>?_⟩;have n1:(s1.heap.push o1).objs.size=s1.heap.objs.size+1:=Heap.size_push ..;have n2:(zA s1.heap o1 o2).objs.size=s1.heap.objs.size+2:=by show (Heap.push _ _).objs.size=_;rw[Heap.size_push,n1]
 have n3:(zB s1.heap o1 o2).objs.size=s1.heap.objs.size+3:=by show (Heap.push _ _).objs.size=_;rw[Heap.size_push,n2]
 have n4:(zC s1.heap o1 o2).objs.size=s1.heap.objs.size+4:=by show (Heap.push _ _).objs.size=_;rw[Heap.size_push,n3]
 have g5:(zD s1.heap o1 o2).get? (zC s1.heap o1 o2).objs.size=some _:=zbz _ rfl;have g4:(zD s1.heap o1 o2).get? (zB s1.heap o1 o2).objs.size=some _:=zaz _ (zbz _ rfl);have g3:(zD s1.heap o1 o2).get? (zA s1.heap o1 o2).objs.size=some _:=zaz _ (zaz _ (zbz _ rfl));have kk2:∀ c o,(zA s1.heap o1 o2).get? c=some o->(zD s1.heap o1 o2).get? c=some o:=fun c o e=>zaz _ (zaz _ (zaz _ e))
 have kk1:∀ c o,(s1.heap.push o1).get? c=some o->(zD s1.heap o1 o2).get? c=some o:=fun c o e=>kk2 c o (zaz _ e)
 have kk0:∀ c o,s1.heap.get? c=some o->(zD s1.heap o1 o2).get? c=some o:=fun c o e=>kk1 c o (zaz _ e)
 rw[n1] at w2 g3;rw[n2] at g3;rw[n3] at g4;rw[n4,n2,n3] at g5;show _/\_;rw[n4];refine⟨⟨_,g5,rfl⟩,wpAny_pyIter_zip g5 ?_⟩;have D:ZFar (s1.heap.objs.size+4) (s1.heap.objs.size+2) (s1.heap.objs.size+3) s1.heap.objs.size (s1.heap.objs.size+1):=zfar _;refine⟨s1.heap.objs.size+4,[s1.heap.objs.size+4,s1.heap.objs.size+2,s1.heap.objs.size+3,s1.heap.objs.size,s1.heap.objs.size+1],_,_,H1,rfl,I1.kept (t':=s1.toks) fun c o e=>kk0 c o e,
  jzx k1 k2 l1 l2 _ _ _ _ _ D,⟨g5,g3,⟨_,_,g4⟩,w1.mv fun o e=>kk1 _ o e,w2.mv fun o e=>kk2 _ o e⟩,fun b hb=>?_,q⟩
 have hb':s1.heap.objs.size<=b:=by
  simp only[List.mem_cons,List.not_mem_nil,or_false] at hb;show (s1.heap.objs.size:Nat)<=(b:Nat);have hb2:(b:Nat)=b:=rfl;rcases hb with q|q|q|q|q<;>(rw[q];first|exact zac _|exact Nat.le_add_right _ _)
 exact I1.fpOk hb' (I1.hok.fresh hb')
end
section
end
def iSeq(K:W.Frag)(tl:TE):TI:=fun Z H R=>tl Z H fun x H1=>(∃ a,x=.ref a/\(∃ xs,SqL K H1 a xs)/\R (Itl K a) H1)\/(∃ a,x=.ref a/\(∃ xs,SqT K H1 a xs)/\R (Itt K a) H1)
def jGq{X:Cx}{tg l:Expr}{tl:TE}(hl:PE X l tl):PI X tg l (iSeq X.K tl):=by
 intro U s Z H R I h;refine thn (hl U s Z H _ I h) fun v s1 hzz=>?_
 obtain⟨x,H1,I1,r1,q1⟩:=hzz;have fp1:∀ b∈[s1.heap.objs.size],FpOk X U H1 b:=fun b hb=>by
  have e:b=s1.heap.objs.size:=by simpa using hb
  subst e;exact I1.fpOk (zac _) (I1.hok.fresh (zac _))
 rcases q1 with ⟨a,e,⟨xs,hq⟩,q⟩|⟨a,e,⟨xs,hq⟩,q⟩
 ·subst e;cases r1;obtain⟨its,rv,p,hz⟩:=I1.list hq;exact wpAny_pyIter_list p.isList ⟨s1.heap.objs.size,[s1.heap.objs.size],_,_,H1,rfl,I1.kept (t':=s1.toks) fun b o e=>zaz _ e,jxi a _,⟨_,zbz _ rfl,rfl,rfl⟩,fp1,q⟩
 ·subst e;cases r1;obtain⟨its,rv,p,hz⟩:=I1.tuple hq;exact wpAny_pyIter_tuple (show s1.heap.IsTuple a its.toArray from p) ⟨s1.heap.objs.size,[s1.heap.objs.size],_,_,H1,rfl,I1.kept (t':=s1.toks) fun b o e=>zaz _ e,jt3 a _,⟨_,zbz _ rfl,rfl,rfl⟩,fp1,q⟩
def Itv(val:Nat->V)(n:Nat):It:=⟨fun i _=>i<n,fun i H x H'=>H'=H/\x=val i,fun i _=>i=n⟩
def jpj(nm:String):Bool:=!["enumerate","zip","dict_itemiterator","dict_reverseitemiterator","odict_iterator","itertools.zip_longest","itertools.pairwise"].contains nm
def jjd{P:Program}{w:World}{K:W.Frag}{tg:Expr}(it:Addr)(val:Nat->V)(n:Nat)(Stn:Nat->Heap->Prop)(W:∀ A:Around,A.handled=none->Walks P w A it [it] [it] n (fun i v=>RelV (val i) v) Stn)
  (ob:∀ i h,Stn i h->∃ o nm vs,h.get? it=some o/\o.cls=.type nm/\o.data=.fields vs/\jpj nm=true)
  (sf:∀ (A:Around) (i:Nat) (s:Shared) (Q:qd) (E:qd),Stn i s.heap->Q (.ref it) s->wpAny (model P w) A (pyIter (.ref it)) Q E s):Turn P w K tg (Itv val n) [it] it Stn where
 mem:=by simp
 obj:=fun i h st b hb=>by
  have e:b=it:=by simpa using hb
  subst e;obtain⟨o,nm,vs,q1,_,q3,_⟩:=ob i h st;exact⟨o,q1,fun v z=>by rw[q3] at z;cases z⟩
 keep:=fun i h h' st k=>(W { handled:=none,frames:=some [] } rfl).frame i h h' st k
 item:=by
  intro X hP hw hK hc i U s Z H E I hf st hg;subst hP hw hK;refine (W X.A (I.ok.hd hc)).item i s _ _ hg st fun v h' tk hv st' kk=>⟨v,rfl,?_⟩
  obtain⟨o,nm,vs,q1,q2,q3,q4⟩:=ob _ _ st';have I1:Inv X U Z H { s with heap:=h',toks:=tk }:=I.spun0 hf kk;exact go_of (s:={ s with heap:=h',toks:=tk }) q1 q2 q3 (by unfold jpj at q4;simpa using q4) ⟨val i,H,I1,hv,⟨rfl,rfl⟩,st',fun b hb=>(hf b hb).1⟩
 done:=by
  intro X hP hw hK hc i U s Z H E I hf st hg;subst hP hw hK;have hg':i=n:=hg;subst hg';exact (W X.A (I.ok.hd hc)).done s _ _ st fun h' tk kk=>⟨rfl,I.spun0 hf kk⟩
 self:=fun A i s Q E st h=>sf A i s Q E st h
section
variable {X:Cx}{tg:Expr}
def jpk{U:qc}{Z:St}{H:Hp}{s:Shared}{R:It->Hp->Prop}{E:qd}{lo hi st:Int}{t u v:Tok}{tk:Nat}(I:Inv X U Z H s)(hst:st=1)
  (q:R (Itv (fun i=>.int (lo+(i:Nat)*st)) (Builtin.Range.rangeSize lo hi st).toNat) H):wpAny (model X.prog X.w) X.A (pyIter (.ref s.heap.objs.size)) (PIE X U Z tg R) E { s with heap:=s.heap.push { cls:=.type "range",data:=.fields #[.int lo t,.int hi u,.int st v] },toks:=tk }:=by
 have I1:Inv X U Z H { s with heap:=s.heap.push { cls:=.type "range",data:=.fields #[.int lo t,.int hi u,.int st v] },toks:=tk }:=I.kept fun b o e=>zaz _ e
 subst hst;have hn:0<=Builtin.Range.rangeSize lo hi 1:=by rw[rangeSize_one];split<;>omega
 generalize hN:(Builtin.Range.rangeSize lo hi 1).toNat=N at q;have hN':Builtin.Range.rangeSize lo hi 1=(N:Int):=by omega
 have fpk:∀ b∈[(s.heap.push { cls:=.type "range",data:=.fields #[.int lo t,.int hi u,.int 1 v] }).objs.size],FpOk X U H b:=fun b hb=>by
  have e:b=(s.heap.push { cls:=.type "range",data:=.fields #[.int lo t,.int hi u,.int 1 v] }).objs.size:=by simpa using hb
  subst e;exact I1.fpOk (zac _) (I1.hok.fresh (zac _))
 by_cases hsm:Builtin.Range.small lo hi 1=true
 ·refine wpAny_pyIter_range (IsRange.new ..) hsm ?_;refine⟨_,[_],_,_,H,rfl,I1.kept (t':=tk) fun b o e=>zaz _ e,jjd _ _ N _ (fun A hA=>Walks.range hA _ lo 1 N) (fun i h e=>⟨_,_,_,e,rfl,rfl,rfl⟩) (fun A i s Q E e h=>wpAny_pyIter_rangeiter e h),?_,fpk,q⟩;show IsRangeIter _ _ (lo+((0:Nat):Int)*1) ((N:Int)-((0:Nat):Int)) 1;rw[<- hN'];have e1:lo+((0:Nat):Int)*1=lo:=by simp
  have e2:Builtin.Range.rangeSize lo hi 1-((0:Nat):Int)=Builtin.Range.rangeSize lo hi 1:=by simp
  rw[e1,e2];exact zbz _ rfl
 ·refine wpAny_pyIter_longrange (IsRange.new ..) (by simpa using hsm) ?_;refine⟨_,[_],_,_,H,rfl,I1.kept (t':=tk) fun b o e=>zaz _ e,jjd _ _ N _ (fun A hA=>Walks.longrange hA _ lo 1 N) (fun i h e=>⟨_,_,_,e,rfl,rfl,rfl⟩) (fun A i s Q E e h=>wpAny_pyIter_longiter e h),?_,fpk,q⟩;show IsLongIter _ _ (lo+((0:Nat):Int)*1) ((N:Int)-((0:Nat):Int)) 1;rw[<- hN'];have e1:lo+((0:Nat):Int)*1=lo:=by simp
  have e2:Builtin.Range.rangeSize lo hi 1-((0:Nat):Int)=Builtin.Range.rangeSize lo hi 1:=by simp
  rw[e1,e2];exact zbz _ rfl
def iRgA(ta:TA):TI:=fun Z H R=>ta Z H fun vs H1=>(∃ j:Int,vs=[.int j]/\R (Itv (fun i=>.int (0+(i:Nat)*1)) (Builtin.Range.rangeSize 0 j 1).toNat) H1) \/
 (∃ i j:Int,vs=[.int i,.int j]/\R (Itv (fun n=>.int (i+(n:Nat)*1)) (Builtin.Range.rangeSize i j 1).toNat) H1)
def jzc{a:Expr}{es:List Expr}{ta:TA}{p pos:Pos}(hg:Gl X "range")(hm:X.mg "range"=none)(ha:PA X (a::es) ta)(hs:starEach (a::es) X.env=(false,eval a X.env)::starEach es X.env:=by rfl)(hp:zbT pos es X.env:=by rfl) :
  PI X tg (.Call (.Name "range" p) (a::es) [] pos) (iRgA ta):=by
 intro U s Z H R I h;refine Call_ (jl4 I hg hm boot_range (PyProof.Rows.callWith_type1 (thn (ha pos U s Z H _ I h) fun us s1 hzz=>?_) hs hp));obtain⟨vs,H1,I1,r1,q1⟩:=hzz;rcases q1 with ⟨j,e,q⟩|⟨i,j,e,q⟩
 ·subst e;obtain⟨u,rfl,t,rfl⟩:=r1.one;exact call_range_1 (jpk I1 rfl q)
 ·subst e;obtain⟨u,v,rfl,⟨t,rfl⟩,⟨t',rfl⟩⟩:=r1.two;exact call_range_2 (jpk I1 rfl q)
end
end L2
namespace DL
open L2
def seqD:D->Option (List D)
 | .lst ds=>some ds
 | .tup ds=>some ds
 | _=>none
def jed(f:DSt->M D):DSt->M (List D):=fun Y=>(f Y).b fun d=>M.o (seqD d)
def jdx(lo:Int)(n:Nat):List D:=(List.range n).map fun i=>.int (lo+(i:Nat))
def jc6:List D->Option (List D)
 | [.int j]=>some (jdx 0 j.toNat)
 | [.int i,.int j]=>some (jdx i (j-i).toNat)
 | _=>none
def zipD:List D->List D->List D
 | x::xs,y::ys=>.tup [x,y]::zipD xs ys
 | _,_=>[]
def jfp:List D->Option (List D)
 | [x,y]=>match seqD x,seqD y with
  | some xs,some ys=>some (zipD xs ys)
  | _,_=>none
 | _=>none
def jCa:Int->List D->List D
 | _,[]=>[]
 | k,d::ds=>.tup [.int k,d]::jCa (k+1) ds
def jx5:List D->Option (List D)
 | [.lst xs]=>some (jCa 0 xs)
 | _=>none
def jih(k:List D->Option (List D))(f:DSt->M (List D)):DSt->M (List D):=fun Y=>(f Y).b fun ds=>M.o (k ds)
theorem js0:∀ {xs ys:List D} {i:Nat} {d:D},(zipD xs ys)[i]? = some d->∃ x y,xs[i]? = some x/\ys[i]? = some y/\d=.tup [x,y]
 | [],_,_,_,h=>by simp[zipD] at h
 | _::_,[],_,_,h=>by simp[zipD] at h
 | x::xs,y::ys,0,d,h=>by simp[zipD] at h;exact⟨x,y,rfl,rfl,h.symm⟩
 | x::xs,y::ys,i+1,d,h=>by
  obtain⟨a,b,q1,q2,q3⟩:=js0 (xs:=xs) (ys:=ys) (i:=i) (d:=d) (by simpa[zipD] using h);exact⟨a,b,by simpa using q1,by simpa using q2,q3⟩
theorem js1:∀ (xs ys:List D),(zipD xs ys).length=min xs.length ys.length
 | [],_=>by simp[zipD]
 | _::_,[]=>by simp[zipD]
 | x::xs,y::ys=>by simp[zipD,js1 xs ys]
section
variable {J:Rho}{X:Cx}{O:List Nat}{E:XK}{a b tg iter e elt:Expr}{es:List Expr}{fa:DSt->M D}{fl:DSt->M (List D)}{pos p:Pos}
def sqv_t{K:W.Frag}{H:Hp}{l:Addr}{xs:List V}:SqV true K H l xs↔SqT K H l xs:=Iff.rfl
def sqv_l{K:W.Frag}{H:Hp}{l:Addr}{xs:List V}:SqV false K H l xs↔SqL K H l xs:=Iff.rfl
def jsr{k:Bool}{K:W.Frag}{H H':Hp}{l:Addr}{xs:List V}(e:Same H H')(h:SqV k K H l xs):SqV k K H' l xs:=by
 cases k with
 | true=>exact jde (H:=H) e h
 | false=>exact jem (H:=H) e h
def jFm{J:Rho}{K:W.Frag}{ds:List D}{Hv:Hp}{l:Addr}{xs:List V}(h:SqL K Hv l xs)(hr:Reps J K Hv ds xs):ItD J K (Itl K l) ds Hv:=by
 intro H' G' i f hG;have h':SqL K H' l xs:=jem (f.trans jao) h;refine⟨fun hi=>?_,fun hi=>⟨xs,h',by rw[hr.length,hi];exact zac _⟩⟩;obtain⟨v,hv,rv⟩:=hr.get (zax hi);refine⟨⟨xs,v,h',hv⟩,fun x H2 y=>?_⟩;obtain⟨rfl,y⟩:=y;refine⟨Same.refl _,_,zax hi,?_⟩;have:=y xs h';rw[hv] at this;cases this
 exact rv.mono f
def jFn{J:Rho}{K:W.Frag}{ds:List D}{Hv:Hp}{l:Addr}{xs:List V}(h:SqT K Hv l xs)(hr:Reps J K Hv ds xs):ItD J K (Itt K l) ds Hv:=by
 intro H' G' i f hG;have h':SqT K H' l xs:=jde (f.trans jao) h;refine⟨fun hi=>?_,fun hi=>⟨xs,h',by rw[hr.length,hi];exact zac _⟩⟩;obtain⟨v,hv,rv⟩:=hr.get (zax hi);refine⟨⟨xs,v,h',hv⟩,fun x H2 y=>?_⟩;obtain⟨rfl,y⟩:=y;refine⟨Same.refl _,_,zax hi,?_⟩;have:=y xs h';rw[hv] at this;cases this
 exact rv.mono f
def jva{J:Rho}{K:W.Frag}{Hv:Hp}{val:Nat->V}{ds:List D}{n:Nat}(hl:ds.length=n)(hv:∀ i d,ds[i]? = some d->∀ H,Rep J K H d (val i)):ItD J K (Itv val n) ds Hv:=by
 intro H' G' i f hG;subst hl;refine⟨fun hi=>⟨hi,fun x H2 y=>?_⟩,fun hi=>hi⟩;obtain⟨rfl,rfl⟩:=y;exact⟨Same.refl _,_,zax hi,hv i _ (zax hi) _⟩
def jFo{J:Rho}{K:W.Frag}{k1 k2:Bool}{ds es:List D}{Hv:Hp}{l1 l2:Addr}{xs ys:List V}(h1:SqV k1 K Hv l1 xs)(r1:Reps J K Hv ds xs)(h2:SqV k2 K Hv l2 ys)(r2:Reps J K Hv es ys):ItD J K (Itz k1 k2 K l1 l2) (zipD ds es) Hv:=by
 intro H' G' i f hG;have h1':SqV k1 K H' l1 xs:=jsr (f.trans jao) h1;have h2':SqV k2 K H' l2 ys:=jsr (f.trans jao) h2;refine⟨fun hi=>?_,fun hi=>⟨xs,ys,h1',h2',?_⟩⟩
 ·obtain⟨d1,d2,q1,q2,q3⟩:=js0 (zax hi);obtain⟨v,hv,rv⟩:=r1.get q1;obtain⟨u,hu,ru⟩:=r2.get q2;refine⟨⟨xs,ys,v,u,h1',h2',hv,hu⟩,fun x H2 y=>?_⟩;obtain⟨T,x1,x2,hT,rfl,rfl,y1,y2⟩:=y;have e1:=y1 xs h1';have e2:=y2 ys h2';rw[hv] at e1;cases e1
  rw[hu] at e2;cases e2
  refine⟨ja7 hT,_,zax hi,?_⟩;rw[q3];exact jc7 hT (hG T hT) (Reps.cons (rv.mono f) (Reps.cons (ru.mono f) Reps.nil))
 ·rw[js1] at hi;rw[r1.length,r2.length];omega
def jfd(h:DE X O E iter fa):DI X O E tg iter (jed fa):=by
 rintro U s Z H R I ⟨J,Hz,F,Y,r,RS0,hf,k⟩;refine jGq h U s Z H R I ?_;rcases M.b_inv hf with ⟨d,e1,hf⟩|⟨y,e1,rfl⟩
 ·refine⟨J,Hz,F,Y,.ok d,RS0,e1,fun v H1 s1 r1=>?_⟩;obtain⟨ds,hd,rfl⟩:=M.o_inv hf
  cases d with
  | lst es =>
   cases hd;obtain⟨q,xs,rfl,q2,q3⟩:=rep_lst.mp r1;exact .inl ⟨q,rfl,⟨xs,jem jao q2⟩,k _ H1 s1 (jFm q2 q3)⟩
  | tup es =>
   cases hd;obtain⟨q,xs,rfl,q2,q3⟩:=rep_tup.mp r1;exact .inr ⟨q,rfl,⟨xs,jde jao q2⟩,k _ H1 s1 (jFn q2 q3)⟩
  | _=>cases hd
 ·exact⟨J,Hz,F,Y,.error y,RS0,e1,k⟩
def jpl(lo hi:Int):(Builtin.Range.rangeSize lo hi 1).toNat=(hi-lo).toNat:=by
 rw[rangeSize_one];split<;>omega
def jkh(hg:Gl X "range")(hm:X.mg "range"=none)(ha:DA X O E (a::es) fl)(hs:starEach (a::es) X.env=(false,eval a X.env)::starEach es X.env:=by rfl)(hp:zbT pos es X.env:=by rfl) :
  DI X O E tg (.Call (.Name "range" p) (a::es) [] pos) (jih jc6 fl):=by
 rintro U s Z H R I ⟨J,Hz,F,Y,r,RS0,hf,k⟩;refine jzc hg hm ha hs hp U s Z H R I ?_;rcases M.b_inv hf with ⟨d,e1,hf⟩|⟨y,e1,rfl⟩
 ·refine⟨J,Hz,F,Y,.ok d,RS0,e1,fun vs H1 s1 r1=>?_⟩;obtain⟨ds,hd,rfl⟩:=M.o_inv hf;unfold jc6 at hd
  split at hd
  ·rename_i j;cases hd;obtain⟨v,r',rfl,q1,q2⟩:=reps_cons.mp r1;cases reps_nil.mp q2;cases rep_int.mp q1;refine .inl ⟨j,rfl,k _ H1 s1 ?_⟩;refine jva (by unfold jdx;rw[jpl];simp) fun i d hd H=>?_
   unfold jdx at hd;rw[zba] at hd
   cases q:(List.range j.toNat)[i]? with
   | none=>rw[q] at hd;cases hd
   | some m =>
    rw[q] at hd;have:m=i:=by
     have:=(zbb.mp q).2;simpa using this.symm
    subst this;cases hd;exact rep_int.mpr (by rw[Int.mul_one])
  ·rename_i i0 j;cases hd;obtain⟨v,r',rfl,q1,q2⟩:=reps_cons.mp r1;obtain⟨v2,r2,rfl,q3,q4⟩:=reps_cons.mp q2;cases reps_nil.mp q4;cases rep_int.mp q1;cases rep_int.mp q3;refine .inr ⟨i0,j,rfl,k _ H1 s1 ?_⟩;refine jva (by unfold jdx;rw[jpl];simp) fun i d hd H=>?_
   unfold jdx at hd;rw[zba] at hd
   cases q:(List.range (j-i0).toNat)[i]? with
   | none=>rw[q] at hd;cases hd
   | some m =>
    rw[q] at hd;have:m=i:=by
     have:=(zbb.mp q).2;simpa using this.symm
    subst this;cases hd;exact rep_int.mpr (by rw[Int.mul_one])
  ·cases hd
 ·exact⟨J,Hz,F,Y,.error y,RS0,e1,k⟩
def jss{J:Rho}{K:W.Frag}{H:Hp}{d:D}{ds:List D}{v:V}(hd:seqD d=some ds)(h:Rep J K H d v):∃ k l xs,v=.ref l/\SqV k K H l xs/\Reps J K H ds xs:=by
 cases d with
 | lst es=>cases hd;obtain⟨q,xs,rfl,q2,q3⟩:=rep_lst.mp h;exact⟨false,q,xs,rfl,q2,q3⟩
 | tup es=>cases hd;obtain⟨q,xs,rfl,q2,q3⟩:=rep_tup.mp h;exact⟨true,q,xs,rfl,q2,q3⟩
 | _=>cases hd
def jz8{ts:List Expr}{kk:Nat}{tp:Pos}(hg:Gl X "zip")(hm:X.mg "zip"=none)(ha:DA X O E [a,b] fl)(hs:starEach [a,b] X.env=[(false,eval a X.env),(false,eval b X.env)]:=by rfl)(hs2:starEach [b] X.env=[(false,eval b X.env)]:=by rfl) :
  DI X O E (.Tuple ts kk tp) (.Call (.Name "zip" p) [a,b] [] pos) (jih jfp fl):=by
 rintro U s Z H R I ⟨J,Hz,F,Y,r,RS0,hf,k⟩;refine jGr hg hm ha hs hs2 U s Z H R I ?_;rcases M.b_inv hf with ⟨d,e1,hf⟩|⟨y,e1,rfl⟩
 ·refine⟨J,Hz,F,Y,.ok d,RS0,e1,fun vs H1 s1 r1=>?_⟩;obtain⟨ds,hd,rfl⟩:=M.o_inv hf;unfold jfp at hd
  split at hd
  ·rename_i x y
   split at hd
   ·rename_i xs ys ex ey;cases hd;obtain⟨v,r',rfl,q1,q2⟩:=reps_cons.mp r1;obtain⟨v2,r2,rfl,q3,q4⟩:=reps_cons.mp q2;cases reps_nil.mp q4;obtain⟨k1,l1,us,rfl,z1,z2⟩:=jss ex q1;obtain⟨k2,l2,ws,rfl,z3,z4⟩:=jss ey q3;exact⟨k1,k2,l1,l2,us,ws,rfl,jsr jao z1,jsr jao z3,k _ H1 s1 (jFo z1 z2 z3 z4)⟩
   ·cases hd
  ·cases hd
 ·exact⟨J,Hz,F,Y,.error y,RS0,e1,k⟩
def jfr(h:D->DSt->Option DSt)(tc:DSt->M Bool)(fe:DSt->M D):List D->DSt->Option (List D)
 | [],_=>some []
 | d::ds,Y=>match h d Y with
  | none=>none
  | some Y1=>match tc Y1 with
   | some (.ok true)=>(match fe Y1 with
    | some (.ok y)=>(jfr h tc fe ds Y1).map (y::·)
    | _=>none)
   | some (.ok false)=>jfr h tc fe ds Y1
   | _=>none
def jiy(own:Nat)(caps:qg)(Y:DSt):DSt:=List.replicate own none++caps.map fun p=>(Y[p.2]?).join
def jha(own:Nat)(caps:qg)(fi:DSt->M (List D))(h:D->DSt->Option DSt)(tc:DSt->M Bool)(fe:DSt->M D):DSt->M D:=fun Y=>(fi Y).b fun ds=>M.o ((jfr h tc fe ds (jiy own caps Y)).bind jbq)
def tYes:DSt->M Bool:=fun _=>M.p true
def DC(X:Cx)(O:List Nat)(E:XK)(ifs:List Expr)(f:DSt->M Bool):Prop:=PC0 X ifs (tB X.K O E f)
def jic:DC X O E [] tYes:=by
 rintro U s Z H Q I ⟨J,Hz,F,Y,r,R,hf,h⟩;cases hf;exact jDe U s Z H Q I (h H (Same.refl H))
def jrl{f:DSt->M Bool}(h:DT X O E a f):DC X O E [a] f:=jGj h
def jtc{own:Nat}{caps:qg}{Y:DSt}{i:Nat}{d:D}(h:(jiy own caps Y)[i]? = some (some d)):∃ p,caps[i-own]? = some p/\own<=i/\Y[p.2]? = some (some d):=by
 unfold jiy at h
 by_cases hi:i<own
 ·rw[List.getElem?_append_left (by simpa using hi),List.getElem?_replicate,if_pos hi] at h;cases h
 ·rw[List.getElem?_append_right (by simpa using hi),List.length_replicate,zba] at h
  cases e:caps[i-own]? with
  | none=>rw[e] at h;cases h
  | some p =>
   rw[e] at h;exact⟨p,rfl,by omega,join_some (zby h)⟩
def ju4{own:Nat}{caps:qg}{Z:St}{i:Nat}{p:Str×Nat}{v:V}(h:caps[i-own]? = some p)(hi:own<=i)(hv:Z[p.2]? = some (some v)):(jfn own caps Z)[i]? = some (some v):=by
 unfold jfn;rw[List.getElem?_append_right (by simpa using hi),List.length_replicate,zba,h];show some ((Z[p.2]?).join)=_;rw[hv];rfl
def jxz(O:List Nat)(caps:qg):Bool:=caps.all fun p=>!O.contains p.2
inductive CInv(J:Rho)(K:W.Frag)(H1:Hp)(F:qe)(Dd:Addr)(tot:List D)(cd:DSt->Option (List D))(Z:St)(H:Hp):Prop
 | mk (Y:DSt) (done:List D) (zs:List V) (rest:List D) (hR:RS J K H1 H F [] Z Y) (hD:H Dd=some (.lst zs)) (hz:Reps J K (hid H F) done zs) (hr:cd Y=some rest) (ht:done++rest=tot)
def je1{ifs:List Expr}{scope:Scope}{own:List Str}{caps:qg}{fi:DSt->M (List D)}{h:D->DSt->Option DSt}{tc:DSt->M Bool}{fe:DSt->M D}(hc:X.calm=true)(ck:CapsOk X scope caps)(hi:DI X O E tg iter fi)
  (hg:∀ C s0 H0 ex,DG (jfb X scope (own++caps.map (·.1)) C s0 H0 ex) [] tg h) (ht:∀ C s0 H0 ex,DC (jfb X scope (own++caps.map (·.1)) C s0 H0 ex) [] E0 ifs tc)
  (he:∀ C s0 H0 ex,DE (jfb X scope (own++caps.map (·.1)) C s0 H0 ex) [] E0 elt fe) (hcf:jxz O caps=true:=by rfl) (hs:∀ x,foldedSetIterable iter X.env x=pure x:=by intro _;rfl) :
  DE X O E (.ListComp elt [⟨tg,iter,ifs,0⟩] scope pos) (jha own.length caps fi h tc fe):=by
 rintro U s Z H Q I ⟨J,Hz,F,Y,r,R,hf,k⟩;refine jDg (own:=own) (g:=tG X.K [] h) (tc:=tB X.K [] E0 tc) (te:=tD X.K [] E0 fe) hc ck hi hg ht he hs U s Z H Q I ?_;rcases M.b_inv hf with ⟨ds,e1,hf⟩|⟨y,e1,rfl⟩
 ·refine⟨J,Hz,F,Y,.ok ds,R,e1,fun Jq H1 s1 it Dd hD=>?_⟩;obtain⟨dd,hd,rfl⟩:=M.o_inv hf
  cases hcd:jfr h tc fe ds (jiy own.length caps Y) with
  | none=>rw[hcd] at hd;cases hd
  | some tot =>
   rw[hcd] at hd;have hd':jbq tot=some dd:=hd;unfold jbq at hd'
   split at hd'
   ·rename_i hz;cases hd';have R1:=R.mono s1;have pf:=R1.fresh hD
    let F':qe:=fun b=>fob F Z O b || b == Dd
    have F't:∀ b,F' b=true↔fob F Z O b=true\/b=Dd:=fun b=>by show (_ || _)=true↔_;rw[Bool.or_eq_true,beq_iff_eq]
    have vis:∀ {H2:Hp},Same H1 H2->Same (hid H1 (fob F Z O)) (hid H2 F'):=fun {H2} e b o q=>by
     obtain⟨q1,q2⟩:=hid_some.mp q;refine hid_some.mpr ⟨?_,e b o q2⟩
     cases z:F' b with
     | false=>rfl
     | true =>
      rcases (F't b).mp z with z|z
      ·rw[q1] at z;cases z
      ·rw[z,hD] at q2;cases q2
    have R0:RS J X.K H1 (upd H1 Dd (.lst [])) F' [] (jfn own.length caps Z) (jiy own.length caps Y):=by
     refine⟨by simp[jfn,jiy],ja7 hD,fun b hb=>?_,fun i d hd _=>?_,fun i hi=>absurd hi (by simp),fun i hi=>absurd hi (by simp)⟩
     ·rcases (F't b).mp hb with z|z
      ·refine jll fun q=>?_
       rw[R1.fresh q] at z;cases z
      ·rw[z,jam];exact fun q=>nomatch q
     ·obtain⟨p,p1,p2,p3⟩:=jtc hd;have hO:p.2∉O:=fun z=>by
       have:=List.all_eq_true.mp hcf p (List.mem_of_getElem? p1);rw[zbc.mpr z] at this;cases this
      obtain⟨v,q1,q2⟩:=R1.val p.2 d p3 hO;exact⟨v,ju4 p1 p2 q1,by rw[jgd];exact q2.mono (vis (ja7 hD))⟩
    refine⟨fun i m Z' H'=>m=ds.length-i/\i<=ds.length/\CInv J X.K H1 F' Dd tot (jfr h tc fe (ds.drop i)) Z' H',
     ⟨ds.length,by simp,Nat.zero_le _,_,[],[],tot,R0,jam,Reps.nil,hcd,rfl⟩,?_⟩
    rintro i m Z' H' ⟨rfl,hil,Y',done,zs,rest,R',hDd,rz,hr,htot⟩;have fv:Same (hid H1 (fob F Z O)) (hid H' (fob F' Z' [])):=by rw[jgd];exact vis R'.same
    obtain⟨j1,j2⟩:=it H' (fob F' Z' []) i fv fun p hp=>R'.fresh hp
    by_cases hlt:i<ds.length
    ·obtain⟨go,yld⟩:=j1 hlt;refine .inr ⟨go,CInv J X.K H1 F' Dd tot (jfr h tc fe (ds.drop (i+1))),
      fun Z2 H2 q=>⟨ds.length-(i+1),by omega,rfl,hlt,q⟩,fun x H2 y=>?_⟩
     obtain⟨s2,d,hd,rd⟩:=yld x H2 y;have hdr:ds.drop i=d::ds.drop (i+1):=by
      rw[List.drop_eq_getElem_cons hlt];have:ds[i]=d:=by rw[zax hlt] at hd;exact zby hd
      rw[this]
     rw[hdr] at hr;unfold jfr at hr
     cases e2:h d Y' with
     | none=>rw[e2] at hr;cases hr
     | some Y1 =>
      rw[e2] at hr;dsimp only at hr;refine⟨J,H1,F',Y',d,Y1,R'.mono s2,rd,e2,fun Z3 ef R3=>?_⟩;have keepD:∀ {H5:Hp},Same H2 H5->H5 Dd=some (.lst zs)/\Reps J X.K (hid H5 F') done zs:=fun {H5} e=>⟨e _ _ (s2 _ _ hDd),rz.mono (jaq (s2.trans e))⟩
      split at hr
      ·rename_i e3;refine⟨J,H1,F',Y1,.ok true,R3,e3,fun H4 s4=>iteT ?_⟩
       split at hr
       ·rename_i yv e4;refine⟨J,H1,F',Y1,.ok yv,R3.mono s4,e4,fun v H5 s5 r5=>?_⟩;rw[jgd] at r5;obtain⟨k1,k2⟩:=keepD (s4.trans s5)
        cases e5:jfr h tc fe (ds.drop (i+1)) Y1 with
        | none=>rw[e5] at hr;cases hr
        | some rest' =>
         rw[e5] at hr;have hr':yv::rest'=rest:=zby hr;have hFD:F' Dd=true:=(F't Dd).mpr (.inr rfl);have hh:hid (upd H5 Dd (.lst (zs++[v]))) F'=hid H5 F':=jgh hFD;refine⟨zs,k1,?_,Y1,done++[yv],zs++[v],rest',?_,jam,?_,e5,by rw[List.append_assoc,<- htot,<- hr'];rfl⟩
         ·have l1:=k2.length;have l2:=congrArg List.length htot;rw[zcb,<- hr',List.length_cons] at l2;omega
         ·have R5:=R3.mono (s4.trans s5);refine⟨R5.len,jlb R5.same hD,fun b hb=>jll (R5.fin b hb),fun j d' hj hO=>?_,fun j hj=>absurd hj (by simp),fun j hj=>absurd hj (by simp)⟩;obtain⟨v',w1,w2⟩:=R5.val j d' hj hO;refine⟨v',w1,?_⟩;rw[jgd] at w2 |-
          rw[hh];exact w2
         ·rw[hh];exact k2.append (Reps.cons r5 Reps.nil)
       ·cases hr
      ·rename_i e3;refine⟨J,H1,F',Y1,.ok false,R3,e3,fun H4 s4=>iteF ?_⟩;obtain⟨k1,k2⟩:=keepD s4;exact⟨Y1,done,zs,rest,R3.mono s4,k1,k2,hr,htot⟩
      ·cases hr
    ·have ei:i=ds.length:=by omega
     subst ei;rw[List.drop_length] at hr;cases hr;rw[List.append_nil] at htot;subst htot;refine .inl ⟨j2 rfl,k _ H' (s1.trans R'.same) ?_⟩;exact rep_lst.mpr ⟨Dd,zs,rfl,SqL.of (hid_some.mpr ⟨pf,hDd⟩),rz.mono (jfg fun b q=>(F't b).mpr (.inl q))⟩
   ·cases hd'
 ·exact⟨J,Hz,F,Y,.error y,R,e1,k⟩
end
mutual
def okD:D->Bool
 | .non=>false
 | .bl _=>false
 | .ty _=>false
 | .obj _=>false
 | .tup ds=>okDs ds
 | .lst ds=>okDs ds
 | _=>true
def okDs:List D->Bool
 | []=>true
 | d::ds=>okD d&&okDs ds
end
mutual
def depD:D->Nat
 | .tup ds=>depDs ds+1
 | .lst ds=>depDs ds+1
 | _=>0
def depDs:List D->Nat
 | []=>0
 | d::ds=>max (depD d) (depDs ds)
end
mutual
def eqB:D->D->Bool
 | .non,.non=>true
 | .bl a,.bl b=>a == b
 | .bl a,.int b=>(if a then 1 else 0) == b
 | .int a,.bl b=>a == (if b then 1 else 0)
 | .int a,.int b=>a == b
 | .str a,.str b=>a == b
 | .tup a,.tup b=>eqBs a b
 | .lst a,.lst b=>eqBs a b
 | _,_=>false
def eqBs:List D->List D->Bool
 | [],[]=>true
 | a::as,b::bs=>eqB a b&&eqBs as bs
 | _,_=>false
end
mutual
def jmv:∀ d:D,okD d=true->eqB d d=true
 | .non,_=>by unfold eqB;rfl
 | .bl _,_=>by unfold eqB;simp
 | .int _,_=>by unfold eqB;simp
 | .str _,_=>by unfold eqB;simp
 | .ty _,h=>by unfold okD at h;cases h
 | .obj _,h=>by unfold okD at h;cases h
 | .tup ds,h=>by unfold okD at h;unfold eqB;exact eqBs_refl ds h
 | .lst ds,h=>by unfold okD at h;unfold eqB;exact eqBs_refl ds h
def eqBs_refl:∀ ds:List D,okDs ds=true->eqBs ds ds=true
 | [],_=>by unfold eqBs;rfl
 | d::ds,h=>by
  unfold okDs at h;rw[Bool.and_eq_true] at h;unfold eqBs;rw[jmv d h.1,eqBs_refl ds h.2];rfl
end
theorem jiu:∀ {as bs:List D},eqBs as bs=true->as.length=bs.length
 | [],[],_=>rfl
 | [],_::_,h=>by unfold eqBs at h;cases h
 | _::_,[],h=>by unfold eqBs at h;cases h
 | a::as,b::bs,h=>by
  unfold eqBs at h;rw[Bool.and_eq_true] at h;simp[jiu h.2]
theorem jit:∀ {as bs:List D},as.length=bs.length->∀ (k:Nat->Bool),(∀ j a b,as[j]? = some a->bs[j]? = some b->k j=eqB a b)->(List.range as.length).all k=eqBs as bs
 | [],[],_,k,_=>by unfold eqBs;rfl
 | [],_::_,h,_,_=>by simp at h
 | _::_,[],h,_,_=>by simp at h
 | a::as,b::bs,h,k,hk=>by
  unfold eqBs;rw[List.length_cons,List.range_succ_eq_map,List.all_cons,List.all_map,hk 0 a b rfl rfl];congr 1;exact jit (by simpa using h) (k ∘ Nat.succ) fun j x y e1 e2=>hk (j+1) x y (by simpa using e1) (by simpa using e2)
theorem jeu:∀ {ds:List D} {i:Nat} {d:D},okDs ds=true->ds[i]? = some d->okD d=true
 | [],_,_,_,e=>by simp at e
 | d::ds,0,x,h,e=>by unfold okDs at h;rw[Bool.and_eq_true] at h;simp at e;subst e;exact h.1
 | d::ds,i+1,x,h,e=>by unfold okDs at h;rw[Bool.and_eq_true] at h;exact jeu h.2 (by simpa using e)
theorem jg6:∀ {ds:List D} {i:Nat} {d:D},ds[i]? = some d->depD d<=depDs ds
 | [],_,_,e=>by simp at e
 | d::ds,0,x,e=>by simp at e;subst e;unfold depDs;omega
 | d::ds,i+1,x,e=>by have:=jg6 (ds:=ds) (i:=i) (d:=x) (by simpa using e);unfold depDs;omega
section
variable {J:Rho}{X:Cx}{U:qc}{Z:St}{H:Hp}{s:Shared}
def jFy{l:Addr}{xs ys:List V}(I:Inv X U Z H s)(h1:SqT X.K H l xs)(h2:SqL X.K H l ys):False:=by
 obtain⟨i1,_,p1,_⟩:=I.tuple h1;obtain⟨i2,_,p2,_⟩:=I.list h2;exact SeqAt.ne_of_list_tuple p2.isList p1 rfl
mutual
def jwv(I:Inv X U Z H s):∀ {d e:D} {v:V},okD d=true->okD e=true->Rep J X.K H d v->Rep J X.K H e v->d=e
 | .non,e,v,_,oe,h,k=>by
  cases rep_non.mp h
  cases e with
  | non=>rfl
  | bl _=>exact nomatch rep_bl.mp k
  | int _=>exact nomatch rep_int.mp k
  | str _=>exact nomatch rep_str.mp k
  | ty _=>unfold okD at oe;cases oe
  | obj _=>unfold okD at oe;cases oe
  | tup _=>obtain⟨_,_,z,_⟩:=rep_tup.mp k;cases z
  | lst _=>obtain⟨_,_,z,_⟩:=rep_lst.mp k;cases z
 | .bl b,e,v,_,oe,h,k=>by
  cases rep_bl.mp h
  cases e with
  | non=>exact nomatch rep_non.mp k
  | bl _=>cases rep_bl.mp k;rfl
  | int _=>exact nomatch rep_int.mp k
  | str _=>exact nomatch rep_str.mp k
  | ty _=>unfold okD at oe;cases oe
  | obj _=>unfold okD at oe;cases oe
  | tup _=>obtain⟨_,_,z,_⟩:=rep_tup.mp k;cases z
  | lst _=>obtain⟨_,_,z,_⟩:=rep_lst.mp k;cases z
 | .int b,e,v,_,oe,h,k=>by
  cases rep_int.mp h
  cases e with
  | non=>exact nomatch rep_non.mp k
  | bl _=>exact nomatch rep_bl.mp k
  | int _=>cases rep_int.mp k;rfl
  | str _=>exact nomatch rep_str.mp k
  | ty _=>unfold okD at oe;cases oe
  | obj _=>unfold okD at oe;cases oe
  | tup _=>obtain⟨_,_,z,_⟩:=rep_tup.mp k;cases z
  | lst _=>obtain⟨_,_,z,_⟩:=rep_lst.mp k;cases z
 | .str b,e,v,_,oe,h,k=>by
  cases rep_str.mp h
  cases e with
  | non=>exact nomatch rep_non.mp k
  | bl _=>exact nomatch rep_bl.mp k
  | int _=>exact nomatch rep_int.mp k
  | str _=>cases rep_str.mp k;rfl
  | ty _=>unfold okD at oe;cases oe
  | obj _=>unfold okD at oe;cases oe
  | tup _=>obtain⟨_,_,z,_⟩:=rep_tup.mp k;cases z
  | lst _=>obtain⟨_,_,z,_⟩:=rep_lst.mp k;cases z
 | .ty _,_,_,od,_,_,_=>by unfold okD at od;cases od
 | .obj _,_,_,od,_,_,_=>by unfold okD at od;cases od
 | .tup ds,e,v,od,oe,h,k=>by
  obtain⟨a,xs,rfl,q1,q2⟩:=rep_tup.mp h
  cases e with
  | non=>exact nomatch rep_non.mp k
  | bl _=>exact nomatch rep_bl.mp k
  | int _=>exact nomatch rep_int.mp k
  | str _=>exact nomatch rep_str.mp k
  | ty _=>unfold okD at oe;cases oe
  | obj _=>unfold okD at oe;cases oe
  | tup es =>
   obtain⟨b,ys,z,p1,p2⟩:=rep_tup.mp k;cases z;rw[I.tuple_inj q1 p1] at q2;unfold okD at od oe;rw[reps_inj I od oe q2 p2]
  | lst es =>
   obtain⟨b,ys,z,p1,p2⟩:=rep_lst.mp k;cases z;exact (jFy I q1 p1).elim
 | .lst ds,e,v,od,oe,h,k=>by
  obtain⟨a,xs,rfl,q1,q2⟩:=rep_lst.mp h
  cases e with
  | non=>exact nomatch rep_non.mp k
  | bl _=>exact nomatch rep_bl.mp k
  | int _=>exact nomatch rep_int.mp k
  | str _=>exact nomatch rep_str.mp k
  | ty _=>unfold okD at oe;cases oe
  | obj _=>unfold okD at oe;cases oe
  | tup es =>
   obtain⟨b,ys,z,p1,p2⟩:=rep_tup.mp k;cases z;exact (jFy I p1 q1).elim
  | lst es =>
   obtain⟨b,ys,z,p1,p2⟩:=rep_lst.mp k;cases z;rw[I.list_inj q1 p1] at q2;unfold okD at od oe;rw[reps_inj I od oe q2 p2]
def reps_inj(I:Inv X U Z H s):∀ {ds es:List D} {vs:List V},okDs ds=true->okDs es=true->Reps J X.K H ds vs->Reps J X.K H es vs->ds=es
 | [],[],_,_,_,_,_=>rfl
 | [],_::_,_,_,_,h,k=>by cases reps_nil.mp h;obtain⟨_,_,z,_⟩:=reps_cons.mp k;cases z
 | _::_,[],_,_,_,h,k=>by cases reps_nil.mp k;obtain⟨_,_,z,_⟩:=reps_cons.mp h;cases z
 | d::ds,e::es,vs,od,oe,h,k=>by
  obtain⟨v,r,rfl,h1,h2⟩:=reps_cons.mp h;obtain⟨v',r',z,k1,k2⟩:=reps_cons.mp k;cases z;unfold okDs at od oe;rw[Bool.and_eq_true] at od oe;rw[jwv I od.1 oe.1 h1 k1,reps_inj I od.2 oe.2 h2 k2]
end
def jp9(I:Inv X U Z H s):∀ (n:Nat) (A:Around) (d e:D) (v u:V) (a b:Value),depD d<=n->A.units+n+1<cLine->okD d=true->okD e=true->Rep J X.K H d v->Rep J X.K H e u->RelV v a->RelV u b ->
  SeqAt.RcAt A s a b (eqB d e)/\SeqAt.EqAt A s a b (eqB d e):=by
 intro n
 induction n with
 | zero =>
  intro A d e v u a b hd hu od oe rd re ra rb;have hu':A.units<cLine:=by omega
  have seqT:∀ {es:List D},Rep J X.K H (.tup es) u->∃ l its,b=.ref l/\s.heap.IsTuple l its:=fun h=>by
   obtain⟨l,xs,rfl,q1,_⟩:=rep_tup.mp h;obtain⟨its,_,p,_⟩:=I.tuple q1;exact⟨l,_,rb,p⟩
  have seqL:∀ {es:List D},Rep J X.K H (.lst es) u->∃ l its,b=.ref l/\s.heap.IsList l its:=fun h=>by
   obtain⟨l,xs,rfl,q1,_⟩:=rep_lst.mp h;obtain⟨its,_,p,_⟩:=I.list q1;exact⟨l,_,rb,p.isList⟩
  cases d with
  | ty _=>unfold okD at od;cases od
  | obj _=>unfold okD at od;cases od
  | tup _=>unfold depD at hd;omega
  | lst _=>unfold depD at hd;omega
  | non=>unfold okD at od;cases od
  | bl x=>unfold okD at od;cases od
  | int x =>
   cases rep_int.mp rd;obtain⟨ta,rfl⟩:=ra
   cases e with
   | ty _=>unfold okD at oe;cases oe
   | obj _=>unfold okD at oe;cases oe
   | non=>unfold okD at oe;cases oe
   | bl y=>unfold okD at oe;cases oe
   | int y=>cases rep_int.mp re;obtain⟨t,rfl⟩:=rb;exact⟨SeqAt.RcAt.int_int _ _ _ _,SeqAt.EqAt.int_int _ _ _ _⟩
   | str y=>cases rep_str.mp re;obtain⟨t,rfl⟩:=rb;exact⟨SeqAt.RcAt.int_str _ _ _ _,SeqAt.EqAt.int_str _ _ _ _⟩
   | tup es=>obtain⟨l,its,rfl,p⟩:=seqT re;exact⟨SeqAt.RcAt.int_tuple _ _ p hu',SeqAt.EqAt.int_tuple _ _ p hu'⟩
   | lst es=>obtain⟨l,its,rfl,p⟩:=seqL re;exact⟨SeqAt.RcAt.int_list _ _ p hu',SeqAt.EqAt.int_list _ _ p hu'⟩
  | str x =>
   cases rep_str.mp rd;obtain⟨ta,rfl⟩:=ra
   cases e with
   | ty _=>unfold okD at oe;cases oe
   | obj _=>unfold okD at oe;cases oe
   | non=>unfold okD at oe;cases oe
   | bl y=>unfold okD at oe;cases oe
   | int y=>cases rep_int.mp re;obtain⟨t,rfl⟩:=rb;exact⟨SeqAt.RcAt.str_int _ _ _ _,SeqAt.EqAt.str_int _ _ _ _⟩
   | str y=>cases rep_str.mp re;obtain⟨t,rfl⟩:=rb;exact⟨SeqAt.RcAt.str_str _ _ _ _,SeqAt.EqAt.str_str _ _ _ _⟩
   | tup es=>obtain⟨l,its,rfl,p⟩:=seqT re;exact⟨SeqAt.RcAt.str_tuple _ _ p hu',SeqAt.EqAt.str_tuple _ _ p hu'⟩
   | lst es=>obtain⟨l,its,rfl,p⟩:=seqL re;exact⟨SeqAt.RcAt.str_list _ _ p hu',SeqAt.EqAt.str_list _ _ p hu'⟩
 | succ n ih =>
  intro A d e v u a b hd hu od oe rd re ra rb;have hu':A.units<cLine:=by omega
  have hin:A.in1.units+n+1<cLine:=by show A.units+1+n+1<cLine;omega
  by_cases small:depD d<=n
  ·exact ih A d e v u a b small (by omega) od oe rd re ra rb
  ·-- the two are refs: the same,or apart
   have both:∀ {l m:Addr},v=.ref l->u=.ref m->a=.ref l->b=.ref m->SeqAt.RcAt A s a b (eqB d e)->SeqAt.RcAt A s a b (eqB d e)/\SeqAt.EqAt A s a b (eqB d e):=fun {l m} ev eu ea eb r=>by
    refine⟨r,?_⟩;subst ev eu ea eb
    by_cases z:l=m
    ·subst z;have:d=e:=jwv I od oe rd re;subst this;rw[jmv d od];exact SeqAt.EqAt.same _
    ·exact SeqAt.EqAt.of_refs z r
   cases d with
   | ty _=>unfold okD at od;cases od
   | obj _=>unfold okD at od;cases od
   | non=>unfold depD at small;omega
   | bl _=>unfold depD at small;omega
   | int _=>unfold depD at small;omega
   | str _=>unfold depD at small;omega
   | tup ds =>
    obtain⟨l,xs,rfl,q1,q2⟩:=rep_tup.mp rd;cases ra;obtain⟨ix,rx,px,_⟩:=I.tuple q1;have px':s.heap.IsTuple l ix.toArray:=px;unfold okD at od;unfold depD at hd
    cases e with
    | ty _=>unfold okD at oe;cases oe
    | obj _=>unfold okD at oe;cases oe
    | non=>unfold okD at oe;cases oe
    | bl y=>unfold okD at oe;cases oe
    | int y=>cases rep_int.mp re;obtain⟨t,rfl⟩:=rb;exact⟨SeqAt.RcAt.tuple_int _ _ px' hu',SeqAt.EqAt.tuple_int _ _ px' hu'⟩
    | str y=>cases rep_str.mp re;obtain⟨t,rfl⟩:=rb;exact⟨SeqAt.RcAt.tuple_str _ _ px' hu',SeqAt.EqAt.tuple_str _ _ px' hu'⟩
    | lst es =>
     obtain⟨m,ys,rfl,p1,p2⟩:=rep_lst.mp re;cases rb;obtain⟨iy,ry,py,_⟩:=I.list p1;unfold eqB;exact⟨SeqAt.RcAt.tuple_list px' py.isList hu',SeqAt.EqAt.tuple_list px' py.isList hu'⟩
    | tup es =>
     obtain⟨m,ys,rfl,p1,p2⟩:=rep_tup.mp re;cases rb;obtain⟨iy,ry,py,_⟩:=I.tuple p1;unfold okD at oe;refine both rfl rfl rfl rfl ?_;have lx:=rx.length;have ly:=ry.length;have mx:=q2.length;have my:=p2.length;have R:=SeqAt.RcAt.tuples (e:=fun j=>match ds[j]?,es[j]? with|some x,some y=>eqB x y|_,_=>false) px' (show s.heap.IsTuple m iy.toArray from py) hu' fun j h1 h2=>by
      have h1':j<ix.length:=by simpa using h1
      have h2':j<iy.length:=by simpa using h2
      have hj1:j<ds.length:=by omega
      have hj2:j<es.length:=by omega
      obtain⟨v1,e1,r1⟩:=q2.get (zax hj1);obtain⟨v2,e2,r2⟩:=p2.get (zax hj2);obtain⟨u1,f1,s1⟩:=rx.get e1;obtain⟨u2,f2,s2⟩:=ry.get e2;have g1:ix.toArray[j]=u1:=by rw[zax h1'] at f1;simpa using zby f1
      have g2:iy.toArray[j]=u2:=by rw[zax h2'] at f2;simpa using zby f2
      rw[g1,g2,zax hj1,zax hj2];have dd:=jg6 (zax hj1);exact (ih A.in1 _ _ v1 v2 u1 u2 (by omega) hin (jeu od (zax hj1)) (jeu oe (zax hj2)) r1 r2 s1 s2).2
     unfold eqB;have fin:((List.range (min ix.toArray.size iy.toArray.size)).all (fun j=>match ds[j]?,es[j]? with|some x,some y=>eqB x y|_,_=>false)&&ix.toArray.size == iy.toArray.size)=eqBs ds es:=by
      simp only[zbx]
      by_cases hl:ds.length=es.length
      ·have e1:min ix.length iy.length=ds.length:=by omega
       have e2:(ix.length == iy.length)=true:=by simp;omega
       rw[e1,e2,Bool.and_true];exact jit hl _ fun j x y z1 z2=>by rw[z1,z2]
      ·have e2:(ix.length == iy.length)=false:=by simp;omega
       rw[e2,Bool.and_false]
       cases z:eqBs ds es with
       | false=>rfl
       | true=>exact absurd (jiu z) hl
     rw[fin] at R;exact R
   | lst ds =>
    obtain⟨l,xs,rfl,q1,q2⟩:=rep_lst.mp rd;cases ra;obtain⟨ix,rx,px,_⟩:=I.list q1;have px':s.heap.IsList l ix.toArray:=px.isList;unfold okD at od;unfold depD at hd
    cases e with
    | ty _=>unfold okD at oe;cases oe
    | obj _=>unfold okD at oe;cases oe
    | non=>unfold okD at oe;cases oe
    | bl y=>unfold okD at oe;cases oe
    | int y=>cases rep_int.mp re;obtain⟨t,rfl⟩:=rb;exact⟨SeqAt.RcAt.list_int _ _ px' hu',SeqAt.EqAt.list_int _ _ px' hu'⟩
    | str y=>cases rep_str.mp re;obtain⟨t,rfl⟩:=rb;exact⟨SeqAt.RcAt.list_str _ _ px' hu',SeqAt.EqAt.list_str _ _ px' hu'⟩
    | tup es =>
     obtain⟨m,ys,rfl,p1,p2⟩:=rep_tup.mp re;cases rb;obtain⟨iy,ry,py,_⟩:=I.tuple p1;unfold eqB;exact⟨SeqAt.RcAt.list_tuple px' py hu',SeqAt.EqAt.list_tuple px' py hu'⟩
    | lst es =>
     obtain⟨m,ys,rfl,p1,p2⟩:=rep_lst.mp re;cases rb;obtain⟨iy,ry,py,_⟩:=I.list p1;unfold okD at oe;refine both rfl rfl rfl rfl ?_;have lx:=rx.length;have ly:=ry.length;have mx:=q2.length;have my:=p2.length;unfold eqB
     by_cases hl:ds.length=es.length
     ·have hsz:ix.toArray.size=iy.toArray.size:=by simp only[zbx];omega
      have R:=SeqAt.RcAt.lists (e:=fun j=>match ds[j]?,es[j]? with|some x,some y=>eqB x y|_,_=>false) px' py.isList hsz hu' fun j h1 h2=>by
       have h1':j<ix.length:=by simpa using h1
       have h2':j<iy.length:=by simpa using h2
       have hj1:j<ds.length:=by omega
       have hj2:j<es.length:=by omega
       obtain⟨v1,e1,r1⟩:=q2.get (zax hj1);obtain⟨v2,e2,r2⟩:=p2.get (zax hj2);obtain⟨u1,f1,s1⟩:=rx.get e1;obtain⟨u2,f2,s2⟩:=ry.get e2;have g1:ix.toArray[j]=u1:=by rw[zax h1'] at f1;simpa using zby f1
       have g2:iy.toArray[j]=u2:=by rw[zax h2'] at f2;simpa using zby f2
       rw[g1,g2,zax hj1,zax hj2];have dd:=jg6 (zax hj1);exact (ih A.in1 _ _ v1 v2 u1 u2 (by omega) hin (jeu od (zax hj1)) (jeu oe (zax hj2)) r1 r2 s1 s2).2
      have e1:ix.toArray.size=ds.length:=by simp only[zbx];omega
      rw[e1,jit hl _ fun j x y z1 z2=>by rw[z1,z2]] at R;exact R
     ·have R:=SeqAt.RcAt.lists_lengths (s:=s) (A:=A) px' py.isList (by simp only[zbx];simp;omega) hu'
      cases z:eqBs ds es with
      | false=>exact R
      | true=>exact absurd (jiu z) hl
end
def BIGN:Nat:=Classical.choose (⟨2 ^ 100000,rfl⟩:∃ n:Nat,n=2 ^ 100000)
def jt7:BIGN=2 ^ 100000:=Classical.choose_spec (⟨2 ^ 100000,rfl⟩:∃ n:Nat,n=2 ^ 100000)
def BIG:Int:=(BIGN:Int)
def DIVN:Nat:=Classical.choose (⟨2 ^ 9000,rfl⟩:∃ n:Nat,n=2 ^ 9000)
def jt8:DIVN=2 ^ 9000:=Classical.choose_spec (⟨2 ^ 9000,rfl⟩:∃ n:Nat,n=2 ^ 9000)
def DIVB:Int:=(DIVN:Int)
def jh3(i:Int):Bool:=decide (-BIG<i)&&decide (i<BIG)
def gAdd:D->D->Option D
 | .int i,.int j=>some (.int (i+j))
 | .str x,.str y=>if x.length+y.length<=sizeLine then some (.str (x++y)) else none
 | _,_=>none
def gSub:D->D->Option D
 | .int i,.int j=>some (.int (i-j))
 | _,_=>none
def gMul:D->D->Option D
 | .int i,.int j=>if (jh3 i&&jh3 j)=true then some (.int (i*j)) else none
 | .str x,.int n=>if x.length<=4096/\-4096<=n/\n<=4096 then some (.str (Txt.mul x n)) else none
 | _,_=>none
def gMod:D->D->Option D
 | .int i,.int j=>if 0<j then some (.int (i % j)) else none
 | _,_=>none
def jhb:D->D->Option D
 | .int i,.int j=>if 0<j/\j<DIVB then some (.int (i / j)) else none
 | _,_=>none
def gPow:D->D->Option D
 | .int i,.int j=>if 0<=j/\j<=1000/\-(2 ^ 60)<i/\i<2 ^ 60 then some (.int (i ^ j.toNat)) else none
 | _,_=>none
def gCmp(p:Int->Int->Bool)(q:Str->Str->Bool):D->D->Option D
 | .int i,.int j=>some (.bl (p i j))
 | .str x,.str y=>some (.bl (q x y))
 | _,_=>none
def gLt:=gCmp (fun i j=>decide (i<j)) (fun x y=>decide (x.cps.toList<y.cps.toList))
def gLe:=gCmp (fun i j=>decide (i<=j)) (fun x y=>!decide (y.cps.toList<x.cps.toList))
def gGt:=gCmp (fun i j=>decide (j<i)) (fun x y=>decide (y.cps.toList<x.cps.toList))
def gGe:=gCmp (fun i j=>decide (j<=i)) (fun x y=>!decide (x.cps.toList<y.cps.toList))
def gEq:D->D->Option D:=fun x y=>if (okD x&&okD y&&decide (depD x<=20))=true then some (.bl (eqB x y)) else none
def gNe:D->D->Option D:=fun x y=>if (okD x&&okD y&&decide (depD x<=20))=true then some (.bl !(eqB x y)) else none
def jr2:D->Bool
 | .non=>true
 | _=>false
def gIs:D->D->Option D
 | x,.non=>some (.bl (jr2 x))
 | _,_=>none
def jAd:D->D->Option D
 | x,.non=>some (.bl !(jr2 x))
 | _,_=>none
def gNeg:D->Option D
 | .int i=>some (.int (-i))
 | _=>none
def gIx:D->D->Option D
 | .lst ds,.int i=>atI ds i
 | .tup ds,.int i=>atI ds i
 | .str z,.int i=>if z.length<=sizeLine then (atI z.cps.toList i).map fun c=>.str ⟨#[c]⟩ else none
 | _,_=>none
def jrd{i:Int}(h:jh3 i=true):Builtin.Int.intBits i<=100001:=by
 unfold jh3 at h;rw[Bool.and_eq_true,decide_eq_true_eq,decide_eq_true_eq] at h;unfold Builtin.Int.intBits
 split
 ·omega
 ·have hn:i.natAbs≠0:=by
   intro z;have:i=0:=by omega
   subst this;simp at *
  have hlt:i.natAbs<BIGN:=by
   unfold BIG at h;omega
  rw[jt7] at hlt;have:=(Nat.log2_lt (k:=100000) hn).mpr hlt;omega
def jBr{i j:Int}(h1:jh3 i=true)(h2:jh3 j=true):IntMulOk i j:=by
 have b1:=jrd h1;have b2:=jrd h2;unfold IntMulOk;have:Builtin.Int.intTooBig ((Builtin.Int.intBits i:Int)+(Builtin.Int.intBits j:Int))=false:=by
  unfold Builtin.Int.intTooBig bitsLine;simp;omega
 intro h;rw[Bool.and_eq_true] at h;have h2:=h.2
 first
  | (rw[this] at h2;cases h2)
  | (push_cast at h2;rw[this] at h2;cases h2)
section
variable {X:Cx}
def jqx:OpD X.K gAdd (fun x y H Q=>rI0 (fun i j=>.int (i+j)) x y H Q\/∃ i j,x=.str i/\y=.str j/\i.length+j.length<=sizeLine/\Q (.str (i++j)) H):=by
 intro x y d hd J H G u v Q hG ru rv k;unfold gAdd at hd
 split at hd
 ·cases hd;exact .inl ⟨_,_,rep_int.mp ru,rep_int.mp rv,k _ H (Same.refl H) (rep_int.mpr rfl)⟩
 ·split at hd
  ·rename_i hz;cases hd;exact .inr ⟨_,_,rep_str.mp ru,rep_str.mp rv,hz,k _ H (Same.refl H) (rep_str.mpr rfl)⟩
  ·cases hd
 ·cases hd
def op_addD:OpR X (binaryOp .Add) (fun x y H Q=>rI0 (fun i j=>.int (i+j)) x y H Q\/∃ i j,x=.str i/\y=.str j/\i.length+j.length<=sizeLine/\Q (.str (i++j)) H):=op_add.or jtm
def jk7:OpD X.K gSub (rI0 fun i j=>.int (i-j)):=by
 intro x y d hd J H G u v Q hG ru rv k;unfold gSub at hd
 split at hd
 ·cases hd;exact⟨_,_,rep_int.mp ru,rep_int.mp rv,k _ H (Same.refl H) (rep_int.mpr rfl)⟩
 ·cases hd
def op_mulD:OpR X (binaryOp .Mult) (fun x y H Q=>rI (fun i j=>(jh3 i&&jh3 j)=true) (fun i j=>.int (i*j)) x y H Q\/∃ z n,x=.str z/\y=.int n/\(z.length<=4096/\-4096<=n/\n<=4096)/\Q (.str (Txt.mul z n)) H):=by
 refine OpR.or (opI fun i j t u s E Q hc q=>PyProof.Rows.mul_int q (by rw[Bool.and_eq_true] at hc;exact jBr hc.1 hc.2)) ?_;intro U s Z H x y v u Q I rx ry h;obtain⟨z,n,rfl,rfl,⟨h1,h2,h3⟩,q⟩:=h;obtain⟨t,rfl⟩:=rx;obtain⟨t',rfl⟩:=ry;refine SB.mul (PyProof.Rows.mulOk_of 4096 4096 h1 h3 (by omega) (by decide) (by decide)) fun t' k=>⟨.str (Txt.mul z n),H,I.tok _,⟨_,rfl⟩,q⟩
def jDd:OpD X.K gMul (fun x y H Q=>rI (fun i j=>(jh3 i&&jh3 j)=true) (fun i j=>.int (i*j)) x y H Q\/∃ z n,x=.str z/\y=.int n/\(z.length<=4096/\-4096<=n/\n<=4096)/\Q (.str (Txt.mul z n)) H):=by
 intro x y d hd J H G u v Q hG ru rv k;unfold gMul at hd
 split at hd
 ·split at hd
  ·rename_i hz;cases hd;exact .inl ⟨_,_,rep_int.mp ru,rep_int.mp rv,hz,k _ H (Same.refl H) (rep_int.mpr rfl)⟩
  ·cases hd
 ·split at hd
  ·rename_i hz;cases hd;exact .inr ⟨_,_,rep_str.mp ru,rep_int.mp rv,hz,k _ H (Same.refl H) (rep_str.mpr rfl)⟩
  ·cases hd
 ·cases hd
def jcn:OpD X.K gMod (rI (fun _ j=>0<j) fun i j=>.int (i % j)):=by
 intro x y d hd J H G u v Q hG ru rv k;unfold gMod at hd
 split at hd
 ·split at hd
  ·rename_i hz;cases hd;exact⟨_,_,rep_int.mp ru,rep_int.mp rv,hz,k _ H (Same.refl H) (rep_int.mpr rfl)⟩
  ·cases hd
 ·cases hd
def jfh:OpR X (binaryOp .FloorDiv) (rI (fun _ j=>0<j/\j<DIVB) fun i j=>.int (i / j)):=opI fun i j t u s E Q hc q=>by
 have e:i.fdiv j=i / j:=Int.fdiv_eq_ediv_of_nonneg i (Int.le_of_lt hc.1);refine PyProof.Rows.floordiv_int (by omega) (by rw[e];exact q) (.inl (PyProof.noPylong_of_log2 ?_));have hn:j.natAbs≠0:=by omega
 have hlt:j.natAbs<DIVN:=by
  have:=hc.2;unfold DIVB at this;omega
 rw[jt8] at hlt;exact (Nat.log2_lt (k:=9000) hn).mpr hlt
def jfk:OpD X.K jhb (rI (fun _ j=>0<j/\j<DIVB) fun i j=>.int (i / j)):=by
 intro x y d hd J H G u v Q hG ru rv k;unfold jhb at hd
 split at hd
 ·split at hd
  ·rename_i hz;cases hd;exact⟨_,_,rep_int.mp ru,rep_int.mp rv,hz,k _ H (Same.refl H) (rep_int.mpr rfl)⟩
  ·cases hd
 ·cases hd
def jv9:OpD X.K gPow (rI CPow fun i j=>.int (i ^ j.toNat)):=by
 intro x y d hd J H G u v Q hG ru rv k;unfold gPow at hd
 split at hd
 ·split at hd
  ·rename_i hz;cases hd;exact⟨_,_,rep_int.mp ru,rep_int.mp rv,⟨hz.1,by omega,by omega⟩,k _ H (Same.refl H) (rep_int.mpr rfl)⟩
  ·cases hd
 ·cases hd
def jb4{p:Int->Int->Bool}{q:Str->Str->Bool}:OpD X.K (gCmp p q) (fun x y H Q=>rI0 (fun i j=>.bl (p i j)) x y H Q\/∃ i j,x=.str i/\y=.str j/\Q (.bl (q i j)) H):=by
 intro x y d hd J H G u v Q hG ru rv k;unfold gCmp at hd
 split at hd
 ·cases hd;exact .inl ⟨_,_,rep_int.mp ru,rep_int.mp rv,k _ H (Same.refl H) (rep_bl.mpr rfl)⟩
 ·cases hd;exact .inr ⟨_,_,rep_str.mp ru,rep_str.mp rv,k _ H (Same.refl H) (rep_bl.mpr rfl)⟩
 ·cases hd
def jqw{op:CmpOp}{q:Str->Str->Bool}(h:∀ {prog:Program} {w:World} {A:Around} {E:qd} {s:Shared} {Q:qd} (x y:Str) (t u:Tok),Q (.bool (q x y)) s->wpAny (model prog w) A (compareOp op (.str x t) (.str y u)) Q E s) :
  OpR X (compareOp op) (fun x y H Q=>∃ i j,x=.str i/\y=.str j/\Q (.bl (q i j)) H):=by
 intro U s Z H x y v u Q I rx ry k;obtain⟨i,j,rfl,rfl,k⟩:=k;obtain⟨t,rfl⟩:=rx;obtain⟨t',rfl⟩:=ry;exact h i j t t' ⟨.bl (q i j),H,I,rfl,k⟩
def jj2:OpR X (compareOp .Lt) (fun x y H Q=>rI0 (fun i j=>.bl (decide (i<j))) x y H Q\/∃ i j,x=.str i/\y=.str j/\Q (.bl (decide (i.cps.toList<j.cps.toList))) H):=op_lt.or jv4
def jsd:OpR X (compareOp .LtE) (fun x y H Q=>rI0 (fun i j=>.bl (decide (i<=j))) x y H Q\/∃ i j,x=.str i/\y=.str j/\Q (.bl (!decide (j.cps.toList<i.cps.toList))) H):=op_le.or (jqw fun x y t u h=>P.le_str h)
def ji6:OpR X (compareOp .Gt) (fun x y H Q=>rI0 (fun i j=>.bl (decide (j<i))) x y H Q\/∃ i j,x=.str i/\y=.str j/\Q (.bl (decide (j.cps.toList<i.cps.toList))) H):=op_gt.or (jqw fun x y t u h=>P.gt_str h)
def jGf:OpR X (compareOp .GtE) (fun x y H Q=>rI0 (fun i j=>.bl (decide (j<=i))) x y H Q\/∃ i j,x=.str i/\y=.str j/\Q (.bl (!decide (i.cps.toList<j.cps.toList))) H):=op_ge.or (jqw fun x y t u h=>P.ge_str h)
def rEqD(K:W.Frag)(neg:Bool):R2:=fun u v H Q=>∃ J x y,okD x=true/\okD y=true/\depD x<=20/\Rep J K H x u/\Rep J K H y v/\Q (.bl (if neg then !eqB x y else eqB x y)) H
def jbo(hu:X.A.units+30<cLine):OpR X (compareOp .Eq) (rEqD X.K false):=by
 intro U s Z H x y v u Q I rx ry h;obtain⟨J,d,e,o1,o2,hd,r1,r2,q⟩:=h;exact (jp9 I 20 X.A d e x y v u hd (by omega) o1 o2 r1 r2 rx ry).1 _ _ _ _ ⟨.bl (eqB d e),H,I,rfl,q⟩
def jbp:OpD X.K gEq (rEqD X.K false):=by
 intro x y d hd J H G u v Q hG ru rv k;unfold gEq at hd
 split at hd
 ·rename_i h;rw[Bool.and_eq_true,Bool.and_eq_true,decide_eq_true_eq] at h;cases hd;exact⟨J,x,y,h.1.1,h.1.2,h.2,ru.mono jao,rv.mono jao,k _ H (Same.refl H) (rep_bl.mpr rfl)⟩
 ·cases hd
def jfl:OpD X.K gNe (rEqD X.K true):=by
 intro x y d hd J H G u v Q hG ru rv k;unfold gNe at hd
 split at hd
 ·rename_i h;rw[Bool.and_eq_true,Bool.and_eq_true,decide_eq_true_eq] at h;cases hd;exact⟨J,x,y,h.1.1,h.1.2,h.2,ru.mono jao,rv.mono jao,k _ H (Same.refl H) (rep_bl.mpr rfl)⟩
 ·cases hd
def jvv{J:Rho}{U:qc}{Z:St}{H:Hp}{s:Shared}(I:Inv X U Z H s)(A:Around){ds es:List D}{v u:V}{a b:Value}(hd:depD (.tup ds)<=20)(hu:A.units+24<cLine)(od:okD (.tup ds)=true)(oe:okD (.tup es)=true)
  (rd:Rep J X.K H (.tup ds) v) (re:Rep J X.K H (.tup es) u) (ra:RelV v a) (rb:RelV u b):SeqAt.RcNeAt A s a b (!eqB (.tup ds) (.tup es)):=by
 have hu':A.units<cLine:=by omega
 obtain⟨l,xs,rfl,q1,q2⟩:=rep_tup.mp rd;obtain⟨m,ys,rfl,p1,p2⟩:=rep_tup.mp re;cases ra;cases rb;obtain⟨ix,rx,px,_⟩:=I.tuple q1;obtain⟨iy,ry,py,_⟩:=I.tuple p1;unfold okD at od oe;unfold depD at hd;have lx:=rx.length;have ly:=ry.length;have mx:=q2.length;have my:=p2.length;have R:=SeqAt.RcNeAt.tuples (A:=A) (e:=fun j=>match ds[j]?,es[j]? with|some x,some y=>eqB x y|_,_=>false) (show s.heap.IsTuple l ix.toArray from px) (show s.heap.IsTuple m iy.toArray from py) hu' fun j h1 h2=>by
  have h1':j<ix.length:=by simpa using h1
  have h2':j<iy.length:=by simpa using h2
  have hj1:j<ds.length:=by omega
  have hj2:j<es.length:=by omega
  obtain⟨v1,e1,r1⟩:=q2.get (zax hj1);obtain⟨v2,e2,r2⟩:=p2.get (zax hj2);obtain⟨u1,f1,s1⟩:=rx.get e1;obtain⟨u2,f2,s2⟩:=ry.get e2;have g1:ix.toArray[j]=u1:=by rw[zax h1'] at f1;simpa using zby f1
  have g2:iy.toArray[j]=u2:=by rw[zax h2'] at f2;simpa using zby f2
  rw[g1,g2,zax hj1,zax hj2];have dd:=jg6 (zax hj1);exact (jp9 I 20 A.in1 _ _ v1 v2 u1 u2 (by omega) (by show A.units+1+20+1<cLine;omega) (jeu od (zax hj1)) (jeu oe (zax hj2)) r1 r2 s1 s2).2
 unfold eqB;have fin:((List.range (min ix.toArray.size iy.toArray.size)).all (fun j=>match ds[j]?,es[j]? with|some x,some y=>eqB x y|_,_=>false)&&ix.toArray.size == iy.toArray.size)=eqBs ds es:=by
  simp only[zbx]
  by_cases hl:ds.length=es.length
  ·have e1:min ix.length iy.length=ds.length:=by omega
   have e2:(ix.length == iy.length)=true:=by simp;omega
   rw[e1,e2,Bool.and_true];exact jit hl _ fun j x y z1 z2=>by rw[z1,z2]
  ·have e2:(ix.length == iy.length)=false:=by simp;omega
   rw[e2,Bool.and_false]
   cases z:eqBs ds es with
   | false=>rfl
   | true=>exact absurd (jiu z) hl
 rw[fin] at R;exact R
def jy0{J:Rho}{U:qc}{Z:St}{H:Hp}{s:Shared}(I:Inv X U Z H s)(A:Around){ds es:List D}{v u:V}{a b:Value}(hd:depD (.lst ds)<=20)(hu:A.units+24<cLine)(od:okD (.lst ds)=true)(oe:okD (.lst es)=true)
  (rd:Rep J X.K H (.lst ds) v) (re:Rep J X.K H (.lst es) u) (ra:RelV v a) (rb:RelV u b):SeqAt.RcNeAt A s a b (!eqB (.lst ds) (.lst es)):=by
 have hu':A.units<cLine:=by omega
 obtain⟨l,xs,rfl,q1,q2⟩:=rep_lst.mp rd;obtain⟨m,ys,rfl,p1,p2⟩:=rep_lst.mp re;cases ra;cases rb;obtain⟨ix,rx,px,_⟩:=I.list q1;obtain⟨iy,ry,py,_⟩:=I.list p1;unfold okD at od oe;unfold depD at hd;have lx:=rx.length;have ly:=ry.length;have mx:=q2.length;have my:=p2.length;unfold eqB
 by_cases hl:ds.length=es.length
 ·have hsz:ix.toArray.size=iy.toArray.size:=by simp only[zbx];omega
  have R:=SeqAt.RcNeAt.lists (A:=A) (e:=fun j=>match ds[j]?,es[j]? with|some x,some y=>eqB x y|_,_=>false) px.isList py.isList hsz hu' fun j h1 h2=>by
   have h1':j<ix.length:=by simpa using h1
   have h2':j<iy.length:=by simpa using h2
   have hj1:j<ds.length:=by omega
   have hj2:j<es.length:=by omega
   obtain⟨v1,e1,r1⟩:=q2.get (zax hj1);obtain⟨v2,e2,r2⟩:=p2.get (zax hj2);obtain⟨u1,f1,s1⟩:=rx.get e1;obtain⟨u2,f2,s2⟩:=ry.get e2;have g1:ix.toArray[j]=u1:=by rw[zax h1'] at f1;simpa using zby f1
   have g2:iy.toArray[j]=u2:=by rw[zax h2'] at f2;simpa using zby f2
   rw[g1,g2,zax hj1,zax hj2];have dd:=jg6 (zax hj1);exact (jp9 I 20 A.in1 _ _ v1 v2 u1 u2 (by omega) (by show A.units+1+20+1<cLine;omega) (jeu od (zax hj1)) (jeu oe (zax hj2)) r1 r2 s1 s2).2
  have e1:ix.toArray.size=ds.length:=by simp only[zbx];omega
  rw[e1,jit hl _ fun j x y z1 z2=>by rw[z1,z2]] at R;exact R
 ·have R:=SeqAt.RcNeAt.lists_lengths (s:=s) (A:=A) px.isList py.isList (by simp only[zbx];simp;omega) hu'
  cases z:eqBs ds es with
  | false=>exact R
  | true=>exact absurd (jiu z) hl
def jGd{J:Rho}{U:qc}{Z:St}{H:Hp}{s:Shared}(I:Inv X U Z H s)(A:Around)(d e:D)(v u:V)(a b:Value)(hd:depD d<=20)(hu:A.units+24<cLine)(od:okD d=true)(oe:okD e=true)(rd:Rep J X.K H d v)(re:Rep J X.K H e u)(ra:RelV v a)(rb:RelV u b) :
  SeqAt.RcNeAt A s a b (!eqB d e):=by
 have hu':A.units<cLine:=by omega
 have seqT:∀ {es:List D} {w:V} {c:Value},Rep J X.K H (.tup es) w->RelV w c->∃ l its,c=.ref l/\s.heap.IsTuple l its:=fun h rc=>by
  obtain⟨l,xs,rfl,q1,_⟩:=rep_tup.mp h;obtain⟨its,_,p,_⟩:=I.tuple q1;exact⟨l,_,rc,p⟩
 have seqL:∀ {es:List D} {w:V} {c:Value},Rep J X.K H (.lst es) w->RelV w c->∃ l its,c=.ref l/\s.heap.IsList l its:=fun h rc=>by
  obtain⟨l,xs,rfl,q1,_⟩:=rep_lst.mp h;obtain⟨its,_,p,_⟩:=I.list q1;exact⟨l,_,rc,p.isList⟩
 cases d with
 | ty _=>unfold okD at od;cases od
 | obj _=>unfold okD at od;cases od
 | non=>unfold okD at od;cases od
 | bl x=>unfold okD at od;cases od
 | int x =>
  cases e with
  | ty _=>unfold okD at oe;cases oe
  | obj _=>unfold okD at oe;cases oe
  | non=>unfold okD at oe;cases oe
  | bl y=>unfold okD at oe;cases oe
  | int y=>cases rep_int.mp rd;obtain⟨t1,rfl⟩:=ra;cases rep_int.mp re;obtain⟨t2,rfl⟩:=rb;unfold eqB;exact SeqAt.RcNeAt.int_int _ _ _ _
  | str y=>cases rep_int.mp rd;obtain⟨t1,rfl⟩:=ra;cases rep_str.mp re;obtain⟨t2,rfl⟩:=rb;unfold eqB;exact SeqAt.RcNeAt.int_str _ _ _ _
  | tup y=>cases rep_int.mp rd;obtain⟨t1,rfl⟩:=ra;obtain⟨l2,i2,rfl,p2⟩:=seqT re rb;unfold eqB;exact SeqAt.RcNeAt.int_tuple _ _ p2 hu'
  | lst y=>cases rep_int.mp rd;obtain⟨t1,rfl⟩:=ra;obtain⟨l2,i2,rfl,p2⟩:=seqL re rb;unfold eqB;exact SeqAt.RcNeAt.int_list _ _ p2 hu'
 | str x =>
  cases e with
  | ty _=>unfold okD at oe;cases oe
  | obj _=>unfold okD at oe;cases oe
  | non=>unfold okD at oe;cases oe
  | bl y=>unfold okD at oe;cases oe
  | int y=>cases rep_str.mp rd;obtain⟨t1,rfl⟩:=ra;cases rep_int.mp re;obtain⟨t2,rfl⟩:=rb;unfold eqB;exact SeqAt.RcNeAt.str_int _ _ _ _
  | str y=>cases rep_str.mp rd;obtain⟨t1,rfl⟩:=ra;cases rep_str.mp re;obtain⟨t2,rfl⟩:=rb;unfold eqB;exact SeqAt.RcNeAt.str_str _ _ _ _
  | tup y=>cases rep_str.mp rd;obtain⟨t1,rfl⟩:=ra;obtain⟨l2,i2,rfl,p2⟩:=seqT re rb;unfold eqB;exact SeqAt.RcNeAt.str_tuple _ _ p2 hu'
  | lst y=>cases rep_str.mp rd;obtain⟨t1,rfl⟩:=ra;obtain⟨l2,i2,rfl,p2⟩:=seqL re rb;unfold eqB;exact SeqAt.RcNeAt.str_list _ _ p2 hu'
 | tup x =>
  cases e with
  | ty _=>unfold okD at oe;cases oe
  | obj _=>unfold okD at oe;cases oe
  | non=>unfold okD at oe;cases oe
  | bl y=>unfold okD at oe;cases oe
  | int y=>obtain⟨l1,i1,rfl,p1⟩:=seqT rd ra;cases rep_int.mp re;obtain⟨t2,rfl⟩:=rb;unfold eqB;exact SeqAt.RcNeAt.tuple_int _ _ p1 hu'
  | str y=>obtain⟨l1,i1,rfl,p1⟩:=seqT rd ra;cases rep_str.mp re;obtain⟨t2,rfl⟩:=rb;unfold eqB;exact SeqAt.RcNeAt.tuple_str _ _ p1 hu'
  | tup y=>exact jvv I A hd hu od oe rd re ra rb
  | lst y=>obtain⟨l1,i1,rfl,p1⟩:=seqT rd ra;obtain⟨l2,i2,rfl,p2⟩:=seqL re rb;unfold eqB;exact SeqAt.RcNeAt.tuple_list p1 p2 hu'
 | lst x =>
  cases e with
  | ty _=>unfold okD at oe;cases oe
  | obj _=>unfold okD at oe;cases oe
  | non=>unfold okD at oe;cases oe
  | bl y=>unfold okD at oe;cases oe
  | int y=>obtain⟨l1,i1,rfl,p1⟩:=seqL rd ra;cases rep_int.mp re;obtain⟨t2,rfl⟩:=rb;unfold eqB;exact SeqAt.RcNeAt.list_int _ _ p1 hu'
  | str y=>obtain⟨l1,i1,rfl,p1⟩:=seqL rd ra;cases rep_str.mp re;obtain⟨t2,rfl⟩:=rb;unfold eqB;exact SeqAt.RcNeAt.list_str _ _ p1 hu'
  | tup y=>obtain⟨l1,i1,rfl,p1⟩:=seqL rd ra;obtain⟨l2,i2,rfl,p2⟩:=seqT re rb;unfold eqB;exact SeqAt.RcNeAt.list_tuple p1 p2 hu'
  | lst y=>exact jy0 I A hd hu od oe rd re ra rb
def jfi(hu:X.A.units+30<cLine):OpR X (compareOp .NotEq) (rEqD X.K true):=by
 intro U s Z H x y v u Q I rx ry h;obtain⟨J,d,e,o1,o2,hd,r1,r2,q⟩:=h;exact jGd I X.A d e x y v u hd (by omega) o1 o2 r1 r2 rx ry _ _ _ _ ⟨.bl (!eqB d e),H,I,rfl,q⟩
def jv7:OpD X.K gIs (fun x y H Q=>y=.non/\Q (.bl (decide (x=.non))) H):=by
 intro x y d hd J H G u v Q hG ru rv k
 cases y with
 | non =>
  cases hd;refine⟨rep_non.mp rv,?_⟩;have e:decide (u=V.non)=jr2 x:=by
   cases x with
   | non=>cases rep_non.mp ru;rfl
   | bl _=>cases rep_bl.mp ru;rfl
   | int _=>cases rep_int.mp ru;rfl
   | str _=>cases rep_str.mp ru;rfl
   | ty _=>cases rep_ty.mp ru;rfl
   | obj _=>obtain⟨_,_,rfl⟩:=rep_obj.mp ru;rfl
   | tup _=>obtain⟨_,_,rfl,_⟩:=rep_tup.mp ru;rfl
   | lst _=>obtain⟨_,_,rfl,_⟩:=rep_lst.mp ru;rfl
  rw[e];exact k _ H (Same.refl H) (rep_bl.mpr rfl)
 | _=>cases hd
def jd2:UnD X.K gNeg (rU fun i=>.int (-i)):=by
 intro x d hd J H G u Q hG ru k
 cases x with
 | int i=>cases hd;exact⟨i,rep_int.mp ru,k _ H (Same.refl H) (rep_int.mpr rfl)⟩
 | _=>cases hd
def jnw{J:Rho}{K:W.Frag}{H:Hp}{ds:List D}{xs:List V}{i:Int}{d:D}(h:Reps J K H ds xs)(e:atI ds i=some d):∃ v,atI xs i=some v/\Rep J K H d v:=by
 unfold atI at e |-
 rw[h.length]
 cases z:ixN ds.length i with
 | none=>rw[z] at e;cases e
 | some j=>rw[z] at e;exact h.get e
def jax:OpD X.K gIx (rIx X.K):=by
 intro x y d hd J H G u v Q hG ru rv k;unfold gIx at hd
 split at hd
 ·obtain⟨a,xs,rfl,q1,q2⟩:=rep_lst.mp ru;obtain⟨w,e,r⟩:=jnw q2 hd;exact .inl ⟨a,xs,_,w,rfl,rep_int.mp rv,jem jao q1,e,k w H (Same.refl H) r⟩
 ·obtain⟨a,xs,rfl,q1,q2⟩:=rep_tup.mp ru;obtain⟨w,e,r⟩:=jnw q2 hd;exact .inr (.inl ⟨a,xs,_,w,rfl,rep_int.mp rv,jde jao q1,e,k w H (Same.refl H) r⟩)
 ·split at hd
  ·rename_i z i hz
   cases e:atI z.cps.toList i with
   | none=>rw[e] at hd;cases hd
   | some c =>
    rw[e] at hd;cases hd;exact .inr (.inr ⟨z,i,c,rep_str.mp ru,rep_int.mp rv,hz,e,k _ H (Same.refl H) (rep_str.mpr rfl)⟩)
  ·cases hd
 ·cases hd
def kLen:List D->Option D
 | [.lst ds]=>some (.int ds.length)
 | [.tup ds]=>some (.int ds.length)
 | [.str z]=>if z.length<=sizeLine then some (.int z.length) else none
 | _=>none
def jju{J:Rho}{K:W.Frag}{H:Hp}{d:D}{vs:List V}(h:Reps J K H [d] vs):∃ v,vs=[v]/\Rep J K H d v:=by
 obtain⟨v,r,rfl,q1,q2⟩:=reps_cons.mp h;cases reps_nil.mp q2;exact⟨v,rfl,q1⟩
def jJi{J:Rho}{K:W.Frag}{H:Hp}{d e:D}{vs:List V}(h:Reps J K H [d,e] vs):∃ v u,vs=[v,u]/\Rep J K H d v/\Rep J K H e u:=by
 obtain⟨v,r,rfl,q1,q2⟩:=reps_cons.mp h;obtain⟨u,rfl,q3⟩:=jju q2;exact⟨v,u,rfl,q1,q3⟩
def ja2:CallR X (.builtin "len") (fun xs H Q=>(∃ p ys,xs=[.ref p]/\(SqL X.K H p ys\/SqT X.K H p ys)/\Q (.int ys.length) H)\/∃ z,xs=[.str z]/\z.length<=sizeLine/\Q (.int z.length) H):=call_len_seq.or joi
def jb2:CaD X.K kLen (fun xs H Q=>(∃ p ys,xs=[.ref p]/\(SqL X.K H p ys\/SqT X.K H p ys)/\Q (.int ys.length) H)\/∃ z,xs=[.str z]/\z.length<=sizeLine/\Q (.int z.length) H):=by
 intro xs d hd J H G us Q hG ru k;unfold kLen at hd
 split at hd
 ·cases hd;obtain⟨v,rfl,q⟩:=jju ru;obtain⟨a,ys,rfl,q1,q2⟩:=rep_lst.mp q;exact .inl ⟨a,ys,rfl,.inl (jem jao q1),k _ H (Same.refl H) (rep_int.mpr (by rw[q2.length]))⟩
 ·cases hd;obtain⟨v,rfl,q⟩:=jju ru;obtain⟨a,ys,rfl,q1,q2⟩:=rep_tup.mp q;exact .inl ⟨a,ys,rfl,.inr (jde jao q1),k _ H (Same.refl H) (rep_int.mpr (by rw[q2.length]))⟩
 ·split at hd
  ·rename_i z hz;cases hd;obtain⟨v,rfl,q⟩:=jju ru;cases rep_str.mp q;exact .inr ⟨z,rfl,hz,k _ H (Same.refl H) (rep_int.mpr rfl)⟩
  ·cases hd
 ·cases hd
def kTuple:List D->Option D
 | [.lst ds]=>some (.tup ds)
 | [.tup ds]=>some (.tup ds)
 | _=>none
def jeb:CaD X.K kTuple (fun xs H Q=>∃ p ys,xs=[.ref p]/\((SqL X.K H p ys/\∀ l,H l=none->Q (.ref l) (upd H l (.tup ys)))\/(SqT X.K H p ys/\Q (.ref p) H))):=by
 intro xs d hd J H G us Q hG ru k;unfold kTuple at hd
 split at hd
 ·cases hd;obtain⟨v,rfl,q⟩:=jju ru;obtain⟨a,ys,rfl,q1,q2⟩:=rep_lst.mp q;exact⟨a,ys,rfl,.inl ⟨jem jao q1,fun l hl=>k _ _ (ja7 hl) (jc7 hl (hG l hl) q2)⟩⟩
 ·cases hd;obtain⟨v,rfl,q⟩:=jju ru;obtain⟨a,ys,rfl,q1,q2⟩:=rep_tup.mp q;exact⟨a,ys,rfl,.inr ⟨jde jao q1,k _ H (Same.refl H) q⟩⟩
 ·cases hd
def kList:List D->Option D
 | [.lst ds]=>some (.lst ds)
 | [.tup ds]=>some (.lst ds)
 | _=>none
def jxy:CaD X.K kList (fun xs H Q=>∃ p ys,xs=[.ref p]/\(SqL X.K H p ys\/SqT X.K H p ys)/\∀ l,H l=none->Q (.ref l) (upd H l (.lst ys))):=by
 intro xs d hd J H G us Q hG ru k;unfold kList at hd
 split at hd
 ·cases hd;obtain⟨v,rfl,q⟩:=jju ru;obtain⟨a,ys,rfl,q1,q2⟩:=rep_lst.mp q;exact⟨a,ys,rfl,.inl (jem jao q1),fun l hl=>k _ _ (ja7 hl) (jd1 hl (hG l hl) q2)⟩
 ·cases hd;obtain⟨v,rfl,q⟩:=jju ru;obtain⟨a,ys,rfl,q1,q2⟩:=rep_tup.mp q;exact⟨a,ys,rfl,.inr (jde jao q1),fun l hl=>k _ _ (ja7 hl) (jd1 hl (hG l hl) q2)⟩
 ·cases hd
def kMin:List D->Option D
 | [.int i,.int j]=>some (.int (if j<i then j else i))
 | _=>none
def kInt:List D->Option D
 | [.int i]=>some (.int i)
 | [.bl k]=>some (.int (if k then 1 else 0))
 | _=>none
def isiD(T:String):D->Option Bool
 | .int _=>some (T == "int")
 | .tup _=>some (T == "tuple")
 | _=>none
def kIsi:List D->Option D
 | [d,.ty T]=>if T="int"\/T="bool"\/T="tuple" then (isiD T d).map .bl else none
 | _=>none
end
section
variable {X:Cx}
def rIsi(K:W.Frag):List V->Hp->VK->Prop:=fun xs H Q=>∃ J d v T b,xs=[v,.ty T]/\Rep J K H d v/\kIsi [d,.ty T]=some (.bl b)/\Q (.bl b) H
def jip:CallR X (.builtin "isinstance") (rIsi X.K):=by
 intro U s Z H xs us Q I r h;obtain⟨J,d,v,T,b,rfl,rd,hk,q⟩:=h;obtain⟨u,c,rfl,ru,rc⟩:=r.two;cases rc;have fin:∀ tk,EP X U Z Q (.bool b) { s with toks:=tk }:=fun tk=>⟨.bl b,H,I.tok _,rfl,q⟩
 have hk2:(if T="int"\/T="bool"\/T="tuple" then (isiD T d).map D.bl else none)=some (.bl b):=hk
 clear hk
 by_cases hT:T="int"\/T="bool"\/T="tuple"
 ·rw[if_pos hT] at hk2;have hk:=hk2
  clear hk2
  cases d with
  | ty _=>cases hk
  | obj _=>cases hk
  | non=>cases hk
  | bl x=>cases hk
  | int x =>
   cases rep_int.mp rd;obtain⟨t,rfl⟩:=ru
   rcases hT with rfl|rfl|rfl<;>(cases hk;exact W.kia_one W.kitx_int I.kIn True.intro rfl (fun z=>nomatch z) fin)
  | str x=>cases hk
  | tup x =>
   obtain⟨a,ys,rfl,q1,q2⟩:=rep_tup.mp rd;cases ru;obtain⟨its,_,⟨o,e,hc,_⟩,_⟩:=I.tuple q1;rcases hT with rfl|rfl|rfl<;>(cases hk;exact W.kia_one W.kitx_tuple I.kIn ⟨o,e,hc⟩ rfl (fun z=>nomatch z) fin)
  | lst x=>cases hk
 ·rw[if_neg hT] at hk2;cases hk2
def jmo:CaD X.K kIsi (rIsi X.K):=by
 intro xs d hd J H G us Q hG ru k;have hd0:=hd;unfold kIsi at hd
 split at hd
 ·rename_i d0 T
  split at hd
  ·obtain⟨v,u,rfl,q1,q2⟩:=jJi ru;cases rep_ty.mp q2
   cases e:isiD T d0 with
   | none=>rw[e] at hd;cases hd
   | some b =>
    rw[e] at hd;cases hd;exact⟨J,d0,v,T,b,rfl,q1.mono jao,hd0,k _ H (Same.refl H) (rep_bl.mpr rfl)⟩
  ·cases hd
 ·cases hd
def jms{O:List Nat}{E:XK}{x:Str}{T:String}{pos:Pos}(hg:Gl X x)(hm:X.mg x=none)(hv:bootBuiltins x=some (.type T))(hn:x≠"__name__":=by decide)(hd:(x == ("__debug__":Str))=false:=by decide):DE X O E (.Name x pos) (fC (.ty T)) :=
 jko (t:=tC (.ty T)) (v:=.ty T) (jwa (v:=.ty T) hg hm hv rfl hn hd) fun _ _=>rep_ty.mpr rfl
def jiq{O:List Nat}{E:XK}{x:Str}{i:Int}{t:Tok}{pos:Pos}(hg:Gl X x)(hm:X.mg x=some (.int i t))(hd:(x == ("__debug__":Str))=false:=by decide):DE X O E (.Name x pos) (fC (.int i)) :=
 jko (t:=tC (.int i)) (v:=.int i) (jnq (v:=.int i) hg hm ⟨t,rfl⟩ hd) fun _ _=>rep_int.mpr rfl
end
inductive spD(K:W.Frag)(n:Nat)(m:List D->M D)(vs:List V)(H:Hp)(Q:VK)(E:XK):Prop
 | mk (hn:vs.length=n) (J:Rho) (ds:List D) (r:Except XD D) (F:qe) (hF:∀ b,F b=true->H b≠none) (hr:Reps J K (hid H F) ds vs) (hf:m ds=some r) (k:match (generalizing:=false) r with
  | .ok d=>∀ v H',Same H H'->Rep J K (hid H' F) d v->Q v H'
  | .error x=>okX K H E x)
inductive CalX(P:Program)(w:World)(K:W.Frag)(mg:qa)(base:Heap)(k:Nat)(x:Str)(n:Nat)(sp:Sp):Prop
 | mk (f:Addr) (fd:FuncData) (ps:List Str) (h1:ps.length=n) (h2:mg x=some (.ref f)) (h3:W.keepIn K (.ref f)=true) (h4:Binds K fd ps []) (h5:FnOk P w K mg base CX0 k f fd ps sp)
structure Cal(P:Program)(w:World)(K:W.Frag)(mg:qa)(base:Heap)(k:Nat)(x:Str)(n:Nat)(m:List D->M D):Prop where
 ex:CalX P w K mg base k x n (spD K n m)
 ar:∀ ds r,m ds=some r->ds.length=n
def jcw(K:W.Frag)(mg:qa)(x:Str)(st:Stmt)(ps:List Str):Prop:=∃ f fd,mg x=some (.ref f)/\Fun K x x st f fd/\Binds K fd ps []
def startD(n:Nat)(ds:List D):DSt:=ds.map some++List.replicate (n-ds.length) none
def outD:Out->M D
 | .rt d=>M.p d
 | .nx _=>M.p .non
 | _=>none
def mir(n N:Nat)(g:DSt->M Out):List D->M D:=fun ds=>if ds.length=n then (g (startD N ds)).b outD else none
def jjw{N:Nat}{ds:List D}{i:Nat}{d:D}(h:(startD N ds)[i]? = some (some d)):ds[i]? = some d:=by
 unfold startD at h
 by_cases hi:i<ds.length
 ·rw[List.getElem?_append_left (by simpa using hi),zba] at h
  cases e:ds[i]? with
  | none=>rw[e] at h;cases h
  | some a=>rw[e] at h;cases h;rfl
 ·rw[List.getElem?_append_right (by simpa using hi),List.getElem?_replicate] at h
  split at h<;>cases h
def jli{N:List Str}{vs:List V}{i:Nat}{v:V}(h:vs[i]? = some v):(L2.start N vs)[i]? = some (some v):=by
 unfold L2.start;have hi:i<vs.length:=(zbb.mp h).1;rw[List.getElem?_append_left (by simpa using hi),zba,h];rfl
section
variable {P:Program}{w:World}{K:W.Frag}{mg:qa}{base:Heap}
def fn_D{x:Str}{st:Stmt}{N ps:List Str}{k:Nat}{O':List Nat}{g:DSt->M Out}{f:Addr}{fd:FuncData}(F:Fun K x x st f fd)(S:FnScope N ps (jad st))
  (hbody:∀ (f:Addr) (cdv:Value) (A:Around) (outer:List Env) (s:Shared) (H:Hp) (E:XK),Room k (A.deeper (PyProof.Rows.envOfC x (jad st) s.heap.objs.size f cdv)) ->
   DSs (cxOf CX0 P w K mg base N x (jad st) f cdv A outer s H E).nox [] O' [] E (jar st) g):FnOk P w K mg base CX0 (k+1) f fd ps (spD K ps.length (mir ps.length N.length g)):=by
 refine F.ok S (fun vs H Q E h=>h.1) fun cdv A outer s H vs Q E hr h=>?_
 obtain⟨hl,J,ds,r,F',fin,rp,hmr,k0⟩:=h;refine⟨_,hbody f cdv A outer s H E hr,?_⟩;have hpl:ps.length<=N.length:=by have:=congrArg List.length S.pre;rw[List.length_take] at this;omega
 have hdl:ds.length=ps.length:=by rw[<- rp.length];exact hl
 unfold mir at hmr;rw[if_pos hdl] at hmr;have R:RS J K H H F' [] (L2.start N vs) (startD N.length ds):=by
  refine⟨?_,Same.refl H,fin,fun i d hd _=>?_,fun i hi=>absurd hi (by simp),fun i hi=>absurd hi (by simp)⟩
  ·simp[L2.start,startD,rp.length]
  ·obtain⟨v,e,rv⟩:=rp.get (jjw hd);exact⟨v,jli e,by rw[jgd];exact rv⟩
 rcases M.b_inv hmr with ⟨o,e1,hmr⟩|⟨y,e1,rfl⟩
 ·refine⟨J,H,F',_,.ok o,R,e1,?_⟩
  cases o with
  | rt d=>cases hmr;exact fun v H' s' rv=>k0 v H' s' rv
  | nx Y=>cases hmr;exact fun Z' H' f' R'=>k0 .non H' R'.same (rep_non.mpr rfl)
  | bk Y=>cases hmr
  | ct Y=>cases hmr
 ·exact⟨J,H,F',_,.error y,R,e1,k0⟩
def jdd{x:Str}{st:Stmt}{N ps:List Str}{k:Nat}{O':List Nat}{g:DSt->M Out}(hf:jcw K mg x st ps)(S:FnScope N ps (jad st))
  (hbody:∀ (f:Addr) (cdv:Value) (A:Around) (outer:List Env) (s:Shared) (H:Hp) (E:XK),Room k (A.deeper (PyProof.Rows.envOfC x (jad st) s.heap.objs.size f cdv)) ->
   DSs (cxOf CX0 P w K mg base N x (jad st) f cdv A outer s H E).nox [] O' [] E (jar st) g):Cal P w K mg base (k+1) x ps.length (mir ps.length N.length g):=by
 obtain⟨f,fd,hm,F,hb⟩:=hf;refine⟨⟨f,fd,ps,rfl,hm,F.kp,hb,fn_D F S hbody⟩,fun ds r h=>?_⟩;unfold mir at h
 split at h
 ·assumption
 ·cases h
def jm0{h:Heap}{x:Str}{st:Stmt}{ps:List Str}{f:Addr}{oc:Value}{od an:Option Addr}{osl:qf}{kV doc pm cdv ct:Value}(X:K.In h)(G:h.Ns mainGlobals mg)
  (hb:∀ (kV doc pm:Value) (an:Option Addr) (cdv ct:Value) (us:List Value),us.length=ps.length->bindArgs (W.fnOf x x (jbx st) (jar st) (jad st) .none kV doc pm an cdv ct) ⟨us,[]⟩=pure (ps.zip us))
  (a:W.nsIn K mainGlobals x=some (some (.ref f))) (l:K.lookup f=some ⟨oc,od,.func (W.fnOf x x (jbx st) (jar st) (jad st) .none kV doc pm an cdv ct),osl⟩)
  (c:W.codeIn K cdv x=true) (k:W.keepIn K (.ref f)=true):jcw K mg x st ps:=by
 have F:=jrz (st:=st) l c k;exact⟨f,_,W.mg_of X G a,F,F.binds hb⟩
def jux{st:Stmt}{x:Str}{f:Addr}(hf:jcw K mg "law" st [x])(hm:mg "law"=some (.ref f))
  (hb:∀ (kV doc pm:Value) (an:Option Addr) (cdv ct:Value) (s:Shared) (u:Value),BindsTo s (W.fnOf "law" "law" (jbx st) (jar st) (jad st) .none kV doc pm an cdv ct) ⟨[u],[]⟩ [(x,u)]) :
  ∃ fd,Fun K "law" "law" st f fd/\∀ (s:Shared) (u:Value),BindsTo s fd ⟨[u],[]⟩ [(x,u)]:=by
 obtain⟨f',fd,hm',F,_⟩:=hf;rw[hm] at hm';cases hm';refine⟨fd,F,fun s u=>?_⟩;obtain⟨oc,od,kV,doc,pm,an,cdv,ct,osl,rfl,lk,hcd⟩:=F.ex;exact hb kV doc pm an cdv ct s u
end
def jbg(m:List D->M D)(fl:DSt->M (List D)):DSt->M D:=fun Y=>(fl Y).b m
section
variable {X:Cx}{O:List Nat}{E:XK}{e:Expr}{es:List Expr}{fl:DSt->M (List D)}{pos p:Pos}{x:Str}{k n:Nat}{m:List D->M D}
def ja0(C:Cal X.prog X.w X.K X.mg X.base k x n m)(hr:Room k X.A)(ha:DA X O E (e::es) fl)(hg:Gl X x:=by rfl)(hdb:(x == ("__debug__":Str))=false:=by decide)(he:zsE e es X.env:=by rfl)
  (hpl:zbT pos es X.env:=by rfl):DE X O E (.Call (.Name x p) (e::es) [] pos) (jbg m fl):=by
 obtain⟨f,fd,ps,hl,hm,hk,hb,F⟩:=C.ex;rintro U s Z H Q I ⟨J,Hz,G,Y,r,R,hf,h⟩;refine jno F hr hg hm hk hb .nil (fun _ _ _ _ _ _ _ z=>z.elim) ha hdb he hpl U s Z H Q I (E:=E) ?_;rcases M.b_inv hf with ⟨ds,e1,hf⟩|⟨y,e1,rfl⟩
 ·refine⟨J,Hz,G,Y,.ok ds,R,e1,fun vs H1 s1 r1=>?_⟩;show spD X.K n m (vs++[]) H1 Q E;rw[List.append_nil];refine⟨by rw[r1.length];exact C.ar ds r hf,J,ds,r,fob G Z O,fun b hb z=>?_,r1,hf,?_⟩
  ·rw[(R.mono s1).fresh z] at hb;cases hb
  ·cases r with
   | ok d=>exact fun v H' s' rv=>h v H' (s1.trans s') rv
   | error y=>exact fun c dx H' s' xr=>h c dx H' (R.same.trans (s1.trans s')) xr
 ·exact⟨J,Hz,G,Y,.error y,R,e1,h⟩
end
def hu30{A:Around}{k:Nat}(hr:Room k A):A.units+30<cLine:=Nat.lt_of_le_of_lt (Nat.add_le_add_left (by decide:30<=64) _) hr.units
def jdc:bootBuiltins "len"=some (.builtin "len"):=by decide +kernel
def jc8:bootBuiltins "isinstance"=some (.builtin "isinstance"):=by decide +kernel
def jd5:bootBuiltins "tuple"=some (.type "tuple"):=by decide +kernel
def jBu:bootBuiltins "list"=some (.type "list"):=by decide +kernel
def jio:bootBuiltins "int"=some (.type "int"):=by decide +kernel
def jE2:bootBuiltins "str"=some (.type "str"):=by decide +kernel
def jBt:bootBuiltins "bool"=some (.type "bool"):=by decide +kernel
def jE0:bootBuiltins "all"=some (.builtin "all"):=by decide +kernel
def gCat:D->D->Option D
 | .int i,.int j=>some (.int (i+j))
 | .str x,.str y=>if x.length+y.length<=sizeLine then some (.str (x++y)) else none
 | .lst xs,.lst ys=>if xs.length+ys.length<=sizeLine then some (.lst (xs++ys)) else none
 | .tup xs,.tup ys=>if xs.length+ys.length<=sizeLine/\xs≠[]/\ys≠[] then some (.tup (xs++ys)) else none
 | _,_=>none
def jDw(K:W.Frag):R2:=fun x y H Q=>∃ l b xs zs,x=.ref l/\y=.ref b/\SqL K H l xs/\SqL K H b zs/\xs.length+zs.length<=sizeLine/\∀ p,H p=none->Q (.ref p) (upd H p (.lst (xs++zs)))
section
variable {X:Cx}{O O':List Nat}{E:XK}{b e:Expr}{es:List Expr}{fa fb:DSt->M D}{fl:DSt->M (List D)}{pos:Pos}
def op_catQ:OpR X (binaryOp .Add) (jDw X.K):=by
 intro U s Z H x y v u Q I rx ry h;obtain⟨l,b,xs,zs,rfl,rfl,hH,hB,hz,q⟩:=h;cases rx;cases ry;obtain⟨its,r,⟨⟨cls,dd,data,sl⟩,n,ho,hc,_,hd⟩,_⟩:=I.list hH;obtain⟨its2,r2,⟨⟨cls2,dd2,data2,sl2⟩,n2,ho2,hc2,_,hd2⟩,_⟩:=I.list hB;simp only at hc hd hc2 hd2;subst hc hd hc2 hd2;have l1:=r.length;have l2:=r2.length;have ea:its.toArray++its2.toArray=(its++its2).toArray:=by simp
 refine concat_meets ⟨_,ho,rfl⟩ ⟨_,ho2,rfl⟩ noFill_list_add seq_list_add PySem.F.slot_list_add PySem.F.entry_list_add (PySem.F.args_list_add_2 _ _) (PyProof.Rows.list_addW l b its.toArray its2.toArray n n2 dd dd2 sl sl2 (by simp only[zbx];omega)) ⟨ho,ho2,?_⟩;rw[ea];exact⟨.ref _,_,I.lnew (t':=s.toks) (r.append r2) (by rw[zcb];omega),rfl,q _ I.fresh⟩
def jbr:OpR X (binaryOp .Add) (fun x y H Q=>(rI0 (fun i j=>.int (i+j)) x y H Q\/∃ i j,x=.str i/\y=.str j/\i.length+j.length<=sizeLine/\Q (.str (i++j)) H)\/jDw X.K x y H Q\/jwr X.K x y H Q):=op_addD.or (op_catQ.or jv2)
def jbs:OpD X.K gCat (fun x y H Q=>(rI0 (fun i j=>.int (i+j)) x y H Q\/∃ i j,x=.str i/\y=.str j/\i.length+j.length<=sizeLine/\Q (.str (i++j)) H)\/jDw X.K x y H Q\/jwr X.K x y H Q):=by
 intro x y d hd J H G u v Q hG ru rv k;unfold gCat at hd
 split at hd
 ·cases hd;exact .inl (.inl ⟨_,_,rep_int.mp ru,rep_int.mp rv,k _ H (Same.refl H) (rep_int.mpr rfl)⟩)
 ·split at hd
  ·rename_i hz;cases hd;exact .inl (.inr ⟨_,_,rep_str.mp ru,rep_str.mp rv,hz,k _ H (Same.refl H) (rep_str.mpr rfl)⟩)
  ·cases hd
 ·split at hd
  ·rename_i hz;cases hd;obtain⟨l,xs,rfl,q1,q2⟩:=rep_lst.mp ru;obtain⟨m,ys,rfl,p1,p2⟩:=rep_lst.mp rv;exact .inr (.inl ⟨l,m,xs,ys,rfl,rfl,jem jao q1,jem jao p1,by rw[q2.length,p2.length];exact hz,fun p hp=>k _ _ (ja7 hp) (jd1 hp (hG p hp) (q2.append p2))⟩)
  ·cases hd
 ·split at hd
  ·rename_i hz;cases hd;obtain⟨l,xs,rfl,q1,q2⟩:=rep_tup.mp ru;obtain⟨m,ys,rfl,p1,p2⟩:=rep_tup.mp rv;have n1:xs≠[]:=fun z=>by have:=q2.length;rw[z] at this;exact hz.2.1 (List.length_eq_zero_iff.mp this.symm)
   have n2:ys≠[]:=fun z=>by have:=p2.length;rw[z] at this;exact hz.2.2 (List.length_eq_zero_iff.mp this.symm)
   exact .inr (.inr ⟨l,m,xs,ys,rfl,rfl,jde jao q1,jde jao p1,n1,by rw[q2.length,p2.length];exact hz.1,fun z=>absurd z n2,fun _ p hp=>k _ _ (ja7 hp) (jc7 hp (hG p hp) (q2.append p2))⟩)
  ·cases hd
 ·cases hd
def fRep(fl:DSt->M (List D))(fb:DSt->M D):DSt->M D:=fun Y=>(fl Y).b fun xs=>if xs.length<=sizeLine then (fb Y).b fun y=>match y with
  | .int k=>if -(2 ^ 63)<=k/\k<2 ^ 63/\xs.length*k.toNat<=sizeLine then M.p (.lst (List.replicate k.toNat xs).flatten) else none
  | _=>none
 else none
theorem Reps.rep{J:Rho}{K:W.Frag}{H:Hp}{ds:List D}{vs:List V}(h:Reps J K H ds vs):∀ k:Nat,Reps J K H (List.replicate k ds).flatten (List.replicate k vs).flatten
 | 0=>Reps.nil
 | k+1=>by rw[List.replicate_succ,List.flatten_cons,List.replicate_succ,List.flatten_cons];exact h.append (Reps.rep h k)
def jp7{p2:Pos}(hl:DA X O E es fl)(hb:DE X O E b fb):DE X O E (.BinOp (.List es p2) .Mult b pos) (fRep fl fb):=by
 rintro U s Z H Q I ⟨J,Hz,F,Y,rr,R,hf,k⟩;refine jGn jGg (jph hl) hb U s Z H Q I ?_;rcases M.b_inv hf with ⟨xs,e1,hf⟩|⟨x,e1,rfl⟩
 ·refine⟨J,Hz,F,Y,.ok xs,R,e1,fun us H1 s1 r1=>?_⟩
  split at hf
  ·rename_i hz0;refine⟨by rw[r1.length];exact hz0,fun p hp=>?_⟩;have s2:Same H1 (upd H1 p (.lst us)):=ja7 hp;rcases M.b_inv hf with ⟨y,e2,hf⟩|⟨y,e2,rfl⟩
   ·cases y with
    | int n =>
     dsimp only at hf
     split at hf
     ·rename_i hz;cases hf;refine⟨J,Hz,F,Y,.ok (.int n),R.mono (s1.trans s2),e2,fun w H2 s3 r2=>?_⟩;cases rep_int.mp r2;refine⟨p,n,us,rfl,rfl,s3 _ _ jam,hz.1,hz.2.1,by rw[r1.length];exact hz.2.2,fun q hq=>?_⟩;have R2:=R.mono (s1.trans (s2.trans s3));exact k _ _ (s1.trans (s2.trans (s3.trans (ja7 hq)))) (jd1 hq (R2.fresh hq) ((r1.mono (jaq (s2.trans s3))).rep n.toNat))
     ·cases hf
    | _=>cases hf
   ·exact⟨J,Hz,F,Y,.error y,R.mono (s1.trans s2),e2,k⟩
  ·cases hf
 ·exact⟨J,Hz,F,Y,.error x,R,e1,k⟩
inductive tOD(K:W.Frag)(O:List Nat)(E:XK)(f:DSt->M (Option Int))(Z:St)(H:Hp)(Q:Option Int->Hp->Prop):Prop
 | mk (J:Rho) (Hz:Hp) (F:qe) (Y:DSt) (r:Except XD (Option Int)) (R:RS J K Hz H F O Z Y) (hf:f Y=some r) (k:match (generalizing:=false) r with
  | .ok o=>∀ H',Same H H'->Q o H'
  | .error x=>okX K Hz E x)
def DO(X:Cx)(O:List Nat)(E:XK)(e:Option Expr)(f:DSt->M (Option Int)):Prop:=PO X e (tOD X.K O E f)
def jjq:DSt->M (Option Int):=fun _=>M.p none
def intD:D->Option (Option Int)
 | .int i=>some (some i)
 | _=>none
def jcc(f:DSt->M D):DSt->M (Option Int):=fun Y=>(f Y).b fun d=>M.o (intD d)
def jkp:DO X O E none jjq:=by
 rintro U s Z H Q I ⟨J,Hz,F,Y,r,R,hf,k⟩;cases hf;exact jDm U s Z H Q I (k H (Same.refl H))
def jdy(h:DE X O E e fa):DO X O E (some e) (jcc fa):=by
 rintro U s Z H Q I ⟨J,Hz,F,Y,r,R,hf,k⟩;refine jDn h U s Z H Q I ?_;rcases M.b_inv hf with ⟨x,e1,hf⟩|⟨x,e1,rfl⟩
 ·refine⟨J,Hz,F,Y,.ok x,R,e1,fun v H1 s1 r1=>?_⟩;obtain⟨o,ho,rfl⟩:=M.o_inv hf
  cases x with
  | int i=>cases ho;exact⟨i,rep_int.mp r1,k H1 s1⟩
  | _=>cases ho
 ·exact⟨J,Hz,F,Y,.error x,R,e1,k⟩
def cutL{α:Type}(xs:List α)(lo hi:Option Int):List α:=(xs.drop (HT.sIx xs.length 0 lo)).take (HT.sIx xs.length xs.length hi-HT.sIx xs.length 0 lo)
def cutD:D->Option Int->Option Int->Option D
 | .lst ds,lo,hi=>some (.lst (cutL ds lo hi))
 | .tup ds,lo,hi=>if HT.sIx ds.length 0 lo=0/\HT.sIx ds.length ds.length hi=ds.length then none else some (.tup (cutL ds lo hi))
 | .str x,lo,hi=>if x.length<=sizeLine then some (.str (Txt.slice x lo hi)) else none
 | _,_,_=>none
def rSlS:V->Option Int->Option Int->Hp->VK->Prop:=fun x lo hi H Q=>∃ z,x=.str z/\z.length<=sizeLine/\Q (.str (Txt.slice z lo hi)) H
def jHe:SlR X rSlS:=by
 intro U s Z H x v vl vu lo hi sl Q I rx hs pl pu h;obtain⟨z,rfl,hz,q⟩:=h;obtain⟨t,rfl⟩:=rx;have fin:∀ {l u:Option (Int×Tok)},l.map (·.1)=lo->u.map (·.1)=hi->s.heap.IsSlice sl l u none->wpAny (model X.prog X.w) X.A (getItem (.str z t) (.ref sl)) (EP X U Z Q) X.xe s:=fun {l u} e1 e2 h=>by
  refine wpAny_getItem_str_slice (l:=l) (u:=u) (st:=none) h rfl ?_;have hw:∀ t' k,EP X U Z Q (.str (Txt.slice z lo hi) t') { s with toks:=k }:=fun t' k=>⟨.str (Txt.slice z lo hi),H,I.tok _,⟨_,rfl⟩,q⟩
  rw[<- e1,<- e2] at hw;exact post_val_or_str ⟨zdy (Txt.slice_le z _ _) hz,hw⟩
 obtain⟨os,ho,hc,hd⟩:=hs;refine⟨"str",_,PySem.F.slot_str_getitem.lookup,typeIs_str _ _ _,?_⟩
 cases pl with
 | none=>cases pu with
  | none=>exact fin (l:=none) (u:=none) rfl rfl ⟨os,ho,hc,hd⟩
  | int j tj=>exact fin (l:=none) (u:=some (j,tj)) rfl rfl ⟨os,ho,hc,hd⟩
 | int i ti=>cases pu with
  | none=>exact fin (l:=some (i,ti)) (u:=none) rfl rfl ⟨os,ho,hc,hd⟩
  | int j tj=>exact fin (l:=some (i,ti)) (u:=some (j,tj)) rfl rfl ⟨os,ho,hc,hd⟩
theorem Reps.take{J:Rho}{K:W.Frag}{H:Hp}:∀ {ds:List D} {vs:List V} (n:Nat),Reps J K H ds vs->Reps J K H (ds.take n) (vs.take n)
 | _,_,0,_=>by simp;exact Reps.nil
 | [],_,n+1,h=>by rw[reps_nil.mp h];exact Reps.nil
 | d::ds,_,n+1,h=>by
  obtain⟨v,r,rfl,q,t⟩:=reps_cons.mp h;exact Reps.cons q (Reps.take n t)
theorem Reps.drop{J:Rho}{K:W.Frag}{H:Hp}:∀ {ds:List D} {vs:List V} (n:Nat),Reps J K H ds vs->Reps J K H (ds.drop n) (vs.drop n)
 | _,_,0,h=>h
 | [],_,n+1,h=>by rw[reps_nil.mp h];exact Reps.nil
 | d::ds,_,n+1,h=>by
  obtain⟨v,r,rfl,q,t⟩:=reps_cons.mp h;exact Reps.drop n t
def Reps.cut{J:Rho}{K:W.Frag}{H:Hp}{ds:List D}{vs:List V}(h:Reps J K H ds vs)(lo hi:Option Int):Reps J K H (cutL ds lo hi) (cutV vs lo hi):=by
 unfold cutL cutV;rw[h.length];exact (h.drop _).take _
def fSl(fa:DSt->M D)(fl fh:DSt->M (Option Int)):DSt->M D:=fun Y=>(fa Y).b fun x=>(fl Y).b fun lo=>(fh Y).b fun hi=>M.o (cutD x lo hi)
def jeq{lo hi:Option Expr}{fl fh:DSt->M (Option Int)}{p2:Pos}(ha:DE X O E e fa)(hl:DO X O E lo fl)(hh:DO X O E hi fh):DE X O E (.Subscript e (.Slice lo hi none p2) pos) (fSl fa fl fh):=by
 rintro U s Z H Q I ⟨J,Hz,F,Y,r,R,hf,k⟩;refine jza (sl_list.or (sl_tup.or jHe)) ha hl hh U s Z H Q I ?_;rcases M.b_inv hf with ⟨x,e1,hf⟩|⟨x,e1,rfl⟩
 ·refine⟨J,Hz,F,Y,.ok x,R,e1,fun v H1 s1 r1=>?_⟩;rcases M.b_inv hf with ⟨l,e2,hf⟩|⟨y,e2,rfl⟩
  ·refine⟨J,Hz,F,Y,.ok l,R.mono s1,e2,fun H2 s2=>?_⟩;rcases M.b_inv hf with ⟨h,e3,hf⟩|⟨y,e3,rfl⟩
   ·refine⟨J,Hz,F,Y,.ok h,R.mono (s1.trans s2),e3,fun H3 s3=>?_⟩;obtain⟨d,hd,rfl⟩:=M.o_inv hf;have r3:=r1.mono (jaq (s2.trans s3));have R3:=R.mono (s1.trans (s2.trans s3));have sm:=s1.trans (s2.trans s3)
    cases x with
    | lst ds =>
     cases hd;obtain⟨q,xs,rfl,q2,q3⟩:=rep_lst.mp r3;exact .inl ⟨q,xs,rfl,jem jao q2,fun p hp=>k _ _ (sm.trans (ja7 hp)) (jd1 hp (R3.fresh hp) (q3.cut l h))⟩
    | tup ds =>
     have hd':(if HT.sIx ds.length 0 l=0/\HT.sIx ds.length ds.length h=ds.length then none else some (D.tup (cutL ds l h)))=some d:=hd
     split at hd'
     ·cases hd'
     ·rename_i hn;cases hd';obtain⟨q,xs,rfl,q2,q3⟩:=rep_tup.mp r3;exact .inr (.inl ⟨q,xs,rfl,jde jao q2,by rw[q3.length];exact hn,fun p hp=>k _ _ (sm.trans (ja7 hp)) (jc7 hp (R3.fresh hp) (q3.cut l h))⟩)
    | str z =>
     have hd':(if z.length<=sizeLine then some (D.str (Txt.slice z l h)) else none)=some d:=hd
     split at hd'
     ·rename_i hz;cases hd';exact .inr (.inr ⟨z,rep_str.mp r3,hz,k _ _ sm (rep_str.mpr rfl)⟩)
     ·cases hd'
    | _=>cases hd
   ·exact⟨J,Hz,F,Y,.error y,R.mono (s1.trans s2),e3,k⟩
  ·exact⟨J,Hz,F,Y,.error y,R.mono s1,e2,k⟩
 ·exact⟨J,Hz,F,Y,.error x,R,e1,k⟩
def jiv:D->Bool
 | .non=>true
 | .bl _=>true
 | .int _=>true
 | .str _=>true
 | _=>false
def inD(x:D)(ds:List D):Bool:=ds.any fun y=>eqB y x
def gIn:D->D->Option D:=fun x y=>match seqD y with
 | some ds=>if (jiv x&&ds.all jiv)=true then some (.bl (inD x ds)) else none
 | none=>none
def je3:D->D->Option D:=fun x y=>match seqD y with
 | some ds=>if (jiv x&&ds.all jiv)=true then some (.bl !(inD x ds)) else none
 | none=>none
def jmx{J:Rho}{K:W.Frag}{H:Hp}{d:D}{v:V}(h:jiv d=true)(r:Rep J K H d v):jlu v=true:=by
 cases d with
 | non=>cases rep_non.mp r;rfl
 | bl _=>cases rep_bl.mp r;rfl
 | int _=>cases rep_int.mp r;rfl
 | str _=>cases rep_str.mp r;rfl
 | _=>cases h
def jCb{J:Rho}{K:W.Frag}{H:Hp}{d e:D}{v u:V}(h:jiv d=true)(h2:jiv e=true)(r:Rep J K H d v)(r2:Rep J K H e u):eqV v u=eqB d e:=by
 cases d with
 | non=>cases rep_non.mp r;(cases e with
  | non=>cases rep_non.mp r2;unfold eqB;rfl
  | bl _=>cases rep_bl.mp r2;unfold eqB;rfl
  | int _=>cases rep_int.mp r2;unfold eqB;rfl
  | str _=>cases rep_str.mp r2;unfold eqB;rfl
  | _=>cases h2)
 | bl _=>cases rep_bl.mp r;(cases e with
  | non=>cases rep_non.mp r2;unfold eqB;rfl
  | bl _=>cases rep_bl.mp r2;unfold eqB;rfl
  | int _=>cases rep_int.mp r2;unfold eqB;rfl
  | str _=>cases rep_str.mp r2;unfold eqB;rfl
  | _=>cases h2)
 | int _=>cases rep_int.mp r;(cases e with
  | non=>cases rep_non.mp r2;unfold eqB;rfl
  | bl _=>cases rep_bl.mp r2;unfold eqB;rfl
  | int _=>cases rep_int.mp r2;unfold eqB;rfl
  | str _=>cases rep_str.mp r2;unfold eqB;rfl
  | _=>cases h2)
 | str _=>cases rep_str.mp r;(cases e with
  | non=>cases rep_non.mp r2;unfold eqB;rfl
  | bl _=>cases rep_bl.mp r2;unfold eqB;rfl
  | int _=>cases rep_int.mp r2;unfold eqB;rfl
  | str _=>cases rep_str.mp r2;unfold eqB;rfl
  | _=>cases h2)
 | _=>cases h
theorem ju2{J:Rho}{K:W.Frag}{H:Hp}{x:D}{v:V}(hx:jiv x=true)(rx:Rep J K H x v):∀ {ds:List D} {vs:List V},ds.all jiv=true->Reps J K H ds vs->vs.all jlu=true/\inV v vs=inD x ds
 | [],_,_,h=>by rw[reps_nil.mp h];exact⟨rfl,rfl⟩
 | d::ds,_,ha,h=>by
  obtain⟨u,r,rfl,q,t⟩:=reps_cons.mp h;rw[List.all_cons,Bool.and_eq_true] at ha;obtain⟨i1,i2⟩:=ju2 hx rx ha.2 t;refine⟨by rw[List.all_cons,jmx ha.1 q,i1];rfl,?_⟩;unfold inV inD at i2 |-
  rw[List.any_cons,List.any_cons,jCb ha.1 hx q rx,i2]
def jpg:OpD X.K gIn (rIn X.K false):=by
 intro x y d hd J H G u v Q hG ru rv k;unfold gIn at hd
 split at hd
 ·rename_i ds hs
  split at hd
  ·rename_i hz;cases hd;rw[Bool.and_eq_true] at hz;obtain⟨kk,l,xs,rfl,q1,q2⟩:=jss hs rv;obtain⟨i1,i2⟩:=ju2 hz.1 ru hz.2 q2;refine⟨l,xs,rfl,?_,jmx hz.1 ru,i1,k _ H (Same.refl H) (rep_bl.mpr (by rw[i2];rfl))⟩
   cases kk with
   | true=>exact .inr (jde jao (sqv_t.mp q1))
   | false=>exact .inl (jem jao (sqv_l.mp q1))
  ·cases hd
 ·cases hd
def ji8:OpD X.K je3 (rIn X.K true):=by
 intro x y d hd J H G u v Q hG ru rv k;unfold je3 at hd
 split at hd
 ·rename_i ds hs
  split at hd
  ·rename_i hz;cases hd;rw[Bool.and_eq_true] at hz;obtain⟨kk,l,xs,rfl,q1,q2⟩:=jss hs rv;obtain⟨i1,i2⟩:=ju2 hz.1 ru hz.2 q2;refine⟨l,xs,rfl,?_,jmx hz.1 ru,i1,k _ H (Same.refl H) (rep_bl.mpr (by rw[i2];rfl))⟩
   cases kk with
   | true=>exact .inr (jde jao (sqv_t.mp q1))
   | false=>exact .inl (jem jao (sqv_l.mp q1))
  ·cases hd
 ·cases hd
def scalD:D->Bool
 | .non=>true
 | .bl _=>true
 | .int _=>true
 | .str _=>true
 | .ty _=>true
 | .obj _=>true
 | _=>false
def jqc(f:DSt->M D):DSt->M D:=fun Y=>(f Y).b fun d=>if scalD d=true then M.p d else none
def jny{J:Rho}{K:W.Frag}{H H':Hp}{d:D}{v:V}(h:scalD d=true)(r:Rep J K H d v):Rep J K H' d v:=by
 cases d with
 | non=>exact rep_non.mpr (rep_non.mp r)
 | bl _=>exact rep_bl.mpr (rep_bl.mp r)
 | int _=>exact rep_int.mpr (rep_int.mp r)
 | str _=>exact rep_str.mpr (rep_str.mp r)
 | ty _=>exact rep_ty.mpr (rep_ty.mp r)
 | obj _=>exact rep_obj.mpr (rep_obj.mp r)
 | _=>cases h
def jkr{t:DSt->M Bool}(hO:∀ i∈O',i∈O)(h:DT X O' E e t):DT X O E e t:=by
 rintro U s Z H Q I ⟨J,Hz,F,Y,r,R,hf,k⟩;refine h U s Z H Q I ⟨J,Hz,F,Y,r,R.thaw hO,hf,?_⟩
 cases r with
 | ok d=>exact k
 | error x=>exact k
def jB0(hO:∀ i∈O',i∈O)(h:DE X O' E e fa):DE X O E e (jqc fa):=by
 rintro U s Z H Q I ⟨J,Hz,F,Y,r,R,hf,k⟩;rcases M.b_inv hf with ⟨x,e1,hf⟩|⟨x,e1,rfl⟩
 ·refine h U s Z H Q I ⟨J,Hz,F,Y,.ok x,R.thaw hO,e1,fun v H' s' rv=>?_⟩
  split at hf
  ·rename_i hs;cases hf;exact k v H' s' (jny hs rv)
  ·cases hf
 ·exact h U s Z H Q I ⟨J,Hz,F,Y,.error x,R.thaw hO,e1,k⟩
def gAug(i:Nat)(g:D->D->Option D)(f:DSt->M D):DSt->M Out:=fun Y=>(M.o (Y[i]?).join).b fun x=>(f Y).b fun y=>(M.o (g x y)).b fun d=>M.p (.nx (Y.set i (some d)))
end
section
variable {X:Cx}{O B:List Nat}{E:XK}{a b e o:Expr}{fa fo fe:DSt->M D}{pos:Pos}
def juq{i:Nat}{x:Str}{pos':Pos}{op:Operator}{g:D->D->Option D}{r:R2}(hN:X.N.Nodup)(hop:OpR X (inplaceOp op) r)(hg:OpD X.K g r)(he:DE X O E e fa)(ho:O.contains i=false:=by rfl)(hi:X.N[i]? = some x:=by rfl)(hx:Loc X.env.scope x:=by first|exact Or.inl rfl|exact Or.inr rfl)
  (hf:X.fn x=true\/X.env.scope.names.lookup x=some .local:=by first|exact .inl rfl|exact .inr rfl|assumption):DS X O O B E (.AugAssign (.Name x pos') op e pos) (gAug i g fa):=by
 rintro U s Z H Dn I ⟨J,Hz,F,Y,rr,R,hgg,k⟩;have ho':i∉O:=fun z=>by rw[zbc.mpr z] at ho;cases ho
 refine jGu (ti:=r) hN hi hx he (fun U s Z H x y v u Q I rx ry q=>hop U s Z H x y v u Q I rx ry q) hf U s Z H Dn I ?_;rcases M.b_inv hgg with ⟨x0,e0,hgg⟩|⟨y,e0,rfl⟩
 ·obtain⟨x1,hx1,ee⟩:=M.o_inv e0;cases ee;obtain⟨v,q1,q2⟩:=R.val i x0 (join_some hx1) ho';refine⟨v,q1,?_⟩;rcases M.b_inv hgg with ⟨y,e1,hgg⟩|⟨y,e1,rfl⟩
  ·refine⟨J,Hz,F,Y,.ok y,R,e1,fun u H1 s1 r1=>?_⟩;rcases M.b_inv hgg with ⟨d,e2,hgg⟩|⟨z,e2,rfl⟩
   ·cases hgg;obtain⟨d1,hd1,ee⟩:=M.o_inv e2;cases ee;have R1:=R.mono s1;exact hg x0 y d hd1 J H1 _ v u _ (fun p hp=>R1.fresh hp) (q2.mono (jaq s1)) r1 fun w H2 s2 r2=>k _ H2 (jsq ho' (s1.trans s2)) ((R.mono (s1.trans s2)).set ho' r2)
   ·obtain⟨_,_,ee⟩:=M.o_inv e2;cases ee
  ·exact⟨J,Hz,F,Y,.error y,R,e1,k⟩
 ·obtain⟨_,_,ee⟩:=M.o_inv e0;cases ee
def gAsg(h:D->DSt->Option DSt)(f:DSt->M D):DSt->M Out:=fun Y=>(f Y).b fun d=>match h d Y with
 | some Y'=>M.p (.nx Y')
 | none=>none
def jE8{tg:Expr}{h:D->DSt->Option DSt}(he:DE X O E e fa)(hg:DG X O tg h)(hs:swapsWithSole [tg] e pos.line X.env=pure false:=by rfl)(hw:swappedStores [tg] e X.env=pure none:=by rfl)
  (h1:(assignEach [tg] X.env).map (·.2)=[assign tg X.env]:=by rfl):DS X O O B E (.Assign [tg] e pos) (gAsg h fa):=by
 rintro U s Z H Dn I ⟨J,Hz,F,Y,r,R,hgg,k⟩;refine jAw he hg hs hw h1 U s Z H Dn I ?_;rcases M.b_inv hgg with ⟨d,e1,hgg⟩|⟨y,e1,rfl⟩
 ·refine⟨J,Hz,F,Y,.ok d,R,e1,fun v H1 s1 r1=>?_⟩
  cases e2:h d Y with
  | none=>rw[e2] at hgg;cases hgg
  | some Y' =>
   rw[e2] at hgg;cases hgg;exact⟨J,Hz,F,Y,d,Y',R.mono s1,r1,e2,fun Z' ef R'=>k Z' H1 (by rw[ef];exact jaq s1) R'⟩
 ·exact⟨J,Hz,F,Y,.error y,R,e1,k⟩
def jIz(i j l:Nat):D->DSt->Option DSt:=fun d Y=>match d with
 | .tup [x,y,z]=>some (((Y.set i (some x)).set j (some y)).set l (some z))
 | _=>none
def SmR(X:Cx)(name:Str)(r:Str->V->Hp->VK->Prop):Prop:=∀ (U:qc) (s:Shared) (Z:St) (x:Str) (t:Tok) (pos:Pos) (a:Sem Value) (Q:VK),
 wpAny (model X.prog X.w) X.A a (fun v s₁=>∃ y H1,Inv X U Z H1 s₁/\RelV y v/\r x y H1 Q) X.xe s->MethodOnS X.prog X.w X.A X.xe name (.str x t) pos [(false,a)] (EP X U Z Q) s
def SmD(K:W.Frag)(g:Str->D->Option D)(r:Str->V->Hp->VK->Prop):Prop:=∀ x y d,g x y=some d->∀ (J:Rho) (H:Hp) (G:qe) v (Q:VK),(∀ p,H p=none->G p=false)->Rep J K (hid H G) y v->(∀ w H',Same H H'->Rep J K (hid H' G) d w->Q w H')->r x v H Q
def fSm(g:Str->D->Option D)(fo fe:DSt->M D):DSt->M D:=fun Y=>(fo Y).b fun x=>match x with
 | .str z=>(fe Y).b fun y=>M.o (g z y)
 | _=>none
def jIq{name:Str}{g:Str->D->Option D}{r:Str->V->Hp->VK->Prop}{apos:Pos}(hr:SmR X name r)(hg:SmD X.K g r)(ho:DE X O E o fo)(he:DE X O E e fe)(hbase:attributeBase o name X.env (eval o X.env)=eval o X.env:=by rfl)(hs:starEach [e] X.env=[(false,eval e X.env)]:=by rfl)(hline:(apos.endLine == pos.line)=true:=by rfl) :
  DE X O E (.Call (.Attribute o name apos) [e] [] pos) (fSm g fo fe):=by
 rintro U s Z H Q I ⟨J,Hz,F,Y,rr,R,hf,k⟩;refine Call_method1 hbase hs hline (thn (ho U s Z H (fun v H1=>∃ z,v=.str z/\tD X.K O E fe Z H1 fun y H2=>r z y H2 Q) I ?_) fun u s1 ⟨v,H1,I1,rv,z,hz,q⟩=>?_)
 ·rcases M.b_inv hf with ⟨x,e1,hf⟩|⟨x,e1,rfl⟩
  ·refine⟨J,Hz,F,Y,.ok x,R,e1,fun u H1 s1 r1=>?_⟩
   cases x with
   | str z =>
    refine⟨z,rep_str.mp r1,?_⟩;rcases M.b_inv hf with ⟨y,e2,hf⟩|⟨y,e2,rfl⟩
    ·refine⟨J,Hz,F,Y,.ok y,R.mono s1,e2,fun v H2 s2 r2=>?_⟩;obtain⟨d,hd,rfl⟩:=M.o_inv hf;exact hg z y d hd J H2 _ v Q (fun p hp=>(R.mono (s1.trans s2)).fresh hp) r2 fun w H3 s3 r3=>k w H3 (s1.trans (s2.trans s3)) r3
    ·exact⟨J,Hz,F,Y,.error y,R.mono s1,e2,k⟩
   | _=>cases hf
  ·exact⟨J,Hz,F,Y,.error x,R,e1,k⟩
 ·subst hz;obtain⟨t,rfl⟩:=rv;exact hr U s1 Z z t pos _ Q (thn (he U s1 Z H1 _ I1 q) fun u s2 ⟨y,H2,I2,ry,q2⟩=>⟨y,H2,I2,ry,q2⟩)
def jm1(x:Str):D->Option D
 | .str y=>some (.bl (Txt.startswith x y))
 | _=>none
def jw5:SmR X "startswith" (fun x y H Q=>∃ z,y=.str z/\Q (.bl (Txt.startswith x z)) H):=fun U s Z x t pos a Q h=>SB.startswith (thn h fun v s1 ⟨y,H1,I1,ry,z,hz,q⟩=>by
 subst hz;obtain⟨u,rfl⟩:=ry;exact⟨z,u,rfl,.bl _,H1,I1,rfl,q⟩)
def jty:SmD X.K jm1 (fun x y H Q=>∃ z,y=.str z/\Q (.bl (Txt.startswith x z)) H):=by
 intro x y d hd J H G v Q hG rv k
 cases y with
 | str z=>cases hd;exact⟨z,rep_str.mp rv,k _ H (Same.refl H) (rep_bl.mpr rfl)⟩
 | _=>cases hd
def kStr:List D->Option D
 | [.int i]=>if i.natAbs.log2<1920 then some (.str (toString i)) else none
 | _=>none
def jBw:CaD X.K kStr (fun xs H Q=>∃ i,xs=[.int i]/\i.natAbs.log2<1920/\Q (.str (toString i)) H):=by
 intro xs d hd J H G us Q hG ru k;unfold kStr at hd
 split at hd
 ·split at hd
  ·rename_i i hz;cases hd;obtain⟨v,rfl,q1⟩:=jju ru;cases rep_int.mp q1;exact⟨_,rfl,hz,k _ H (Same.refl H) (rep_str.mpr rfl)⟩
  ·cases hd
 ·cases hd
def kIntT:List D->Option D
 | [.int i]=>some (.int i)
 | [.bl k]=>some (.int (if k then 1 else 0))
 | [.str x]=>if x.length<=640 then (PySem.intText? x).map .int else none
 | _=>none
def jec:CallR X (.type "int") (fun xs H Q=>((∃ i,xs=[.int i]/\Q (.int i) H)\/∃ k,xs=[.bl k]/\Q (.int (if k then 1 else 0)) H)\/∃ x n,xs=[.str x]/\x.length<=640/\PySem.intText? x=some n/\Q (.int n) H) :=
 call_int1.or (by
  intro U s Z H xs us Q I r h;obtain⟨x,n,rfl,hl,hn,q⟩:=h;obtain⟨u,rfl,t,rfl⟩:=r.one;exact W.KIN.call_text hn hl ⟨.int n,H,I.tok _,⟨_,rfl⟩,q⟩)
def jfa:CaD X.K kIntT (fun xs H Q=>((∃ i,xs=[.int i]/\Q (.int i) H)\/∃ k,xs=[.bl k]/\Q (.int (if k then 1 else 0)) H)\/∃ x n,xs=[.str x]/\x.length<=640/\PySem.intText? x=some n/\Q (.int n) H):=by
 intro xs d hd J H G us Q hG ru k;unfold kIntT at hd
 split at hd
 ·cases hd;obtain⟨v,rfl,q1⟩:=jju ru;cases rep_int.mp q1;exact .inl (.inl ⟨_,rfl,k _ H (Same.refl H) (rep_int.mpr rfl)⟩)
 ·cases hd;obtain⟨v,rfl,q1⟩:=jju ru;cases rep_bl.mp q1;exact .inl (.inr ⟨_,rfl,k _ H (Same.refl H) (rep_int.mpr rfl)⟩)
 ·split at hd
  ·rename_i x hz;obtain⟨v,rfl,q1⟩:=jju ru;cases rep_str.mp q1
   cases e:PySem.intText? x with
   | none=>rw[e] at hd;cases hd
   | some n =>
    rw[e] at hd;cases hd;exact .inr ⟨x,n,rfl,hz,e,k _ H (Same.refl H) (rep_int.mpr rfl)⟩
  ·cases hd
 ·cases hd
def jgb{x:Str}{z:Str}{t:Tok}(hg:Gl X x)(hm:X.mg x=some (.str z t))(hd:(x == ("__debug__":Str))=false:=by decide):DE X O E (.Name x pos) (fC (.str z)) :=
 jko (t:=tC (.str z)) (v:=.str z) (jnq (v:=.str z) hg hm ⟨t,rfl⟩ hd) fun _ _=>rep_str.mpr rfl
end
end DL
namespace L2
open PyProof.Rows
def jD8(lo hi st:Int)(h:0<st):0<=Builtin.Range.rangeSize lo hi st:=by
 unfold Builtin.Range.rangeSize;rw[if_pos h]
 split
 ·have:=Int.ediv_nonneg (a:=hi-lo-1) (b:=st) (by omega) (by omega);omega
 ·omega
section
variable {X:Cx}{tg:Expr}
def jzm{U:qc}{Z:St}{H:Hp}{s:Shared}{R:It->Hp->Prop}{E:qd}{lo hi st:Int}{t u v:Tok}{tk:Nat}(I:Inv X U Z H s)(hst:0<st)
  (q:R (Itv (fun i=>.int (lo+(i:Nat)*st)) (Builtin.Range.rangeSize lo hi st).toNat) H):wpAny (model X.prog X.w) X.A (pyIter (.ref s.heap.objs.size)) (PIE X U Z tg R) E { s with heap:=s.heap.push { cls:=.type "range",data:=.fields #[.int lo t,.int hi u,.int st v] },toks:=tk }:=by
 have I1:Inv X U Z H { s with heap:=s.heap.push { cls:=.type "range",data:=.fields #[.int lo t,.int hi u,.int st v] },toks:=tk }:=I.kept fun b o e=>zaz _ e
 have hn:0<=Builtin.Range.rangeSize lo hi st:=jD8 lo hi st hst;generalize hN:(Builtin.Range.rangeSize lo hi st).toNat=N at q;have hN':Builtin.Range.rangeSize lo hi st=(N:Int):=by omega
 have fpk:∀ b∈[(s.heap.push { cls:=.type "range",data:=.fields #[.int lo t,.int hi u,.int st v] }).objs.size],FpOk X U H b:=fun b hb=>by
  have e:b=(s.heap.push { cls:=.type "range",data:=.fields #[.int lo t,.int hi u,.int st v] }).objs.size:=by simpa using hb
  subst e;exact I1.fpOk (zac _) (I1.hok.fresh (zac _))
 have e1:lo+((0:Nat):Int)*st=lo:=by simp
 have e2:Builtin.Range.rangeSize lo hi st-((0:Nat):Int)=Builtin.Range.rangeSize lo hi st:=by simp
 by_cases hsm:Builtin.Range.small lo hi st=true
 ·refine wpAny_pyIter_range (IsRange.new ..) hsm ?_;refine⟨_,[_],_,_,H,rfl,I1.kept (t':=tk) fun b o e=>zaz _ e,jjd _ _ N _ (fun A hA=>Walks.range hA _ lo st N) (fun i h e=>⟨_,_,_,e,rfl,rfl,rfl⟩) (fun A i s Q E e h=>wpAny_pyIter_rangeiter e h),?_,fpk,q⟩;show IsRangeIter _ _ (lo+((0:Nat):Int)*st) ((N:Int)-((0:Nat):Int)) st;rw[<- hN',e1,e2];exact zbz _ rfl
 ·refine wpAny_pyIter_longrange (IsRange.new ..) (by simpa using hsm) ?_;refine⟨_,[_],_,_,H,rfl,I1.kept (t':=tk) fun b o e=>zaz _ e,jjd _ _ N _ (fun A hA=>Walks.longrange hA _ lo st N) (fun i h e=>⟨_,_,_,e,rfl,rfl,rfl⟩) (fun A i s Q E e h=>wpAny_pyIter_longiter e h),?_,fpk,q⟩;show IsLongIter _ _ (lo+((0:Nat):Int)*st) ((N:Int)-((0:Nat):Int)) st;rw[<- hN',e1,e2];exact zbz _ rfl
def iRg3(ta:TA):TI:=fun Z H R=>ta Z H fun vs H1=>∃ i j k:Int,vs=[.int i,.int j,.int k]/\0<k/\k<2 ^ 60/\R (Itv (fun n=>.int (i+(n:Nat)*k)) (Builtin.Range.rangeSize i j k).toNat) H1
def jwf{a:Expr}{es:List Expr}{ta:TA}{p pos:Pos}(hg:Gl X "range")(hm:X.mg "range"=none)(ha:PA X (a::es) ta)(hs:starEach (a::es) X.env=(false,eval a X.env)::starEach es X.env:=by rfl)(hp:zbT pos es X.env:=by rfl) :
  PI X tg (.Call (.Name "range" p) (a::es) [] pos) (iRg3 ta):=by
 intro U s Z H R I h;refine Call_ (jl4 I hg hm boot_range (PyProof.Rows.callWith_type1 (thn (ha pos U s Z H _ I h) fun us s1 hzz=>?_) hs hp));obtain⟨vs,H1,I1,r1,q1⟩:=hzz;obtain⟨i,j,k,e,hk,hk2,q⟩:=q1;subst e
 cases r1 with
 | cons p1 r1 =>
  cases r1 with
  | cons p2 r1 =>
   cases r1 with
   | cons p3 r1 =>
    cases r1;obtain⟨t1,rfl⟩:=p1;obtain⟨t2,rfl⟩:=p2;obtain⟨t3,rfl⟩:=p3;refine call_range_3 (by omega) (jzm I1 hk q) (.inl (PyProof.noPylong_of_log2 ?_));have hn:k.natAbs≠0:=by omega
    have:k.natAbs<2 ^ 60:=by omega
    exact Nat.lt_trans ((Nat.log2_lt (k:=60) hn).mpr this) (by decide)
end
end L2
namespace DL
open L2
section
variable {X:Cx}{O:List Nat}{E:XK}{a b tg e o:Expr}{es:List Expr}{fl:DSt->M (List D)}{pos p:Pos}
def jcq(lo:Int)(st:Int)(n:Nat):List D:=(List.range n).map fun i=>.int (lo+(i:Nat)*st)
def jf0:List D->Option (List D)
 | [.int i,.int j,.int k]=>if 0<k/\k<2 ^ 60 then some (jcq i k (Builtin.Range.rangeSize i j k).toNat) else none
 | _=>none
def jup(hg:Gl X "range")(hm:X.mg "range"=none)(ha:DA X O E (a::es) fl)(hs:starEach (a::es) X.env=(false,eval a X.env)::starEach es X.env:=by rfl)(hp:zbT pos es X.env:=by rfl) :
  DI X O E tg (.Call (.Name "range" p) (a::es) [] pos) (jih jf0 fl):=by
 rintro U s Z H R I ⟨J,Hz,F,Y,r,RS0,hf,k⟩;refine jwf hg hm ha hs hp U s Z H R I ?_;rcases M.b_inv hf with ⟨d,e1,hf⟩|⟨y,e1,rfl⟩
 ·refine⟨J,Hz,F,Y,.ok d,RS0,e1,fun vs H1 s1 r1=>?_⟩;obtain⟨ds,hd,rfl⟩:=M.o_inv hf;unfold jf0 at hd
  split at hd
  ·rename_i i0 j kk
   split at hd
   ·rename_i hk;cases hd;obtain⟨v,r',rfl,q1,q2⟩:=reps_cons.mp r1;obtain⟨v2,r2,rfl,q3,q4⟩:=reps_cons.mp q2;obtain⟨v3,r3,rfl,q5,q6⟩:=reps_cons.mp q4;cases reps_nil.mp q6;cases rep_int.mp q1;cases rep_int.mp q3;cases rep_int.mp q5;refine⟨i0,j,kk,rfl,hk.1,hk.2,k _ H1 s1 ?_⟩;refine jva (by unfold jcq;simp) fun i d hd H=>?_
    unfold jcq at hd;rw[zba] at hd
    cases q:(List.range (Builtin.Range.rangeSize i0 j kk).toNat)[i]? with
    | none=>rw[q] at hd;cases hd
    | some m =>
     rw[q] at hd;have:m=i:=by
      have:=(zbb.mp q).2;simpa using this.symm
     subst this;cases hd;exact rep_int.mpr rfl
   ·cases hd
  ·cases hd
 ·exact⟨J,Hz,F,Y,.error y,RS0,e1,k⟩
def blsD:List D->Option (List Bool)
 | []=>some []
 | .bl b::ds=>(blsD ds).map (b::·)
 | _::_=>none
theorem jud:∀ {ds:List D} {ns:List Bool},blsD ds=some ns->ds=ns.map .bl
 | [],_,h=>by cases h;rfl
 | .bl i::ds,ns,h=>by
  unfold blsD at h
  cases e:blsD ds with
  | none=>rw[e] at h;cases h
  | some ms=>rw[e] at h;cases h;rw[jud e];rfl
 | .non::_,_,h=>by cases h
 | .int _::_,_,h=>by cases h
 | .str _::_,_,h=>by cases h
 | .ty _::_,_,h=>by cases h
 | .obj _::_,_,h=>by cases h
 | .tup _::_,_,h=>by cases h
 | .lst _::_,_,h=>by cases h
theorem reps_bls{J:Rho}{K:W.Frag}{H:Hp}:∀ {ns:List Bool} {vs:List V},Reps J K H (ns.map .bl) vs↔vs=ns.map V.bl
 | [],vs=>reps_nil
 | n::ns,vs=>by
  rw[List.map_cons,reps_cons];constructor
  ·rintro⟨v,r,rfl,h1,h2⟩;rw[rep_bl.mp h1,reps_bls.mp h2];rfl
  ·rintro rfl;exact⟨_,_,rfl,rep_bl.mpr rfl,reps_bls.mpr rfl⟩
def kAll:List D->Option D
 | [.lst ds]=>(blsD ds).map fun ns=>.bl (ns.all id)
 | _=>none
def jt9(ns:List Bool):(List.range ns.length).all (fun i=>ns.getD i true)=ns.all id:=by
 induction ns with
 | nil=>rfl
 | cons n ns ih =>
  rw[List.length_cons,List.range_succ_eq_map,List.all_cons,List.all_map,List.all_cons];congr 1
def jug(hc:X.calm=true):CallR X (.builtin "all") (fun xs H Q=>∃ p,∃ ns:List Bool,xs=[.ref p]/\SqL X.K H p (ns.map V.bl)/\Q (.bl (ns.all id)) H):=by
 intro U s Z H xs us Q I r h;obtain⟨p,ns,rfl,hq,q⟩:=h;obtain⟨u,rfl,rx⟩:=r.one;cases rx;obtain⟨its,rv,src,hz⟩:=I.list hq;have hl:=rv.length;rw[zav] at hl;have hh:X.A.in1.handled=none:=I.ok.hd hc;have src':s.heap.IsList p its.toArray:=src.isList;have hp:p<s.heap.objs.size:=by obtain⟨o,e,_⟩:=src';exact zbv e
 refine call_all_walk ?_;refine wpAny_pyIter_list src' ?_;refine⟨_,_,_,_,_,_,(fun i=>ns.getD i true),rfl,Walks.list hh s.heap.objs.size p (zcv hp) its.toArray,⟨⟨_,zbz _ rfl,rfl,rfl⟩,src'.at fun o e=>zaz _ e⟩,fun i v s' Q' E' hP hQ=>?_,fun h' tk kp=>?_⟩
 ·have e:its.toArray[i]? = some v:=hP;have hi:i<ns.length:=by rw[hl];have:=(Array.getElem?_eq_some_iff.mp e).1;simpa using this
  obtain⟨v',e1,r1⟩:=rv.get (i:=i) (x:=.bl ns[i]) (by rw[zba,zax hi];rfl);have:v=v':=by
   have e':its[i]? = some v:=by simpa using e
   rw[e'] at e1;exact zby e1
  subst this;have r1':v=.bool ns[i]:=r1;subst r1';refine wpAny_truthy_bool ?_;dsimp only at hQ;rw[List.getD_eq_getElem?_getD,zax hi] at hQ;exact hQ
 ·refine⟨.bl (ns.all id),H,I.kept fun b o e=>kp b o ?_ (zaz _ e),?_,q⟩
  ·intro z;have:b=s.heap.objs.size:=by simpa using z
   rw[this] at e;exact absurd (zbv e) (Nat.lt_irrefl _)
  ·have:its.toArray.size=ns.length:=by rw[zbx];omega
   rw[this,jt9];rfl
def jBv:CaD X.K kAll (fun xs H Q=>∃ p,∃ ns:List Bool,xs=[.ref p]/\SqL X.K H p (ns.map V.bl)/\Q (.bl (ns.all id)) H):=by
 intro xs d hd J H G us Q hG ru k;unfold kAll at hd
 split at hd
 ·rename_i ds
  cases e:blsD ds with
  | none=>rw[e] at hd;cases hd
  | some ns =>
   rw[e] at hd;cases hd;obtain⟨v,rfl,q⟩:=jju ru;obtain⟨l,ys,rfl,q1,q2⟩:=rep_lst.mp q;rw[jud e] at q2;rw[reps_bls.mp q2] at q1;exact⟨l,ns,rfl,jem jao q1,k _ H (Same.refl H) (rep_bl.mpr rfl)⟩
 ·cases hd
end
end DL
namespace L2
open PyProof.Rows
def jj8:fillsNumberSlot (.type "tuple") "mul"=pure false :=
 PySem.fillsNumberSlot_seq (id:="tuple.__mul__") (r:=some (.builtin "tuple.__rmul__")) PySem.F.slot_tuple_mul.lookup (by decide +kernel) PySem.F.slot_tuple_rmul.lookup (by decide +kernel)
def jpn:seqRepeat? (.type "tuple")=pure (some (.builtin "tuple.__mul__")):=by
 unfold seqRepeat?;rw[PySem.seqSlot_of (T:="tuple") (name:="__mul__") (id:="tuple.__mul__") PySem.F.slot_tuple_mul.lookup (by decide +kernel),PySem.seqSlot_of (T:="tuple") (name:="__rmul__") (id:="tuple.__rmul__") PySem.F.slot_tuple_rmul.lookup (by decide +kernel)];rfl
def jly(a:Int)(t:Tok)(l:Addr)(items:Array Value)(n:Nat)(dd:Option Addr)(sl:qf) :
  Meets (Builtin.«int.__rmul__» ⟨[.int a t,.ref l],[]⟩) (fun _ R s=>s.heap.get? l=some { cls:=.type "tuple",dict:=dd,data:=.seq items n,slots:=sl }/\R (.ok (.ret Value.notImplemented)) s) :=
 .of_wp fun prog w A R s h=>by obtain⟨hp,g,d,tk,os⟩:=s;obtain⟨hl,h⟩:=h;wp_walk;exact⟨_,rfl,h⟩
def jt1(l:Addr)(items:Array Value)(n:Nat)(u:Tok)(dd:Option Addr)(sl:qf)(hne:items.isEmpty=false) :
  Meets (Builtin.«tuple.__mul__» ⟨[.ref l,.int 1 u],[]⟩) (fun _ R s=>s.heap.get? l=some { cls:=.type "tuple",dict:=dd,data:=.seq items n,slots:=sl }/\R (.ok (.ret (.ref l))) s) :=
 .of_wp fun prog w A R s h=>by
  obtain⟨hp,g,d,tk,os⟩:=s;obtain⟨hl,h⟩:=h
  have f1:=AutoSeq1.idx_int
  wp_walk
  exact⟨_,rfl,h⟩
def jt2(l:Addr)(items:Array Value)(n:Nat)(k:Int)(u:Tok)(dd:Option Addr)(sl:qf)(hne:items.isEmpty=false)(h2:2<=k)(h3:k<=1000)(hsz:items.size*k.toNat<=100000) :
  Meets (Builtin.«tuple.__mul__» ⟨[.ref l,.int k u],[]⟩) (fun _ R s=>s.heap.get? l=some { cls:=.type "tuple",dict:=dd,data:=.seq items n,slots:=sl }/\R (.ok (.ret (.ref s.heap.objs.size))) { s with heap:=s.heap.push { cls:=.type "tuple",data:=.seq (List.foldl (fun x1 x2=>x1++x2) #[] (List.replicate k.toNat items)) } }) :=
 .of_wp fun prog w A R s h=>by
  obtain⟨hp,g,d,tk,os⟩:=s;obtain⟨hl,h⟩:=h
  have f1:=AutoSeq1.idx_int;have c1:(decide (k < -(2 ^ 63)) || decide (k >= 2 ^ 63))=false:=by simp;omega
  have c2:(items.isEmpty || k == 1)=false:=by rw[hne];simp;omega
  have c3:(decide (k<=0) || items.isEmpty)=false:=by rw[hne];simp;omega
  obtain⟨m,rfl⟩:=Int.eq_ofNat_of_zero_le (show 0<=k by omega);have hs:(items.size:Int)*(m:Int)=((items.size*m:Nat):Int):=by push_cast;rfl
  have hsz':items.size*m<=100000:=by simpa using hsz
  have c4:¬ ((items.size:Int)*(m:Int) > (2 ^ 63-1) / 8):=by rw[hs];omega
  have c5:Builtin.Tuple.tupleTooMany ((items.size:Int)*(m:Int))=false:=by
   rw[hs];unfold Builtin.Tuple.tupleTooMany;simp[sizeLine];omega
  wp_walk
  refine wpAny_ite_false (decide_eq_false (by rw[c1];decide)) ?_
  wp_walk
  refine wpAny_ite_false (decide_eq_false (by rw[c2];decide)) ?_
  wp_walk
  refine wpAny_ite_false (decide_eq_false (by rw[c3];decide)) ?_
  try dsimp only
  refine wpAny_ite_false (decide_eq_false c4) ?_
  try dsimp only
  refine wpAny_ite_false (decide_eq_false (by rw[c5];decide)) ?_
  try dsimp only
  refine zay ?_;unfold Builtin.Tuple.tupleExact;refine wpAny_newObj_type ?_ ?_
  ·exact zab ⟨_,rfl,h⟩
  ·show (List.foldl (fun x1 x2=>x1++x2) #[] (List.replicate ((m:Nat):Int).toNat items)).size<=sizeLine;rw[AutoListH.size_joined];have:100000<=sizeLine:=by decide
   rw[Nat.mul_comm] at hsz';simp;omega
end L2
namespace DL
open L2
def jGy(K:W.Frag):R2:=fun x y H Q=>∃ l k xs,x=.ref l/\y=.int k/\SqT K H l xs/\xs≠[]/\1<=k/\k<=1000/\xs.length*k.toNat<=100000/\(k=1->Q (.ref l) H)/\(k≠1->∀ p,H p=none->Q (.ref p) (upd H p (.tup (List.replicate k.toNat xs).flatten)))
section
variable {X:Cx}{b e:Expr}
def jDc:OpR X (binaryOp .Mult) (jGy X.K):=by
 intro U s Z H x y v u Q I rx ry h;obtain⟨l,k,xs,rfl,rfl,hH,hne,h1,h2,hz,q1,q2⟩:=h;cases rx;obtain⟨t,rfl⟩:=ry;obtain⟨its,r,⟨⟨cls,dd,data,sl⟩,e,hc,n,hd⟩,_⟩:=I.tuple hH;simp only at hc hd;subst hc hd;have l1:=r.length;have hne':its.toArray.isEmpty=false:=by
  cases its with
  | nil=>exact absurd (List.length_eq_zero_iff.mp l1) hne
  | cons _ _=>rfl
 have hlen:its.toArray.size*k.toNat<=100000:=by rw[zbx,<- l1];exact hz
 have hnew:List.foldl (fun x1 x2=>x1++x2) #[] (List.replicate k.toNat its.toArray)=(List.replicate k.toNat its).flatten.toArray:=by
  have:=jkt its k.toNat [];rw[List.nil_append] at this;exact this
 refine wpAny_binaryOp_repeat_ref (T:="tuple") (U:="int") (by decide) ⟨_,e,rfl⟩ (fun s'=>typeIs_int s' k t) jj8 F.fills_int_mul F.slot_int_rmul jpn F.slot_int_index.lookup
  (call_meets F.slot_int_rmul (typeIs_int s k t) F.entry_int_rmul (F.args_int_rmul_2 _ _) (jly k t l its.toArray n dd sl)
   ⟨e,rfl,⟨_,e,rfl⟩,?_⟩)
 by_cases hk:k=1
 ·subst hk;exact call_meets F.slot_tuple_mul ⟨_,e,rfl⟩ F.entry_tuple_mul (F.args_tuple_mul_2 _ _) (jt1 l its.toArray n t dd sl hne') ⟨e,.ref l,H,I,rfl,q1 rfl⟩
 ·refine call_meets F.slot_tuple_mul ⟨_,e,rfl⟩ F.entry_tuple_mul (F.args_tuple_mul_2 _ _) (jt2 l its.toArray n k t dd sl hne' (by omega) h2 hlen) ⟨e,?_⟩;rw[hnew];refine⟨.ref s.heap.objs.size,_,I.laid (t':=s.toks) (o:=.tup (List.replicate k.toNat xs).flatten) (fun b ob q=>zaz _ q) (zac _) ?_,rfl,q2 hk _ (I.hok.fresh (zac _))⟩;refine⟨?_,_,r.rep k.toNat,PyProof.Rows.IsTup.new _ _⟩;rw[jvd,Nat.mul_comm];have:100000<=sizeLine:=by decide
  omega
def jci:D->D->Option D
 | .tup xs,.int k=>if xs≠[]/\1<=k/\k<=1000/\xs.length*k.toNat<=100000 then some (.tup (List.replicate k.toNat xs).flatten) else none
 | x,y=>gMul x y
def jGx(K:W.Frag):R2:=fun x y H Q=>(rI (fun i j=>(jh3 i&&jh3 j)=true) (fun i j=>.int (i*j)) x y H Q\/∃ z n,x=.str z/\y=.int n/\(z.length<=4096/\-4096<=n/\n<=4096)/\Q (.str (Txt.mul z n)) H)\/jGy K x y H Q
def jdh:OpR X (binaryOp .Mult) (jGx X.K):=op_mulD.or jDc
def jca:OpD X.K jci (jGx X.K):=by
 intro x y d hd J H G u v Q hG ru rv k;unfold jci at hd
 split at hd
 ·split at hd
  ·rename_i hz;cases hd;obtain⟨l,xs,rfl,q1,q2⟩:=rep_tup.mp ru;have n1:xs≠[]:=fun z=>by have:=q2.length;rw[z] at this;exact hz.1 (List.length_eq_zero_iff.mp this.symm)
   refine .inr ⟨l,_,xs,rfl,rep_int.mp rv,jde jao q1,n1,hz.2.1,hz.2.2.1,by rw[q2.length];exact hz.2.2.2,fun e=>?_,fun _ p hp=>k _ _ (ja7 hp) (jc7 hp (hG p hp) (q2.rep _))⟩;subst e;refine k _ H (Same.refl H) ?_;simpa using ru
  ·cases hd
 ·exact .inl (jDd (X:=X) x y d hd J H G u v Q hG ru rv k)
end
end DL
namespace L2
open PyProof.Rows
abbrev xOb(C:Addr)(od:Option Addr)(vs:Array Value)(sl:qf):Obj:=⟨.ref C,od,.fields vs,sl⟩
def XO(a C:Addr)(od:Option Addr)(f:Bool):HO:=.ext fun h=>∃ vs sl,h.get? a=some (xOb C od vs sl)/\(f=true->vs[1]? = some .none)
inductive XDv(a:Addr)(fs:List (Str×V))(h:Heap):Prop
 | mk (mA:qa) (hn:h.Ns1 a mA) (hr:∀ f,RelO (fs.lookup f) (mA f)) (hw:PySem.Within mA (fs.map (·.1))) (hl:fs.length<=1000)
def XDc(a:Addr)(fs:List (Str×V)):HO:=.ext (XDv a fs)
def jIa{a C:Addr}{od:Option Addr}{f:Bool}{xs:List V}:XO a C od f≠.tup xs:=fun z=>by unfold XO at z;cases z
def jKd{a:Addr}{fs:List (Str×V)}{xs:List V}:XDc a fs≠.tup xs:=fun z=>by unfold XDc at z;cases z
end L2
namespace DL
open L2
inductive SO where
 | ins (c:Str) (fs:List (Str×D))|lst (ds:List D)|exc (c:Str) (j:Option Nat×Bool)|xd (fs:List (Str×D))
abbrev Sto:=List SO
abbrev MS(α:Type):=Sto->Option (Except XD α×Sto)
def MS.b{α β:Type}(m:MS α)(f:α->MS β):MS β:=fun Ω=>match m Ω with
 | none=>none
 | some (.error x,Ω')=>some (.error x,Ω')
 | some (.ok a,Ω')=>f a Ω'
def MS.p{α:Type}(a:α):MS α:=fun Ω=>some (.ok a,Ω)
def MS.l{α:Type}(m:M α):MS α:=fun Ω=>m.map fun r=>(r,Ω)
def MS.o{α:Type}(m:Option α):MS α:=fun Ω=>m.map fun r=>(.ok r,Ω)
inductive MS.BInv{α β:Type}(m:MS α)(f:α->MS β)(Ω Ω':Sto)(r:Except XD β):Prop
 | ok (a:α) (Ω1:Sto) (h1:m Ω=some (.ok a,Ω1)) (h2:f a Ω1=some (r,Ω'))
 | err (x:XD) (h1:m Ω=some (.error x,Ω')) (h2:r=.error x)
def MS.b_inv{α β:Type}{m:MS α}{f:α->MS β}{Ω Ω':Sto}{r:Except XD β}(h:m.b f Ω=some (r,Ω')):MS.BInv m f Ω Ω' r:=by
 unfold MS.b at h
 cases e:m Ω with
 | none=>rw[e] at h;cases h
 | some p =>
  rw[e] at h;obtain⟨q,Ω1⟩:=p
  cases q with
  | error x=>cases h;exact .err x e rfl
  | ok a=>exact .ok a Ω1 e h
def MS.l_inv{α:Type}{m:M α}{Ω Ω':Sto}{r:Except XD α}(h:MS.l m Ω=some (r,Ω')):m=some r/\Ω'=Ω:=by
 unfold MS.l at h
 cases e:m with
 | none=>rw[e] at h;cases h
 | some p=>rw[e] at h;cases h;exact⟨rfl,rfl⟩
def MS.o_inv{α:Type}{m:Option α}{Ω Ω':Sto}{r:Except XD α}(h:MS.o m Ω=some (r,Ω')):∃ a,m=some a/\r=.ok a/\Ω'=Ω:=by
 unfold MS.o at h
 cases e:m with
 | none=>rw[e] at h;cases h
 | some p=>rw[e] at h;cases h;exact⟨p,rfl,rfl,rfl⟩
@[simp] theorem MS.b_p{α β:Type}(a:α)(f:α->MS β):(MS.p a).b f=f a:=rfl
def MS.b_ok{α β:Type}{m:MS α}{f:α->MS β}{Ω Ω1:Sto}{a:α}(h:m Ω=some (.ok a,Ω1)):m.b f Ω=f a Ω1:=by unfold MS.b;rw[h]
def RLe(J J':Rho):Prop:=∀ i a,J i=some a->J' i=some a
def RLe.refl(J:Rho):RLe J J:=fun _ _ h=>h
def RLe.trans{J J' J'':Rho}(a:RLe J J')(b:RLe J' J''):RLe J J'':=fun i x h=>b i x (a i x h)
section
variable {J J':Rho}{K:W.Frag}{H:Hp}
mutual
def Rep.rho(e:RLe J J'):∀ {d:D} {v:V},Rep J K H d v->Rep J' K H d v
 | .non,_,h=>by unfold Rep at h |-;exact h
 | .bl _,_,h=>by unfold Rep at h |-;exact h
 | .int _,_,h=>by unfold Rep at h |-;exact h
 | .str _,_,h=>by unfold Rep at h |-;exact h
 | .ty _,_,h=>by unfold Rep at h |-;exact h
 | .obj _,_,h=>by
  unfold Rep at h |-
  obtain⟨a,q1,q2⟩:=h;exact⟨a,e _ _ q1,q2⟩
 | .tup _,_,h=>by
  unfold Rep at h |-
  obtain⟨a,xs,q1,q2,q3⟩:=h;exact⟨a,xs,q1,q2,Reps.rho e q3⟩
 | .lst _,_,h=>by
  unfold Rep at h |-
  obtain⟨a,xs,q1,q2,q3⟩:=h;exact⟨a,xs,q1,q2,Reps.rho e q3⟩
def Reps.rho(e:RLe J J'):∀ {ds:List D} {vs:List V},Reps J K H ds vs->Reps J' K H ds vs
 | [],_,h=>by unfold Reps at h |-;exact h
 | _::_,_,h=>by
  unfold Reps at h |-
  obtain⟨v,vs,q1,q2,q3⟩:=h;exact⟨v,vs,q1,Rep.rho e q2,Reps.rho e q3⟩
end
def putD(f:Str)(d:D):List (Str×D)->List (Str×D)
 | []=>[(f,d)]
 | (g,x)::r=>if g=f then (g,d)::r else (g,x)::putD f d r
def Flds(J:Rho)(K:W.Frag)(H:Hp):List (Str×D)->List (Str×V)->Prop
 | [],vs=>vs=[]
 | (f,d)::fs,vs=>∃ v r,vs=(f,v)::r/\Rep J K H d v/\Flds J K H fs r
theorem Flds.mono(e:RLe J J')(s:Same H H'):∀ {fs:List (Str×D)} {vs:List (Str×V)},Flds J K H fs vs->Flds J' K H' fs vs
 | [],_,h=>h
 | (f,d)::fs,_,⟨v,r,q1,q2,q3⟩=>⟨v,r,q1,(q2.rho e).mono s,Flds.mono e s q3⟩
theorem Flds.length:∀ {fs:List (Str×D)} {vs:List (Str×V)},Flds J K H fs vs->vs.length=fs.length
 | [],_,h=>by cases h;rfl
 | (f,d)::fs,_,⟨v,r,q1,q2,q3⟩=>by subst q1;simp[Flds.length q3]
theorem Flds.get:∀ {fs:List (Str×D)} {vs:List (Str×V)} {f:Str} {d:D},Flds J K H fs vs->fs.lookup f=some d->∃ v,vs.lookup f=some v/\Rep J K H d v
 | [],_,_,_,_,e=>by cases e
 | (g,x)::fs,_,f,d,⟨v,r,q1,q2,q3⟩,e=>by
  subst q1;simp only[List.lookup_cons] at e |-
  cases h:f == g with
  | true=>rw[h] at e;cases e;exact⟨v,rfl,q2⟩
  | false=>rw[h] at e;exact Flds.get q3 e
theorem Flds.none:∀ {fs:List (Str×D)} {vs:List (Str×V)} {f:Str},Flds J K H fs vs->fs.lookup f=Option.none->vs.lookup f=Option.none
 | [],_,_,h,_=>by cases h;rfl
 | (g,x)::fs,_,f,⟨v,r,q1,q2,q3⟩,e=>by
  subst q1;simp only[List.lookup_cons] at e |-
  cases h:f == g with
  | true=>rw[h] at e;cases e
  | false=>rw[h] at e;exact Flds.none q3 e
theorem Flds.put{f:Str}{d:D}{v:V}(hr:Rep J K H d v):∀ {fs:List (Str×D)} {vs:List (Str×V)},Flds J K H fs vs->Flds J K H (putD f d fs) (putF f v vs)
 | [],_,h=>by cases h;exact⟨v,[],rfl,hr,rfl⟩
 | (g,x)::fs,_,⟨u,r,q1,q2,q3⟩=>by
  subst q1;unfold putD putF
  by_cases h:g=f
  ·rw[if_pos h,if_pos h];exact⟨v,r,rfl,hr,q3⟩
  ·rw[if_neg h,if_neg h];exact⟨u,_,rfl,q2,Flds.put hr q3⟩
end
inductive InsOk(J:Rho)(S:qe)(K:W.Frag)(mg:qa)(H Hv:Hp)(a:Addr)(c:Str)(fs:List (Str×D)):Prop
 | mk (C dx:Addr) (vfs:List (Str×V)) (h1:mg c=some (.ref C)) (h2:H a=some (.ins C dx vfs)) (h3:H dx=some (.own a)) (h4:S dx=true) (h5:Flds J K Hv fs vfs)
inductive TabG(Hv:Hp)(l c:Nat)(q:Str)(ps:Array Value):Prop
 | nil (h:ps=#[])
 | one (c':Addr) (o:Obj) (vs:Array Value) (t:Tok) (h:ps=#[rawInt l,rawInt c,.ref c']) (h1:Hv c'=some (.frz o (.own 0))) (h2:o.data=.fields vs) (h3:vs[1]? = some (.str q t))
def TabG.mono{Hv Hv':Hp}{l c:Nat}{q:Str}{ps:Array Value}(s:Same Hv Hv'):TabG Hv l c q ps->TabG Hv' l c q ps
 | .nil h=>.nil h
 | .one c' o vs t h h1 h2 h3=>.one c' o vs t h (s _ _ h1) h2 h3
inductive ExcOk(J:Rho)(mg:qa)(H:Hp)(a:Addr)(c:Str):Option Nat×Bool->Prop
 | no (f:Bool) (C:Addr) (h1:mg c=some (.ref C)) (h2:H a=some (XO a C none f)):ExcOk J mg H a c (none,f)
 | yes (f:Bool) (j:Nat) (C dx:Addr) (h1:mg c=some (.ref C)) (h2:J j=some dx) (h3:H a=some (XO a C (some dx) f)):ExcOk J mg H a c (some j,f)
def ExcOk.mono{J J':Rho}{mg:qa}{H H':Hp}{a:Addr}{c:Str}{j:Option Nat×Bool}(l:∀ i b,J i=some b->J' i=some b)(e:H' a=H a)(h:ExcOk J mg H a c j):ExcOk J' mg H' a c j:=by
 cases h with
 | no f C h1 h2=>exact .no f C h1 (by rw[e];exact h2)
 | yes f j C dx h1 h2 h3=>exact .yes f j C dx h1 (l _ _ h2) (by rw[e];exact h3)
def SOk(J:Rho)(S:qe)(K:W.Frag)(mg:qa)(H Hv:Hp)(a:Addr):SO->Prop
 | .ins c fs=>InsOk J S K mg H Hv a c fs
 | .lst ds=>∃ xs,H a=some (.lst xs)/\Reps J K Hv ds xs
 | .exc c j=>ExcOk J mg H a c j
 | .xd fs=>∃ vfs,H a=some (XDc a vfs)/\Flds J K Hv fs vfs
inductive AtOk(J:Rho)(S:qe)(K:W.Frag)(mg:qa)(H Hv:Hp)(i:Nat)(so:SO):Prop
 | mk (a:Addr) (h1:J i=some a) (h2:S a=true) (h3:SOk J S K mg H Hv a so)
def TV(H Hv:Hp):Prop:=∀ b xs,H b=some (.tup xs)->Hv b=some (.tup xs)
def jlk{H Hv:Hp}{a:Addr}{o:HO}(t:TV H Hv)(ho:∀ xs,o≠.tup xs):TV (upd H a o) Hv:=fun b xs q=>by
 by_cases hb:b=a
 ·subst hb;rw[jam] at q;cases q;exact absurd rfl (ho xs)
 ·rw[jaj hb] at q;exact t b xs q
def jxj{H Hv Hv':Hp}(t:TV H Hv)(v:Same Hv Hv'):TV H Hv':=fun b xs q=>v b _ (t b xs q)
def jEj{H H':Hp}{F:qe}(t:TV H (hid H F))(fr:∀ b,H b=none->F b=false)(e:Same H H'):TV H' (hid H' F):=fun b xs q=>by
 cases z:H b with
 | none=>exact hid_some.mpr ⟨fr b z,q⟩
 | some o =>
  have:=e b o z;rw[q] at this;cases this;exact jaq e b _ (t b xs z)
structure StoOk(J:Rho)(S:qe)(K:W.Frag)(mg:qa)(H Hv:Hp)(Ω:Sto):Prop where
 ats:∀ (i:Nat) so,Ω[i]? = some so->AtOk J S K mg H Hv i so
 inj:∀ i j a,J i=some a->J j=some a->i=j
 top:∀ i,Ω.length<=i->J i=none
 fin:∀ b,S b=true->H b≠none
 tv:TV H Hv
abbrev nof:qe:=fun _=>false
def un(F S:qe):qe:=fun b=>F b || S b
def un_t{F S:qe}{b:Addr}:un F S b=true↔F b=true\/S b=true:=by unfold un;rw[Bool.or_eq_true]
def un_f{F S:qe}{b:Addr}:un F S b=false↔F b=false/\S b=false:=by unfold un;rw[Bool.or_eq_false_iff]
section
variable {J:Rho}{S:qe}{K:W.Frag}{mg:qa}{H H' Hv Hv':Hp}{Ω:Sto}
theorem SOk.mono{a:Addr}{so:SO}(hs:S a=true)(e:∀ b,S b=true->H' b=H b)(v:Same Hv Hv')(h:SOk J S K mg H Hv a so):SOk J S K mg H' Hv' a so:=by
 cases so with
 | ins c fs =>
  obtain⟨C,dx,vfs,q1,q2,q3,q4,q5⟩:=h;exact⟨C,dx,vfs,q1,by rw[e a hs];exact q2,by rw[e dx q4];exact q3,q4,q5.mono (RLe.refl _) v⟩
 | lst ds =>
  obtain⟨xs,q1,q2⟩:=h;exact⟨xs,by rw[e a hs];exact q1,q2.mono v⟩
 | exc c j=>exact ExcOk.mono (fun _ _ z=>z) (e a hs) h
 | xd fs =>
  obtain⟨vfs,q1,q2⟩:=h;exact⟨vfs,by rw[e a hs];exact q1,q2.mono (RLe.refl _) v⟩
def StoOk.mono(h:StoOk J S K mg H Hv Ω)(e:∀ b,S b=true->H' b=H b)(v:Same Hv Hv')(t:TV H' Hv'):StoOk J S K mg H' Hv' Ω :=
 ⟨fun i so hi=>let ⟨a,q1,q2,q3⟩:=h.ats i so hi;⟨a,q1,q2,q3.mono q2 e v⟩,h.inj,h.top,fun b hb=>by rw[e b hb];exact h.fin b hb,t⟩
end
structure RM(Jz:Rho)(Sz:qe)(Hz:Hp)(F:qe)(K:W.Frag)(mg:qa)(O:List Nat)(J:Rho)(S:qe)(H:Hp)(Z:St)(Y:DSt)(Ω:Sto):Prop where
 rs:RS J K (hid H (fob nof Z O)) H (un F S) O Z Y
 rho:RLe Jz J
 same:∀ b o,Sz b=false->Hz b=some o->H b=some o
 old:∀ b,Sz b=true->S b=true
 new:∀ b,S b=true->Sz b=true\/Hz b=none
 own0:∀ i∈O,∀ a,Z[i]? = some (some (.ref a))->Hz a=none
 ff:∀ b,F b=true->S b=false
 sto:StoOk J S K mg H (hid H (fob (un F S) Z O)) Ω
section
variable {Jz J:Rho}{Sz S F:qe}{Hz H1 H H':Hp}{K:W.Frag}{mg:qa}{O O':List Nat}{Z:St}{Y:DSt}{Ω:Sto}
def RS.rebase(R:RS J K H1 H F O Z Y):RS J K (hid H (fob nof Z O)) H F O Z Y :=
 ⟨R.len,jao,R.fin,R.val,fun i hi=>by
  obtain⟨a,xs,ds,q1,q2,q3,q4,q5⟩:=R.own i hi;refine⟨a,xs,ds,q1,q2,q3,⟨?_,q4.2⟩,q5⟩;unfold hid;rw[if_pos (fob_t.mpr (.inr ⟨i,hi,q2⟩))],R.nd⟩
def RM.at_store(R:RM Jz Sz Hz F K mg O J S H Z Y Ω)(e:Same H H'):∀ b,S b=true->H' b=H b:=fun b hb=>by
 cases q:H b with
 | none=>exact absurd q (R.sto.fin b hb)
 | some o=>exact e b o q
def RM.mono(R:RM Jz Sz Hz F K mg O J S H Z Y Ω)(e:Same H H'):RM Jz Sz Hz F K mg O J S H' Z Y Ω :=
 ⟨(R.rs.mono e).rebase,R.rho,fun b o h1 h2=>e b o (R.same b o h1 h2),R.old,R.new,R.own0,R.ff,R.sto.mono (R.at_store e) (jaq e) (jEj R.sto.tv (fun _ h=>R.rs.fresh h) e)⟩
def RM.thaw(R:RM Jz Sz Hz F K mg O J S H Z Y Ω)(h:∀ i∈O',i∈O):RM Jz Sz Hz F K mg O' J S H Z Y Ω :=
 ⟨(R.rs.thaw h).rebase,R.rho,R.same,R.old,R.new,fun i hi=>R.own0 i (h i hi),R.ff,R.sto.mono (fun _ _=>rfl) (jfg (jvc h)) (jxj R.sto.tv (jfg (jvc h)))⟩
def RM.fresh(R:RM Jz Sz Hz F K mg O J S H Z Y Ω){p:Addr}(h:H p=none):fob (un F S) Z O p=false:=R.rs.fresh h
def RM.fresh0(R:RM Jz Sz Hz F K mg O J S H Z Y Ω){p:Addr}(h:H p=none):Hz p=none\/Sz p=true:=by
 cases e:Sz p with
 | true=>exact .inr rfl
 | false =>
  cases e0:Hz p with
  | none=>exact .inl rfl
  | some o=>rw[R.same p o e e0] at h;cases h
def RM.noS(R:RM Jz Sz Hz F K mg O J S H Z Y Ω){p:Addr}(h:H p=none):S p=false:=by
 cases e:S p with
 | false=>rfl
 | true=>exact absurd h (R.sto.fin p e)
def RM.fresh00(R:RM Jz Sz Hz F K mg O J S H Z Y Ω){p:Addr}(h:H p=none):Hz p=none:=by
 rcases R.fresh0 h with q|q
 ·exact q
 ·have:=R.noS h;rw[R.old p q] at this;cases this
def RM.set(R:RM Jz Sz Hz F K mg O J S H Z Y Ω){i:Nat}{d:D}{v:V}(ho:i∉O)(hr:Rep J K (hid H (fob (un F S) Z O)) d v):RM Jz Sz Hz F K mg O J S H (Z.set i (some v)) (Y.set i (some d)) Ω:=by
 refine⟨(R.rs.set ho hr).rebase,R.rho,R.same,R.old,R.new,fun j hj a q=>?_,R.ff,by rw[jda ho];exact R.sto⟩;rw[zbw (by rintro rfl;exact ho hj)] at q;exact R.own0 j hj a q
def RM.write(R:RM Jz Sz Hz F K mg O J S H Z Y Ω){i:Nat}{a:Addr}{ds:List D}{xs:List V}(hi:i∈O)(ha:Z[i]? = some (some (.ref a)))(hr:Reps J K (hid H (fob (un F S) Z O)) ds xs) :
  RM Jz Sz Hz F K mg O J S (upd H a (.lst xs)) Z (Y.set i (some (.lst ds))) Ω:=by
 obtain⟨a',ys,es,q1,q2,q3,q4,q5⟩:=R.rs.own i hi;rw[ha] at q2;cases q2
 have hS:S a=false:=(un_f.mp q4.2).2;have h0:=R.own0 i hi a ha;have hh:hid (upd H a (.lst xs)) (fob (un F S) Z O)=hid H (fob (un F S) Z O):=jgh (fob_t.mpr (.inr ⟨i,hi,ha⟩));refine⟨(R.rs.write hi ha hr).rebase,R.rho,fun b o h1 h2=>?_,R.old,R.new,R.own0,R.ff,?_⟩
 ·rw[jaj (ja6 h2 h0)];exact R.same b o h1 h2
 ·rw[hh];refine R.sto.mono (fun b hb=>?_) (Same.refl _) (jlk R.sto.tv fun _ z=>nomatch z);rw[jaj];rintro rfl;rw[hS] at hb;cases hb
def RM.take(R:RM Jz Sz Hz F K mg O J S H Z Y Ω){i:Nat}{ds:List D}{p:Addr}{xs:List V}(ho:i∉O)(hi:i<Y.length)(hp:H p=none)(hr:Reps J K (hid H (fob (un F S) Z O)) ds xs) :
  RM Jz Sz Hz F K mg (i::O) J S (upd H p (.lst xs)) (Z.set i (some (.ref p))) (Y.set i (some (.lst ds))) Ω/\Same (hid H (fob (un F S) Z O)) (hid (upd H p (.lst xs)) (fob (un F S) (Z.set i (some (.ref p))) (i::O))):=by
 have lZ:i<Z.length:=by rw[R.rs.len];exact hi
 have pf:=R.fresh hp;have vs:Same (hid H (fob (un F S) Z O)) (hid (upd H p (.lst xs)) (fob (un F S) (Z.set i (some (.ref p))) (i::O))):=by
  intro b o q;obtain⟨q1,q2⟩:=hid_some.mp q;have hb:b≠p:=ja6 q2 hp;refine hid_some.mpr ⟨?_,by rw[jaj hb];exact q2⟩
  cases z:fob (un F S) (Z.set i (some (.ref p))) (i::O) b with
  | false=>rfl
  | true =>
   rcases fob_t.mp z with z|⟨j,hj,z⟩
   ·rw[fob_t.mpr (.inl z)] at q1;cases q1
   ·rcases List.mem_cons.mp hj with rfl|hj
    ·rw[zcz lZ] at z;cases z;exact absurd rfl hb
    ·rw[zbw (by rintro rfl;exact ho hj)] at z;rw[fob_t.mpr (.inr ⟨j,hj,z⟩)] at q1;cases q1
 refine⟨⟨(R.rs.take ho hi (Same.refl H) hp hr).rebase,R.rho,fun b o h1 h2=>?_,R.old,R.new,fun j hj a q=>?_,R.ff,R.sto.mono (fun b hb=>?_) vs (jxj (jlk R.sto.tv fun _ z=>nomatch z) vs)⟩,vs⟩
 ·have h3:=R.same b o h1 h2;rw[jaj (ja6 h3 hp)];exact h3
 ·rcases List.mem_cons.mp hj with rfl|hj
  ·rw[zcz lZ] at q;cases q;exact R.fresh00 hp
  ·rw[zbw (by rintro rfl;exact ho hj)] at q;exact R.own0 j hj a q
 ·rw[jaj];rintro rfl;rw[R.noS hp] at hb;cases hb
end
inductive tE(K:W.Frag)(mg:qa)(O:List Nat)(f:DSt->MS D)(Z:St)(H:Hp)(Q:VK):Prop
 | mk (Jz:Rho) (Sz:qe) (Hz:Hp) (F:qe) (J:Rho) (S:qe) (Y:DSt) (Ω:Sto) (R:RM Jz Sz Hz F K mg O J S H Z Y Ω) (r:Except XD D) (Ω':Sto) (hf:f Y Ω=some (r,Ω')) (k:match (generalizing:=false) r with
  | .ok d=>∀ v J' S' H',RM Jz Sz Hz F K mg O J' S' H' Z Y Ω'->RLe J J'->Same (hid H (fob (un F S) Z O)) (hid H' (fob (un F S') Z O))->Rep J' K (hid H' (fob (un F S') Z O)) d v->Q v H'
  | .error _=>True)
def ME(X:Cx)(O:List Nat)(e:Expr)(f:DSt->MS D):Prop:=PE X e (tE X.K X.mg O f)
inductive tEB(K:W.Frag)(mg:qa)(O:List Nat)(f:DSt->MS Bool)(Z:St)(H:Hp)(Q:Bool->Hp->Prop):Prop
 | mk (Jz:Rho) (Sz:qe) (Hz:Hp) (F:qe) (J:Rho) (S:qe) (Y:DSt) (Ω:Sto) (R:RM Jz Sz Hz F K mg O J S H Z Y Ω) (r:Except XD Bool) (Ω':Sto) (hf:f Y Ω=some (r,Ω')) (k:match (generalizing:=false) r with
  | .ok d=>∀ J' S' H',RM Jz Sz Hz F K mg O J' S' H' Z Y Ω'->RLe J J'->Same (hid H (fob (un F S) Z O)) (hid H' (fob (un F S') Z O))->Q d H'
  | .error _=>True)
def MT(X:Cx)(O:List Nat)(e:Expr)(f:DSt->MS Bool):Prop:=PT X e (tEB X.K X.mg O f)
def MW(X:Cx)(O:List Nat)(e:Expr)(f:DSt->MS Bool):Prop:=PW X e (tEB X.K X.mg O f)
inductive tEL(K:W.Frag)(mg:qa)(O:List Nat)(f:DSt->MS (List D))(Z:St)(H:Hp)(Q:List V->Hp->Prop):Prop
 | mk (Jz:Rho) (Sz:qe) (Hz:Hp) (F:qe) (J:Rho) (S:qe) (Y:DSt) (Ω:Sto) (R:RM Jz Sz Hz F K mg O J S H Z Y Ω) (r:Except XD (List D)) (Ω':Sto) (hf:f Y Ω=some (r,Ω')) (k:match (generalizing:=false) r with
  | .ok ds=>∀ vs J' S' H',RM Jz Sz Hz F K mg O J' S' H' Z Y Ω'->RLe J J'->Same (hid H (fob (un F S) Z O)) (hid H' (fob (un F S') Z O))->Reps J' K (hid H' (fob (un F S') Z O)) ds vs->Q vs H'
  | .error _=>True)
def MA(X:Cx)(O:List Nat)(es:List Expr)(f:DSt->MS (List D)):Prop:=PA X es (tEL X.K X.mg O f)
def lF{α:Type}(f:DSt->M α):DSt->MS α:=fun Y=>MS.l (f Y)
def jfu(f:DSt->MS D)(g:DSt->MS (List D)):DSt->MS (List D):=fun Y=>(f Y).b fun x=>(g Y).b fun xs=>MS.p (x::xs)
def m2(g:D->D->Option D)(fa fb:DSt->MS D):DSt->MS D:=fun Y=>(fa Y).b fun x=>(fb Y).b fun y=>MS.o (g x y)
def m1(g:D->Option D)(fa:DSt->MS D):DSt->MS D:=fun Y=>(fa Y).b fun x=>MS.o (g x)
def mL(k:List D->Option D)(g:DSt->MS (List D)):DSt->MS D:=fun Y=>(g Y).b fun xs=>MS.o (k xs)
def mTru(fa:DSt->MS D):DSt->MS Bool:=fun Y=>(fa Y).b fun x=>MS.o (truD x)
def mNot(ta:DSt->MS Bool):DSt->MS Bool:=fun Y=>(ta Y).b fun x=>MS.p !x
def mAnd(ta tb:DSt->MS Bool):DSt->MS Bool:=fun Y=>(ta Y).b fun x=>if x=true then tb Y else MS.p false
def mOr(ta tb:DSt->MS Bool):DSt->MS Bool:=fun Y=>(ta Y).b fun x=>if x=true then MS.p true else tb Y
def getO(cs:List Str)(f:Str):D->MS D:=fun x Ω=>match x with
 | .obj i=>match Ω[i]? with
  | some (.ins c fs)=>if cs.contains c then (fs.lookup f).map fun d=>(.ok d,Ω) else none
  | _=>none
 | _=>none
def mGet(cs:List Str)(f:Str)(fa:DSt->MS D):DSt->MS D:=fun Y=>(fa Y).b fun x=>getO cs f x
section
variable {X:Cx}{O:List Nat}{a b c e:Expr}{es:List Expr}{fa fb:DSt->MS D}{fl:DSt->MS (List D)}{pos:Pos}{ta tb:DSt->MS Bool}
def jag{f:DSt->M D}(h:DE X O E0 e f):ME X O e (lF f):=by
 rintro U s Z H Q I ⟨Jz,Sz,Hz,F,J,S,Y,Ω,R,r,Ω',hf,k⟩;obtain⟨hg,rfl⟩:=MS.l_inv hf;refine h U s Z H Q I ⟨J,_,un F S,Y,r,R.rs,hg,?_⟩
 cases r with
 | ok d=>exact fun v H' s' rv=>k v J S H' (R.mono s') (RLe.refl _) (jaq s') rv
 | error x=>exact fun c dx H' _ z=>z.elim
def jej{f:DSt->M Bool}(h:DT X O E0 e f):MT X O e (lF f):=by
 rintro U s Z H Q I ⟨Jz,Sz,Hz,F,J,S,Y,Ω,R,r,Ω',hf,k⟩;obtain⟨hg,rfl⟩:=MS.l_inv hf;refine h U s Z H Q I ⟨J,_,un F S,Y,r,R.rs,hg,?_⟩
 cases r with
 | ok d=>exact fun H' s'=>k J S H' (R.mono s') (RLe.refl _) (jaq s')
 | error x=>exact fun c dx H' _ z=>z.elim
def jcl{f:DSt->M (List D)}(h:DA X O E0 es f):MA X O es (lF f):=by
 rintro p U s Z H Q I ⟨Jz,Sz,Hz,F,J,S,Y,Ω,R,r,Ω',hf,k⟩;obtain⟨hg,rfl⟩:=MS.l_inv hf;refine h p U s Z H Q I ⟨J,_,un F S,Y,r,R.rs,hg,?_⟩
 cases r with
 | ok d=>exact fun v H' s' rv=>k v J S H' (R.mono s') (RLe.refl _) (jaq s') rv
 | error x=>exact fun c dx H' _ z=>z.elim
def jdr(ha:ME X O e fa)(hr:MA X O es fl)(hs:zsE e es X.env:=by rfl):MA X O (e::es) (jfu fa fl):=by
 rintro p U s Z H Q I ⟨Jz,Sz,Hz,F,J,S,Y,Ω,R,r,Ω',hf,k⟩;refine jfo ha hr hs p U s Z H Q I ?_;rcases MS.b_inv hf with ⟨x,Ω1,e1,hf⟩|⟨x,e1,rfl⟩
 ·refine⟨Jz,Sz,Hz,F,J,S,Y,Ω,R,.ok x,Ω1,e1,fun u ρ1 S1 H1 R1 l1 v1 r1=>?_⟩;rcases MS.b_inv hf with ⟨xs,Ω2,e2,hf⟩|⟨y,e2,rfl⟩
  ·cases hf;exact⟨Jz,Sz,Hz,F,ρ1,S1,Y,Ω1,R1,.ok xs,_,e2,fun vs ρ2 S2 H2 R2 l2 v2 r2=>k (u::vs) ρ2 S2 H2 R2 (l1.trans l2) (v1.trans v2) (Reps.cons ((r1.rho l2).mono v2) r2)⟩
  ·exact⟨Jz,Sz,Hz,F,ρ1,S1,Y,Ω1,R1,.error y,_,e2,trivial⟩
 ·exact⟨Jz,Sz,Hz,F,J,S,Y,Ω,R,.error x,_,e1,trivial⟩
def jqn{g:D->D->Option D}{r:R2}{Z:St}{H:Hp}{Q:VK}(hg:OpD X.K g r)(h:tE X.K X.mg O (m2 g fa fb) Z H Q):tOp r (tE X.K X.mg O fa) (tE X.K X.mg O fb) Z H Q:=by
 obtain⟨Jz,Sz,Hz,F,J,S,Y,Ω,R,r,Ω',hf,k⟩:=h;rcases MS.b_inv hf with ⟨x,Ω1,e1,hf⟩|⟨x,e1,rfl⟩
 ·refine⟨Jz,Sz,Hz,F,J,S,Y,Ω,R,.ok x,Ω1,e1,fun u ρ1 S1 H1 R1 l1 v1 r1=>?_⟩;rcases MS.b_inv hf with ⟨y,Ω2,e2,hf⟩|⟨y,e2,rfl⟩
  ·refine⟨Jz,Sz,Hz,F,ρ1,S1,Y,Ω1,R1,.ok y,Ω2,e2,fun w ρ2 S2 H2 R2 l2 v2 r2=>?_⟩;obtain⟨d,hd,rfl,rfl⟩:=MS.o_inv hf;exact hg x y d hd ρ2 H2 _ u w Q (fun p hp=>R2.fresh hp) ((r1.rho l2).mono v2) r2 fun z H3 s3 r3=>k z ρ2 S2 H3 (R2.mono s3) (l1.trans l2) (v1.trans (v2.trans (jaq s3))) r3
  ·exact⟨Jz,Sz,Hz,F,ρ1,S1,Y,Ω1,R1,.error y,_,e2,trivial⟩
 ·exact⟨Jz,Sz,Hz,F,J,S,Y,Ω,R,.error x,_,e1,trivial⟩
def jF2{g:D->D->Option D}{r:R2}(ho:IxR X r)(hg:OpD X.K g r)(ha:ME X O a fa)(hb:ME X O b fb)(hs:jkj b:=by exact fun _ _=>rfl):ME X O (.Subscript a b pos) (m2 g fa fb) :=
 fun U s Z H Q I h=>jy8 ho ha hb hs U s Z H Q I (jqn hg h)
def jFz{op:CmpOp}{g:D->D->Option D}{r:R2}(ho:OpR X (compareOp op) r)(hg:OpD X.K g r)(ha:ME X O a fa)(hb:ME X O b fb)(hm:behindInMarks op b=false):ME X O (.Compare a [op] [b] pos) (m2 g fa fb) :=
 fun U s Z H Q I h=>jwc ho ha hb hm U s Z H Q I (jqn hg h)
def jF5{x1}(h:MA X O es fl):ME X O (.Tuple es x1 pos) (mL jb3 fl):=by
 rintro U s Z H Q I ⟨Jz,Sz,Hz,F,J,S,Y,Ω,R,r,Ω',hf,k⟩;refine jwe h U s Z H Q I ?_;rcases MS.b_inv hf with ⟨x,Ω1,e1,hf⟩|⟨x,e1,rfl⟩
 ·refine⟨Jz,Sz,Hz,F,J,S,Y,Ω,R,.ok x,Ω1,e1,fun u ρ1 S1 H1 R1 l1 v1 r1=>?_⟩;obtain⟨d,hd,rfl,rfl⟩:=MS.o_inv hf;unfold jb3 at hd
  split at hd
  ·rename_i hz;cases hd;exact⟨by rw[r1.length];exact hz,fun p hp=>k _ ρ1 S1 _ (R1.mono (ja7 hp)) l1 (v1.trans (jaq (ja7 hp))) (jc7 hp (R1.fresh hp) r1)⟩
  ·cases hd
 ·exact⟨Jz,Sz,Hz,F,J,S,Y,Ω,R,.error x,_,e1,trivial⟩
def jxq(X:Cx)(cs:List Str)(f:Str):Prop:=∀ c∈cs,∀ C,X.mg c=some (.ref C)->Cls X.K C/\NoAttr X.K C f
def jx9{cs:List Str}{f:Str}{x:D}{Ω Ω':Sto}{r:Except XD D}(h:getO cs f x Ω=some (r,Ω')):∃ i cl fs d,x=.obj i/\Ω[i]? = some (.ins cl fs)/\cs.contains cl=true/\fs.lookup f=some d/\r=.ok d/\Ω'=Ω:=by
 unfold getO at h
 cases x with
 | obj i =>
  dsimp only at h
  cases hi:Ω[i]? with
  | none=>rw[hi] at h;cases h
  | some so =>
   rw[hi] at h
   cases so with
   | lst _=>cases h
   | exc _ _=>cases h
   | xd _=>cases h
   | ins cl fs =>
    dsimp only at h
    by_cases hc:cs.contains cl=true
    ·rw[if_pos hc] at h
     cases hl:fs.lookup f with
     | none=>rw[hl] at h;cases h
     | some d=>rw[hl] at h;cases h;exact⟨i,cl,fs,d,rfl,hi,hc,hl,rfl,rfl⟩
    ·rw[if_neg hc] at h;cases h
 | _=>cases h
def jk0{cs:List Str}{f:Str}(hc:jxq X cs f)(ha:ME X O e fa)(hb:attributeBase e f X.env (eval e X.env)=eval e X.env:=by rfl):ME X O (.Attribute e f pos) (mGet cs f fa):=by
 rintro U s Z H Q I ⟨Jz,Sz,Hz,F,J,S,Y,Ω,R,r,Ω',hf,k⟩;refine jGk ha hb U s Z H Q I ?_;rcases MS.b_inv hf with ⟨x,Ω1,e1,hf⟩|⟨x,e1,rfl⟩
 ·refine⟨Jz,Sz,Hz,F,J,S,Y,Ω,R,.ok x,Ω1,e1,fun u ρ1 S1 H1 R1 l1 v1 r1=>?_⟩;obtain⟨i,cl,fs,d,rfl,hi,hcl,hl,rfl,rfl⟩:=jx9 hf;obtain⟨ad,q1,q2⟩:=rep_obj.mp r1;obtain⟨ad',p1,p2,C,dx,vfs,p3,p4,p5,p6,p7⟩:=R1.sto.ats i _ hi;rw[q1] at p1;cases p1
  obtain⟨g1,g2⟩:=hc cl (zbc.mp hcl) C p3;obtain⟨w,w1,w2⟩:=p7.get hl;exact⟨ad,C,dx,vfs,w,q2,p4,g1,g2,w1,k w ρ1 S1 H1 R1 l1 v1 w2⟩
 ·exact⟨Jz,Sz,Hz,F,J,S,Y,Ω,R,.error x,_,e1,trivial⟩
def jvr(ha:ME X O a fa)(he:∀ whole,isTrue a X.env whole=(do let v <- whole;standAt a.pos;holding [v] (truthy v)):=by exact fun _=>rfl):MT X O a (mTru fa):=by
 rintro U s Z H Q I ⟨Jz,Sz,Hz,F,J,S,Y,Ω,R,r,Ω',hf,k⟩;refine jsj ha he U s Z H Q I ?_;rcases MS.b_inv hf with ⟨x,Ω1,e1,hf⟩|⟨x,e1,rfl⟩
 ·refine⟨Jz,Sz,Hz,F,J,S,Y,Ω,R,.ok x,Ω1,e1,fun u ρ1 S1 H1 R1 l1 v1 r1=>?_⟩;obtain⟨z,hz,rfl,rfl⟩:=MS.o_inv hf;refine⟨z,?_,k ρ1 S1 H1 R1 l1 v1⟩
  cases x with
  | non=>cases hz;rw[rep_non.mp r1];rfl
  | bl y=>cases hz;rw[rep_bl.mp r1];rfl
  | int i=>cases hz;rw[rep_int.mp r1];rfl
  | str y =>
   by_cases hl:y.length<=sizeLine
   ·have e:truD (.str y)=some ((y.length:Int) != 0):=if_pos hl;rw[e] at hz;cases hz
    rw[rep_str.mp r1];exact⟨hl,rfl⟩
   ·have e:truD (.str y)=none:=if_neg hl;rw[e] at hz;cases hz
  | tup ds =>
   cases hz;obtain⟨q,xs,rfl,q2,q3⟩:=rep_tup.mp r1;exact .inr (.inl ⟨xs,jde jao q2,by rw[isE q3]⟩)
  | lst ds =>
   cases hz;obtain⟨q,xs,rfl,q2,q3⟩:=rep_lst.mp r1;exact .inl ⟨xs,jem jao q2,by rw[isE q3]⟩
  | ty n=>cases hz
  | obj n=>cases hz
 ·exact⟨Jz,Sz,Hz,F,J,S,Y,Ω,R,.error x,_,e1,trivial⟩
def jAm(ha:MT X O a ta):MT X O (.UnaryOp .Not a pos) (mNot ta):=by
 rintro U s Z H Q I ⟨Jz,Sz,Hz,F,J,S,Y,Ω,R,r,Ω',hf,k⟩;refine jAy ha U s Z H Q I ?_;rcases MS.b_inv hf with ⟨x,Ω1,e1,hf⟩|⟨x,e1,rfl⟩
 ·cases hf;exact⟨Jz,Sz,Hz,F,J,S,Y,Ω,R,.ok x,_,e1,fun ρ1 S1 H1 R1 l1 v1=>k ρ1 S1 H1 R1 l1 v1⟩
 ·exact⟨Jz,Sz,Hz,F,J,S,Y,Ω,R,.error x,_,e1,trivial⟩
def MW.mt{f:DSt->MS Bool}(h:MW X O e f):MT X O e f:=PW.pt h
def jvu(ha:MT X O a ta):MW X O (.BoolOp .And [a] pos) ta:=jwq ha
def jAo(ha:MT X O a ta):MW X O (.BoolOp .Or [a] pos) ta:=jA0 ha
def jvt{rest:List Expr}(ha:MT X O a ta)(hb:MW X O (.BoolOp .And (b::rest) pos) tb):MW X O (.BoolOp .And (a::b::rest) pos) (mAnd ta tb):=by
 rintro wh U s Z H Q I ⟨Jz,Sz,Hz,F,J,S,Y,Ω,R,r,Ω',hf,k⟩;refine jAz ha hb wh U s Z H Q I ?_;rcases MS.b_inv hf with ⟨x,Ω1,e1,hf⟩|⟨x,e1,rfl⟩
 ·refine⟨Jz,Sz,Hz,F,J,S,Y,Ω,R,.ok x,Ω1,e1,fun ρ1 S1 H1 R1 l1 v1=>?_⟩
  cases x with
  | true =>
   refine iteT ⟨Jz,Sz,Hz,F,ρ1,S1,Y,Ω1,R1,r,Ω',hf,?_⟩
   cases r with
   | ok d=>exact fun ρ2 S2 H2 R2 l2 v2=>k ρ2 S2 H2 R2 (l1.trans l2) (v1.trans v2)
   | error y=>trivial
  | false=>cases hf;exact iteF (k ρ1 S1 H1 R1 l1 v1)
 ·exact⟨Jz,Sz,Hz,F,J,S,Y,Ω,R,.error x,_,e1,trivial⟩
def jGc{rest:List Expr}(ha:MT X O a ta)(hb:MW X O (.BoolOp .Or (b::rest) pos) tb):MW X O (.BoolOp .Or (a::b::rest) pos) (mOr ta tb):=by
 rintro wh U s Z H Q I ⟨Jz,Sz,Hz,F,J,S,Y,Ω,R,r,Ω',hf,k⟩;refine jGw ha hb wh U s Z H Q I ?_;rcases MS.b_inv hf with ⟨x,Ω1,e1,hf⟩|⟨x,e1,rfl⟩
 ·refine⟨Jz,Sz,Hz,F,J,S,Y,Ω,R,.ok x,Ω1,e1,fun ρ1 S1 H1 R1 l1 v1=>?_⟩
  cases x with
  | true=>cases hf;exact iteT (k ρ1 S1 H1 R1 l1 v1)
  | false =>
   refine iteF ⟨Jz,Sz,Hz,F,ρ1,S1,Y,Ω1,R1,r,Ω',hf,?_⟩
   cases r with
   | ok d=>exact fun ρ2 S2 H2 R2 l2 v2=>k ρ2 S2 H2 R2 (l1.trans l2) (v1.trans v2)
   | error y=>trivial
 ·exact⟨Jz,Sz,Hz,F,J,S,Y,Ω,R,.error x,_,e1,trivial⟩
end
structure RT(Jz:Rho)(Sz:qe)(Hz:Hp)(F:qe)(K:W.Frag)(mg:qa)(J:Rho)(S:qe)(H:Hp)(Ω:Sto):Prop where
 rho:RLe Jz J
 same:∀ b o,Sz b=false->Hz b=some o->H b=some o
 old:∀ b,Sz b=true->S b=true
 new:∀ b,S b=true->Sz b=true\/Hz b=none
 ff:∀ b,F b=true->S b=false
 sto:StoOk J S K mg H (hid H (un F S)) Ω
section
variable {Jz J:Rho}{Sz S F:qe}{Hz H H':Hp}{K:W.Frag}{mg:qa}{O O':List Nat}{Z Z':St}{Y Y':DSt}{Ω:Sto}
def jg0{Z:St}{O:List Nat}{F:qe}:∀ b,F b=true->fob F Z O b=true:=fun b h=>fob_t.mpr (.inl h)
def RM.rt(R:RM Jz Sz Hz F K mg O J S H Z Y Ω):RT Jz Sz Hz F K mg J S H Ω :=
 ⟨R.rho,R.same,R.old,R.new,R.ff,R.sto.mono (fun _ _=>rfl) (jfg jg0) (jxj R.sto.tv (jfg jg0))⟩
def RM.base_some(R:RM Jz Sz Hz F K mg O J S H Z Y Ω){b:Addr}{o:HO}(h:H b=some o)(hn:¬ ∃ i∈O,Z[i]? = some (some (.ref b))):hid H (fob nof Z O) b=some o :=
 hid_some.mpr ⟨by cases e:fob nof Z O b with
  | false=>rfl
  | true=>rcases fob_t.mp e with q|q;cases q;exact absurd q hn,h⟩
def RM.base_S(R:RM Jz Sz Hz F K mg O J S H Z Y Ω){b:Addr}(hb:S b=true):¬ ∃ i∈O,Z[i]? = some (some (.ref b)):=by
 rintro⟨i,hi,q⟩;obtain⟨a,xs,ds,q1,q2,q3,q4,q5⟩:=R.rs.own i hi;rw[q] at q2;cases q2
 rw[(un_f.mp q4.2).2] at hb;cases hb
def RM.base_0(R:RM Jz Sz Hz F K mg O J S H Z Y Ω){b:Addr}{o:HO}(hb:Hz b=some o):¬ ∃ i∈O,Z[i]? = some (some (.ref b)):=by
 rintro⟨i,hi,q⟩;rw[R.own0 i hi b q] at hb;cases hb
def RM.no_tup(R:RM Jz Sz Hz F K mg O J S H Z Y Ω)(s:Same (hid H (fob nof Z O)) H'){b:Addr}{xs:List V}(hb:un F S b=true):H' b≠some (.tup xs):=fun q=>by
 cases e:H b with
 | none=>exact R.rs.fin b hb e
 | some o =>
  have:=s b o (R.base_some e fun ⟨i,hi,y⟩=>by
   obtain⟨a,xs,ds,q1,q2,q3,q4,q5⟩:=R.rs.own i hi;rw[y] at q2;cases q2
   rw[q4.2] at hb;cases hb)
  rw[q] at this;cases this;have:=(hid_some.mp (R.sto.tv b xs e)).1;rw[jg0 b hb] at this;cases this
def RM.next(R:RM Jz Sz Hz F K mg O J S H Z Y Ω)(R':RS J K (hid H (fob nof Z O)) H' (un F S) O' Z' Y')(v:Same (hid H (fob (un F S) Z O)) (hid H' (fob (un F S) Z' O'))):RM Jz Sz Hz F K mg O' J S H' Z' Y' Ω:=by
 refine⟨R'.rebase,R.rho,fun b o h1 h2=>R'.same b o (R.base_some (R.same b o h1 h2) (R.base_0 h2)),R.old,R.new,fun i hi a q=>?_,R.ff,R.sto.mono (fun b hb=>?_) v fun b xs q=>hid_some.mpr ⟨?_,q⟩⟩
 ·obtain⟨a',xs,ds,q1,q2,q3,q4,q5⟩:=R'.own i hi;rw[q] at q2;cases q2
  have h0:=q4.1
  cases e:H a with
  | none=>exact R.fresh00 e
  | some o =>
   by_cases hn:∃ i∈O,Z[i]? = some (some (.ref a))
   ·obtain⟨j,hj,z⟩:=hn;exact R.own0 j hj a z
   ·rw[R.base_some e hn] at h0;cases h0
 ·cases e:H b with
  | none=>exact absurd e (R.sto.fin b hb)
  | some o=>exact R'.same b o (R.base_some e (R.base_S hb))
 ·cases z:fob (un F S) Z' O' b with
  | false=>rfl
  | true =>
   rcases fob_t.mp z with z|⟨i,hi,z⟩
   ·exact absurd q (R.no_tup R'.same z)
   ·obtain⟨a,xs,ds,q1,q2,q3,q4,q5⟩:=R'.own i hi;rw[z] at q2;cases q2
    rw[q3] at q;cases q
def RM.left(R:RM Jz Sz Hz F K mg O J S H Z Y Ω)(s:Same (hid H (fob nof Z O)) H'):RT Jz Sz Hz F K mg J S H' Ω:=by
 refine⟨R.rho,fun b o h1 h2=>s b o (R.base_some (R.same b o h1 h2) (R.base_0 h2)),R.old,R.new,R.ff,R.sto.mono (fun b hb=>?_) (fun b o q=>?_) fun b xs q=>hid_some.mpr ⟨?_,q⟩⟩
 ·cases e:H b with
  | none=>exact absurd e (R.sto.fin b hb)
  | some o=>exact s b o (R.base_some e (R.base_S hb))
 ·obtain⟨q1,q2⟩:=hid_some.mp q;refine hid_some.mpr ⟨?_,s b o (R.base_some q2 fun hn=>?_)⟩
  ·cases e:un F S b with
   | false=>rfl
   | true=>rw[jg0 b e] at q1;cases q1
  ·rw[fob_t.mpr (.inr hn)] at q1;cases q1
 ·cases z:un F S b with
  | false=>rfl
  | true=>exact absurd q (R.no_tup s z)
end
def OkE(K:W.Frag)(mg:qa)(O' B:List Nat)(Jz:Rho)(Sz:qe)(Hz:Hp)(F:qe)(J:Rho)(Hv:Hp)(Dn:Ends):Except XD Out->Sto->Prop
 | .ok (.nx Y'),Ω'=>∀ J' S' Z' H',RM Jz Sz Hz F K mg O' J' S' H' Z' Y' Ω'->RLe J J'->Same Hv (hid H' (fob (un F S') Z' O'))->Dn.nx Z' H'
 | .ok (.rt d),Ω'=>∀ v J' S' H',RT Jz Sz Hz F K mg J' S' H' Ω'->Rep J' K (hid H' (un F S')) d v->Dn.rt v H'
 | .ok (.bk Y'),Ω'=>∀ J' S' Z' H',RM Jz Sz Hz F K mg B J' S' H' Z' Y' Ω'->RLe J J'->Same Hv (hid H' (fob (un F S') Z' B))->Dn.bk Z' H'
 | .ok (.ct Y'),Ω'=>∀ J' S' Z' H',RM Jz Sz Hz F K mg B J' S' H' Z' Y' Ω'->RLe J J'->Same Hv (hid H' (fob (un F S') Z' B))->Dn.ct Z' H'
 | .error _,_=>True
def OkE.back{K:W.Frag}{mg:qa}{O' B:List Nat}{Jz J J':Rho}{Sz:qe}{Hz:Hp}{F:qe}{Hv Hv':Hp}{Dn:Ends}{r:Except XD Out}{Ω':Sto}(l:RLe J J')(e:Same Hv Hv')(h:OkE K mg O' B Jz Sz Hz F J Hv Dn r Ω') :
  OkE K mg O' B Jz Sz Hz F J' Hv' Dn r Ω':=by
 cases r with
 | error x=>trivial
 | ok o =>
  cases o with
  | nx Y'=>exact fun ρ1 S1 Z1 H1 R l1 v1=>h ρ1 S1 Z1 H1 R (l.trans l1) (e.trans v1)
  | bk Y'=>exact fun ρ1 S1 Z1 H1 R l1 v1=>h ρ1 S1 Z1 H1 R (l.trans l1) (e.trans v1)
  | ct Y'=>exact fun ρ1 S1 Z1 H1 R l1 v1=>h ρ1 S1 Z1 H1 R (l.trans l1) (e.trans v1)
  | rt d=>exact h
inductive sE(K:W.Frag)(mg:qa)(O O' B:List Nat)(g:DSt->MS Out)(Dn:Ends)(Z:St)(H:Hp):Prop
 | mk (Jz:Rho) (Sz:qe) (Hz:Hp) (F:qe) (J:Rho) (S:qe) (Y:DSt) (Ω:Sto) (R:RM Jz Sz Hz F K mg O J S H Z Y Ω) (r:Except XD Out) (Ω':Sto) (hf:g Y Ω=some (r,Ω')) (k:OkE K mg O' B Jz Sz Hz F J (hid H (fob (un F S) Z O)) Dn r Ω')
def MSt(X:Cx)(O O' B:List Nat)(st:Stmt)(g:DSt->MS Out):Prop:=PS X st (sE X.K X.mg O O' B g)
def MSs(X:Cx)(O O' B:List Nat)(st:List Stmt)(g:DSt->MS Out):Prop:=PSs X st (sE X.K X.mg O O' B g)
def eNx:DSt->MS Out:=fun Y=>MS.p (.nx Y)
def eSeq(g1 g2:DSt->MS Out):DSt->MS Out:=fun Y=>(g1 Y).b fun o=>match o with
 | .nx Y'=>g2 Y'
 | o=>MS.p o
def eSet(i:Nat)(f:DSt->MS D):DSt->MS Out:=fun Y=>(f Y).b fun d=>MS.p (.nx (Y.set i (some d)))
def eRet(f:DSt->MS D):DSt->MS Out:=fun Y=>(f Y).b fun d=>MS.p (.rt d)
def je9(f:DSt->MS D):DSt->MS Out:=fun Y=>(f Y).b fun _=>MS.p (.nx Y)
def eIf(t:DSt->MS Bool)(g1 g2:DSt->MS Out):DSt->MS Out:=fun Y=>(t Y).b fun b=>if b=true then g1 Y else g2 Y
def eApp(i:Nat)(f:DSt->MS D):DSt->MS Out:=fun Y=>(f Y).b fun d=>match (Y[i]?).join with
 | some (.lst ds)=>if ds.length<sizeLine then MS.p (.nx (Y.set i (some (.lst (ds++[d]))))) else fun _=>none
 | _=>fun _=>none
def ePop(i j:Nat):DSt->MS Out:=fun Y=>match (Y[j]?).join with
 | some (.lst ds)=>match ds[ds.length-1]? with
  | some d=>MS.p (.nx ((Y.set j (some (.lst ds.dropLast))).set i (some d)))
  | none=>fun _=>none
 | _=>fun _=>none
def putO(cs:List Str)(f:Str)(x d:D):MS Unit:=fun Ω=>match x with
 | .obj i=>match Ω[i]? with
  | some (.ins c fs)=>if (cs.contains c&&decide (fs.length<1000))=true then some (.ok (),Ω.set i (.ins c (putD f d fs))) else none
  | _=>none
 | _=>none
def ePut(cs:List Str)(f:Str)(fo fv:DSt->MS D):DSt->MS Out:=fun Y=>(fv Y).b fun d=>(fo Y).b fun x=>(putO cs f x d).b fun _=>MS.p (.nx Y)
def forE(g:DSt->MS Out)(tg:D->DSt->Option DSt):List D->DSt->MS Out
 | [],Y=>MS.p (.nx Y)
 | d::ds,Y=>match tg d Y with
  | none=>fun _=>none
  | some Y1=>(g Y1).b fun o=>match o with
   | .nx Y'=>forE g tg ds Y'
   | .ct Y'=>forE g tg ds Y'
   | .bk Y'=>MS.p (.nx Y')
   | .rt v=>MS.p (.rt v)
def eFor(fi:DSt->MS (List D))(tg:D->DSt->Option DSt)(g:DSt->MS Out):DSt->MS Out:=fun Y=>(fi Y).b fun ds=>forE g tg ds Y
def jcg(t:DSt->MS Bool)(g:DSt->MS Out):Nat->DSt->MS Out
 | 0,_=>fun _=>none
 | n+1,Y=>(t Y).b fun b=>if b=true then (g Y).b fun o=>match o with
   | .nx Y'=>jcg t g n Y'
   | .ct Y'=>jcg t g n Y'
   | .bk Y'=>MS.p (.nx Y')
   | .rt v=>MS.p (.rt v)
  else MS.p (.nx Y)
section
variable {X:Cx}{O O' O'' B:List Nat}{c e:Expr}{es:List Expr}{fa:DSt->MS D}{fl:DSt->MS (List D)}{pos:Pos}{st:Stmt}{rest:List Stmt}{g g1 g2:DSt->MS Out}{tc:DSt->MS Bool}
def jbd{h:DSt->M Out}(hd:DS X O O' B E0 st h):MSt X O O' B st (lF h):=by
 rintro U s Z H Dn I ⟨Jz,Sz,Hz,F,J,S,Y,Ω,R,r,Ω',hf,k⟩;obtain⟨hg,rfl⟩:=MS.l_inv hf;refine hd U s Z H Dn I ⟨J,_,un F S,Y,r,R.rs,hg,?_⟩
 cases r with
 | error x=>exact fun c dx H' _ z=>z.elim
 | ok o =>
  cases o with
  | nx Y'=>exact fun Z' H' v R'=>k J S Z' H' (R.next R' v) (RLe.refl _) v
  | bk Y'=>exact fun Z' H' v R'=>k J S Z' H' (R.next R' v) (RLe.refl _) v
  | ct Y'=>exact fun Z' H' v R'=>k J S Z' H' (R.next R' v) (RLe.refl _) v
  | rt d=>exact fun v H' s' rv=>k v J S H' (R.left s') rv
def jgo:MSs X O O B [] eNx:=by
 rintro U s Z H Dn I ⟨Jz,Sz,Hz,F,J,S,Y,Ω,R,r,Ω',hf,k⟩;cases hf;exact jwn U s Z H Dn I (k J S Z H R (RLe.refl _) (Same.refl _))
def jak(h1:MSt X O O' B st g1)(h2:MSs X O' O'' B rest g2):MSs X O O'' B (st::rest) (eSeq g1 g2):=by
 rintro U s Z H Dn I ⟨Jz,Sz,Hz,F,J,S,Y,Ω,R,r,Ω',hf,k⟩;refine jns h1 h2 U s Z H Dn I ?_;rcases MS.b_inv hf with ⟨o,Ω1,e1,hf⟩|⟨x,e1,rfl⟩
 ·refine⟨Jz,Sz,Hz,F,J,S,Y,Ω,R,.ok o,Ω1,e1,?_⟩
  cases o with
  | nx Y'=>exact fun ρ1 S1 Z1 H1 R1 l1 v1=>⟨Jz,Sz,Hz,F,ρ1,S1,Y',Ω1,R1,r,Ω',hf,k.back l1 v1⟩
  | rt d=>cases hf;exact k
  | bk Y'=>cases hf;exact k
  | ct Y'=>cases hf;exact k
 ·exact⟨Jz,Sz,Hz,F,J,S,Y,Ω,R,.error x,_,e1,trivial⟩
def jcb(h1:MSt X O O' B st g):MSs X O O' B [st] g:=fun U s Z H Dn I h=>jnt h1 U s Z H Dn I h
def jo3{i:Nat}{x:Str}{pos':Pos}(hN:X.N.Nodup)(he:ME X O e fa)(ho:O.contains i=false:=by rfl)(hi:X.N[i]? = some x:=by rfl)(hx:Loc X.env.scope x:=by first|exact Or.inl rfl|exact Or.inr rfl)(hs:swapsWith e (some (.Name x pos')) pos.line X.env=pure false:=by rfl)
  (hf:X.fn x=true\/X.env.scope.names.lookup x=some .local:=by first|exact .inl rfl|exact .inr rfl|assumption):MSt X O O B (.Assign [.Name x pos'] e pos) (eSet i fa):=by
 rintro U s Z H Dn I ⟨Jz,Sz,Hz,F,J,S,Y,Ω,R,r,Ω',hg,k⟩;have ho':i∉O:=fun z=>by rw[zbc.mpr z] at ho;cases ho
 refine jma hN hi hx he hs hf U s Z H Dn I ?_;rcases MS.b_inv hg with ⟨d,Ω1,e1,hg⟩|⟨x,e1,rfl⟩
 ·cases hg;exact⟨Jz,Sz,Hz,F,J,S,Y,Ω,R,.ok d,_,e1,fun v ρ1 S1 H1 R1 l1 v1 r1=>k ρ1 S1 _ H1 (R1.set ho' r1) l1 (by rw[jda ho'];exact v1)⟩
 ·exact⟨Jz,Sz,Hz,F,J,S,Y,Ω,R,.error x,_,e1,trivial⟩
def jF8{i:Nat}{x:Str}{pos' pos2:Pos}(hN:X.N.Nodup)(h:MA X O es fl)(ho:O.contains i=false:=by rfl)(hi:X.N[i]? = some x:=by rfl)(hx:Loc X.env.scope x:=by first|exact Or.inl rfl|exact Or.inr rfl)(hs:swapsWith (.List es pos2) (some (.Name x pos')) pos.line X.env=pure false:=by rfl)
  (hf:X.fn x=true\/X.env.scope.names.lookup x=some .local:=by first|exact .inl rfl|exact .inr rfl|assumption):MSt X O (i::O) B (.Assign [.Name x pos'] (.List es pos2) pos) (eSet i (mL jbq fl)):=by
 rintro U s Z H Dn I ⟨Jz,Sz,Hz,F,J,S,Y,Ω,R,r,Ω',hg,k⟩;have ho':i∉O:=fun z=>by rw[zbc.mpr z] at ho;cases ho
 have hl:i<Y.length:=by rw[<- R.rs.len,I.len];exact (zbb.mp hi).1
 refine jma hN hi hx (jph h) hs hf U s Z H Dn I ?_;rcases MS.b_inv hg with ⟨d,Ω1,e1,hg⟩|⟨x,e1,rfl⟩
 ·cases hg;rcases MS.b_inv e1 with ⟨ds,Ω2,e1,hd⟩|⟨x,e1,z⟩
  ·refine⟨Jz,Sz,Hz,F,J,S,Y,Ω,R,.ok ds,_,e1,fun vs ρ1 S1 H1 R1 l1 v1 r1=>?_⟩;obtain⟨d',hd',z,w⟩:=MS.o_inv hd;cases z;cases w;unfold jbq at hd'
   split at hd'
   ·rename_i hz;cases hd';refine⟨by rw[r1.length];exact hz,fun p hp=>?_⟩;obtain⟨t1,t2⟩:=R1.take ho' hl hp r1;exact k ρ1 S1 _ _ t1 l1 (v1.trans t2)
   ·cases hd'
  ·cases z
 ·rcases MS.b_inv e1 with ⟨ds,Ω2,e1,hd⟩|⟨y,e1,z⟩
  ·obtain⟨_,_,z,_⟩:=MS.o_inv hd;cases z
  ·cases z;exact⟨Jz,Sz,Hz,F,J,S,Y,Ω,R,.error _,_,e1,trivial⟩
def jr9(he:ME X O e fa):MSt X O O' B (.Return (some e) pos) (eRet fa):=by
 rintro U s Z H Dn I ⟨Jz,Sz,Hz,F,J,S,Y,Ω,R,r,Ω',hg,k⟩;refine jwm he U s Z H Dn I ?_;rcases MS.b_inv hg with ⟨d,Ω1,e1,hg⟩|⟨x,e1,rfl⟩
 ·cases hg;exact⟨Jz,Sz,Hz,F,J,S,Y,Ω,R,.ok d,_,e1,fun v ρ1 S1 H1 R1 l1 v1 r1=>k v ρ1 S1 H1 R1.rt (r1.mono (jfg jg0))⟩
 ·exact⟨Jz,Sz,Hz,F,J,S,Y,Ω,R,.error x,_,e1,trivial⟩
def jhi(he:ME X O e fa)(hs:swapsWith e none pos.line X.env=pure false:=by rfl):MSt X O O B (.Expr e pos) (je9 fa):=by
 rintro U s Z H Dn I ⟨Jz,Sz,Hz,F,J,S,Y,Ω,R,r,Ω',hg,k⟩;refine jnr he hs U s Z H Dn I ?_;rcases MS.b_inv hg with ⟨d,Ω1,e1,hg⟩|⟨x,e1,rfl⟩
 ·cases hg;exact⟨Jz,Sz,Hz,F,J,S,Y,Ω,R,.ok d,_,e1,fun v ρ1 S1 H1 R1 l1 v1 r1=>k ρ1 S1 Z H1 R1 l1 v1⟩
 ·exact⟨Jz,Sz,Hz,F,J,S,Y,Ω,R,.error x,_,e1,trivial⟩
def jnf{s1 s2:List Stmt}(hc:MT X O c tc)(h1:MSs X O O' B s1 g1)(h2:MSs X O O' B s2 g2):MSt X O O' B (.If c s1 s2 pos) (eIf tc g1 g2):=by
 rintro U s Z H Dn I ⟨Jz,Sz,Hz,F,J,S,Y,Ω,R,r,Ω',hg,k⟩;refine jDp hc h1 h2 U s Z H Dn I ?_;rcases MS.b_inv hg with ⟨z,Ω1,e1,hg⟩|⟨x,e1,rfl⟩
 ·refine⟨Jz,Sz,Hz,F,J,S,Y,Ω,R,.ok z,_,e1,fun ρ1 S1 H1 R1 l1 v1=>?_⟩
  cases z with
  | true=>exact iteT ⟨Jz,Sz,Hz,F,ρ1,S1,Y,Ω1,R1,r,Ω',hg,k.back l1 v1⟩
  | false=>exact iteF ⟨Jz,Sz,Hz,F,ρ1,S1,Y,Ω1,R1,r,Ω',hg,k.back l1 v1⟩
 ·exact⟨Jz,Sz,Hz,F,J,S,Y,Ω,R,.error x,_,e1,trivial⟩
def jF6{i:Nat}{x:Str}{p1 p2 p3:Pos}(ho:O.contains i=true)(he:ME X O e fa)(hi:X.N[i]? = some x:=by rfl)(hv:Vis X.env.scope x:=by first|exact Or.inl rfl|exact Or.inr (Or.inl rfl)|exact Or.inr (Or.inr rfl))
  (hd:(x == ("__debug__":Str))=false:=by decide) (hcd:(x == ("__classdict__":Str))=false:=by decide) (hbase:attributeBase (.Name x p1) "append" X.env (eval (.Name x p1) X.env)=eval (.Name x p1) X.env:=by rfl)
  (hfew:((backTo p3 (starEach [e] X.env)).all (fun x=>!x.1)&&(backToKw p3 (keywordEach [] X.env)).all (fun x=>x.1.isSome)
   && decide ([e].length+([]:List Keyword).length+(if ([]:List Keyword).isEmpty then 0 else 1)<30))=true:=by rfl)
  (hline:(p2.endLine == p3.line)=true:=by rfl) (hs:starEach [e] X.env=[(false,eval e X.env)]:=by rfl) (hsw:swapsWith (.Call (.Attribute (.Name x p1) "append" p2) [e] [] p3) none pos.line X.env=pure false:=by rfl) :
  MSt X O O B (.Expr (.Call (.Attribute (.Name x p1) "append" p2) [e] [] p3) pos) (eApp i fa):=by
 rintro U s Z H Dn I ⟨Jz,Sz,Hz,F,J,S,Y,Ω,R,r,Ω',hg,k⟩;have ho':i∈O:=zbc.mp ho;obtain⟨l,xs0,ds0,q1,q2,q3,q4,q5⟩:=R.rs.own i ho';refine jnr (jDf PySem.F.plainAttrs_list PySem.F.slot_list_append PySem.F.type_list_append ji3 (jl9 hi hv hd hcd) (jfo he jk8 hs) hbase hfew hline hs rfl) hsw U s Z H Dn I ?_;refine⟨.ref l,q2,.inl ⟨rfl,_,SqL.of q3⟩,?_⟩;rcases MS.b_inv hg with ⟨d,Ω1,e1,hg⟩|⟨x,e1,rfl⟩
 ·refine⟨Jz,Sz,Hz,F,J,S,Y,Ω,R,.ok d,_,e1,fun v ρ1 S1 H1 R1 l1 v1 r1=>?_⟩;have hj:(Y[i]?).join=some (.lst ds0):=by rw[q1];rfl
  rw[hj] at hg;dsimp only at hg
  split at hg
  ·rename_i hz;cases hg;obtain⟨l',xs,ds,p1,p2,p3,p4,p5⟩:=R1.rs.own i ho';rw[q2] at p2;cases p2
   rw[q1] at p1;cases p1
   refine⟨l,xs,v,rfl,rfl,p3,by rw[p5.length];exact hz,?_⟩;refine k ρ1 S1 Z _ (R1.write ho' q2 (p5.append (Reps.cons r1 Reps.nil))) l1 ?_;rw[jgh (fob_t.mpr (.inr ⟨i,ho',q2⟩))];exact v1
  ·cases hg
 ·exact⟨Jz,Sz,Hz,F,J,S,Y,Ω,R,.error x,_,e1,trivial⟩
end
theorem Reps.dropLast{J:Rho}{K:W.Frag}{H:Hp}:∀ {ds:List D} {vs:List V},Reps J K H ds vs->Reps J K H ds.dropLast vs.dropLast
 | [],_,h=>by rw[reps_nil.mp h];exact Reps.nil
 | [d],_,h=>by
  obtain⟨v,r,rfl,_,t⟩:=reps_cons.mp h;rw[reps_nil.mp t];exact Reps.nil
 | d::e::ds,_,h=>by
  obtain⟨v,r,rfl,q,t⟩:=reps_cons.mp h;obtain⟨w,r2,rfl,q2,t2⟩:=reps_cons.mp t;exact Reps.cons q (Reps.dropLast (Reps.cons q2 t2))
section
variable {Jz J J':Rho}{Sz S S' F:qe}{Hz H H1 H':Hp}{K:W.Frag}{mg:qa}{O:List Nat}{Z:St}{Y:DSt}{Ω Ω':Sto}
def RS.updF{a:Addr}{o:HO}(R:RS J K H1 H F O Z Y)(h:F a=true):RS J K (hid (upd H a o) (fob nof Z O)) (upd H a o) F O Z Y:=by
 have hh:hid (upd H a o) (fob F Z O)=hid H (fob F Z O):=jgh (jg0 a h);refine⟨R.len,jao,fun b hb=>jll (R.fin b hb),fun i d hd hi=>by rw[hh];exact R.val i d hd hi,fun i hi=>?_,R.nd⟩;obtain⟨l,xs,ds,q1,q2,q3,q4,q5⟩:=R.own i hi;have hl:l≠a:=by rintro rfl;rw[q4.2] at h;cases h
 refine⟨l,xs,ds,q1,q2,by rw[jaj hl];exact q3,⟨?_,q4.2⟩,by rw[hh];exact q5⟩;unfold hid;rw[if_pos (fob_t.mpr (.inr ⟨i,hi,q2⟩))]
def RM.put(R:RM Jz Sz Hz F K mg O J S H Z Y Ω){i:Nat}{c f:Str}{fs:List (Str×D)}{a C dx:Addr}{vfs:List (Str×V)}{d:D}{v:V}(hi:Ω[i]? = some (.ins c fs))(ha:J i=some a)(hS:S a=true)(hC:mg c=some (.ref C))(hH:H a=some (.ins C dx vfs))
  (hdx:H dx=some (.own a)) (hSd:S dx=true) (hfl:Flds J K (hid H (fob (un F S) Z O)) fs vfs) (hr:Rep J K (hid H (fob (un F S) Z O)) d v) :
  RM Jz Sz Hz F K mg O J S (upd H a (.ins C dx (putF f v vfs))) Z Y (Ω.set i (.ins c (putD f d fs)))/\hid (upd H a (.ins C dx (putF f v vfs))) (fob (un F S) Z O)=hid H (fob (un F S) Z O):=by
 have hF:un F S a=true:=un_t.mpr (.inr hS);have hh:hid (upd H a (.ins C dx (putF f v vfs))) (fob (un F S) Z O)=hid H (fob (un F S) Z O):=jgh (jg0 a hF);have il:i<Ω.length:=(zbb.mp hi).1;refine⟨⟨R.rs.updF hF,R.rho,fun b o h1 h2=>?_,R.old,R.new,R.own0,R.ff,?_⟩,hh⟩
 ·have hb:b≠a:=by
   rintro rfl;rcases R.new b hS with q|q
   ·rw[q] at h1;cases h1
   ·rw[q] at h2;cases h2
  rw[jaj hb];exact R.same b o h1 h2
 ·rw[hh];refine⟨fun j so hj=>?_,R.sto.inj,fun j hj=>R.sto.top j (by simpa using hj),fun b hb=>jll (R.sto.fin b hb),jlk R.sto.tv fun _ z=>nomatch z⟩
  by_cases hji:j=i
  ·subst hji;rw[zcz il] at hj;cases hj;have nd:dx≠a:=jC4 hdx hH (fun z=>nomatch z);exact⟨a,ha,hS,C,dx,_,hC,jam,by rw[jaj nd];exact hdx,hSd,hfl.put hr⟩
  ·rw[zbw (Ne.symm hji)] at hj;obtain⟨a',q1,q2,q3⟩:=R.sto.ats j so hj;have ne:a'≠a:=by
    rintro rfl;exact hji (R.sto.inj j i a' q1 ha)
   refine⟨a',q1,q2,?_⟩
   cases so with
   | ins c' fs' =>
    obtain⟨C',dx',vfs',p1,p2,p3,p4,p5⟩:=q3;have nd:dx'≠a:=jC4 p3 hH (fun z=>nomatch z);exact⟨C',dx',vfs',p1,by rw[jaj ne];exact p2,by rw[jaj nd];exact p3,p4,p5⟩
   | lst ds =>
    obtain⟨xs,p1,p2⟩:=q3;exact⟨xs,by rw[jaj ne];exact p1,p2⟩
   | exc c j=>exact ExcOk.mono (fun _ _ z=>z) (jaj ne) q3
   | xd fs =>
    obtain⟨vfs,p1,p2⟩:=q3;exact⟨vfs,by rw[jaj ne];exact p1,p2⟩
def jf3:un (fob F Z O) S=fob (un F S) Z O:=by
 funext b
 unfold un fob;simp only;cases F b<;>cases S b<;>cases (ownA Z O).contains b<;>rfl
def RM.call(R:RM Jz Sz Hz F K mg O J S H Z Y Ω)(l:RLe J J')(sm:∀ b o,S b=false->H b=some o->H' b=some o)(old:∀ b,S b=true->S' b=true)(new:∀ b,S' b=true->S b=true\/H b=none)
  (ff:∀ b,fob F Z O b=true->S' b=false) (sto:StoOk J' S' K mg H' (hid H' (un (fob F Z O) S')) Ω') :
  RM Jz Sz Hz F K mg O J' S' H' Z Y Ω'/\Same (hid H (fob (un F S) Z O)) (hid H' (fob (un F S') Z O)):=by
 have keepS:∀ b o,S b=false->H b=some o->S' b=false:=fun b o h1 h2=>by
  cases e:S' b with
  | false=>rfl
  | true =>
   rcases new b e with q|q
   ·rw[q] at h1;cases h1
   ·rw[q] at h2;cases h2
 have vis:Same (hid H (fob (un F S) Z O)) (hid H' (fob (un F S') Z O)):=fun b o q=>by
  obtain⟨q1,q2⟩:=hid_some.mp q;have hu:un F S b=false:=by
   cases e:un F S b with
   | false=>rfl
   | true=>rw[jg0 b e] at q1;cases q1
  obtain⟨h1,h2⟩:=un_f.mp hu;refine hid_some.mpr ⟨?_,sm b o h2 q2⟩
  cases e:fob (un F S') Z O b with
  | false=>rfl
  | true =>
   rcases fob_t.mp e with z|z
   ·rcases un_t.mp z with z|z
    ·rw[h1] at z;cases z
    ·rw[keepS b o h2 q2] at z;cases z
   ·rw[fob_t.mpr (.inr z)] at q1;cases q1
 have rs:RS J' K (hid H' (fob nof Z O)) H' (un F S') O Z Y:=by
  refine⟨R.rs.len,jao,fun b hb=>?_,fun i d hd hi=>?_,fun i hi=>?_,R.rs.nd⟩
  ·rcases un_t.mp hb with q|q
   ·have h1:=R.rs.fin b (un_t.mpr (.inl q));intro z
    cases e:H b with
    | none=>exact h1 e
    | some o=>rw[sm b o (R.ff b q) e] at z;cases z
   ·exact sto.fin b q
  ·obtain⟨v,q1,q2⟩:=R.rs.val i d hd hi;exact⟨v,q1,(q2.rho l).mono vis⟩
  ·obtain⟨a,xs,ds,q1,q2,q3,q4,q5⟩:=R.rs.own i hi;have hS:=(un_f.mp q4.2).2;refine⟨a,xs,ds,q1,q2,sm a _ hS q3,⟨?_,un_f.mpr ⟨(un_f.mp q4.2).1,keepS a _ hS q3⟩⟩,(q5.rho l).mono vis⟩;unfold hid;rw[if_pos (fob_t.mpr (.inr ⟨i,hi,q2⟩))]
 refine⟨⟨rs,R.rho.trans l,fun b o h1 h2=>?_,fun b hb=>old b (R.old b hb),fun b hb=>?_,R.own0,fun b hb=>ff b (fob_t.mpr (.inl hb)),by rw[jf3] at sto;exact sto⟩,vis⟩
 ·have h3:=R.same b o h1 h2;refine sm b o ?_ h3
  cases e:S b with
  | false=>rfl
  | true =>
   rcases R.new b e with q|q
   ·rw[q] at h1;cases h1
   ·rw[q] at h2;cases h2
 ·rcases new b hb with q|q
  ·exact R.new b q
  ·exact .inr (R.fresh00 q)
def addR(J:Rho)(n:Nat)(x:Addr):Rho:=fun i=>if i=n then some x else J i
def addS(S:qe)(x dx:Addr):qe:=fun b=>S b || b == x || b == dx
def addS_t{S:qe}{x dx b:Addr}:addS S x dx b=true↔S b=true\/b=x\/b=dx:=by
 unfold addS;simp only[Bool.or_eq_true,beq_iff_eq,or_assoc]
def RM.make(R:RM Jz Sz Hz F K mg O J S H Z Y Ω){c:Str}{C x dx:Addr}(hC:mg c=some (.ref C))(hx:H x=none)(hdx:H dx=none)(ne:dx≠x) :
  RM Jz Sz Hz F K mg O (addR J Ω.length x) (addS S x dx) (upd (upd H dx (.own x)) x (.ins C dx [])) Z Y (Ω++[.ins c []])/\RLe J (addR J Ω.length x) /\
   Same (hid H (fob (un F S) Z O)) (hid (upd (upd H dx (.own x)) x (.ins C dx [])) (fob (un F (addS S x dx)) Z O)):=by
 have top:=R.sto.top Ω.length (zac _);have l:RLe J (addR J Ω.length x):=fun i a h=>by
  unfold addR
  by_cases e:i=Ω.length
  ·subst e;rw[top] at h;cases h
  ·rw[if_neg e];exact h
 have sm:Same H (upd (upd H dx (.own x)) x (.ins C dx [])):=(ja7 hdx).trans (ja7 (by rw[jaj ne.symm];exact hx));have old:∀ b,S b=true->addS S x dx b=true:=fun b h=>addS_t.mpr (.inl h)
 have new:∀ b,addS S x dx b=true->S b=true\/H b=none:=fun b h=>by
  rcases addS_t.mp h with q|rfl|rfl
  ·exact .inl q
  ·exact .inr hx
  ·exact .inr hdx
 have ff:∀ b,fob F Z O b=true->addS S x dx b=false:=fun b h=>by
  have h2:fob (un F S) Z O b=true:=by rw[<- jf3];exact un_t.mpr (.inl h)
  cases e:addS S x dx b with
  | false=>rfl
  | true =>
   rcases addS_t.mp e with q|rfl|rfl
   ·rcases fob_t.mp h with z|z
    ·rw[R.ff b z] at q;cases q
    ·exact absurd z (R.base_S q)
   ·rw[R.fresh hx] at h2;cases h2
   ·rw[R.fresh hdx] at h2;cases h2
 have keep:∀ b,S b=true->(upd (upd H dx (.own x)) x (.ins C dx [])) b=H b:=R.at_store sm;have vis0:Same (hid H (fob (un F S) Z O)) (hid (upd (upd H dx (.own x)) x (.ins C dx [])) (un (fob F Z O) (addS S x dx))):=fun b o q=>by
  obtain⟨q1,q2⟩:=hid_some.mp q;refine hid_some.mpr ⟨?_,sm b o q2⟩
  cases e:un (fob F Z O) (addS S x dx) b with
  | false=>rfl
  | true =>
   rcases un_t.mp e with z|z
   ·have h2:fob (un F S) Z O b=true:=by rw[<- jf3];exact un_t.mpr (.inl z)
    rw[h2] at q1;cases q1
   ·rcases new b z with z|z
    ·have h2:fob (un F S) Z O b=true:=jg0 b (un_t.mpr (.inr z));rw[h2] at q1;cases q1
    ·rw[z] at q2;cases q2
 have sto:StoOk (addR J Ω.length x) (addS S x dx) K mg (upd (upd H dx (.own x)) x (.ins C dx [])) (hid (upd (upd H dx (.own x)) x (.ins C dx [])) (un (fob F Z O) (addS S x dx))) (Ω++[.ins c []]):=by
  refine⟨fun i so hi=>?_,fun i j a h1 h2=>?_,fun i hi=>?_,fun b hb=>?_,jxj (jlk (jlk R.sto.tv fun _ z=>nomatch z) fun _ z=>nomatch z) vis0⟩
  ·by_cases h:i<Ω.length
   ·rw[List.getElem?_append_left h] at hi;obtain⟨a,q1,q2,q3⟩:=R.sto.ats i so hi;refine⟨a,l i a q1,old a q2,?_⟩
    cases so with
    | ins c' fs' =>
     obtain⟨C',dx',vfs',p1,p2,p3,p4,p5⟩:=q3;exact⟨C',dx',vfs',p1,by rw[keep a q2];exact p2,by rw[keep dx' p4];exact p3,old _ p4,p5.mono l vis0⟩
    | lst ds =>
     obtain⟨xs,p1,p2⟩:=q3;exact⟨xs,by rw[keep a q2];exact p1,(p2.rho l).mono vis0⟩
    | exc c j=>exact ExcOk.mono l (keep a q2) q3
    | xd fs =>
     obtain⟨vfs,p1,p2⟩:=q3;exact⟨vfs,by rw[keep a q2];exact p1,p2.mono l vis0⟩
   ·have e:i=Ω.length:=by
     have:=(zbb.mp hi).1;simp at this;omega
    subst e;rw[List.getElem?_append_right (zac _),Nat.sub_self] at hi;cases hi;exact⟨x,by unfold addR;rw[if_pos rfl],addS_t.mpr (.inr (.inl rfl)),C,dx,[],hC,jam,by rw[jaj ne,jam],addS_t.mpr (.inr (.inr rfl)),rfl⟩
  ·have fresh:∀ i a,i≠Ω.length->J i=some a->a≠x:=fun i a hi h z=>by
    subst z;have il:i<Ω.length:=by
     by_cases q:i<Ω.length
     ·exact q
     ·rw[R.sto.top i (by omega)] at h;cases h
    obtain⟨a',q1,q2,_⟩:=R.sto.ats i _ (zax il);rw[h] at q1;cases q1
    exact R.sto.fin a q2 hx
   unfold addR at h1 h2
   by_cases e1:i=Ω.length
   ·by_cases e2:j=Ω.length
    ·rw[e1,e2]
    ·rw[if_pos e1] at h1;rw[if_neg e2] at h2
     cases h1;exact absurd rfl (fresh j _ e2 h2)
   ·by_cases e2:j=Ω.length
    ·rw[if_neg e1] at h1;rw[if_pos e2] at h2
     cases h2;exact absurd rfl (fresh i _ e1 h1)
    ·rw[if_neg e1] at h1;rw[if_neg e2] at h2
     exact R.sto.inj i j a h1 h2
  ·rw[zcb,List.length_singleton] at hi;unfold addR;rw[if_neg (by omega)];exact R.sto.top i (by omega)
  ·rcases addS_t.mp hb with q|rfl|rfl
   ·rw[keep b q];exact R.sto.fin b q
   ·rw[jam];exact fun z=>nomatch z
   ·rw[jaj ne,jam];exact fun z=>nomatch z
 obtain⟨t1,t2⟩:=R.call l (fun b o _ h=>sm b o h) old new ff sto;exact⟨t1,l,t2⟩
end
inductive spE(K:W.Frag)(mg:qa)(n:Nat)(m:List D->MS D)(vs:List V)(H:Hp)(Q:VK)(E:XK):Prop
 | mk (hn:vs.length=n) (J:Rho) (S F:qe) (ds:List D) (Ω:Sto) (hF:∀ b,F b=true->H b≠none) (hS:∀ b,F b=true->S b=false) (hr:Reps J K (hid H (un F S)) ds vs) (hs:StoOk J S K mg H (hid H (un F S)) Ω) (r:Except XD D) (Ω':Sto) (hf:m ds Ω=some (r,Ω')) (k:match (generalizing:=false) r with
  | .ok d=>∀ v J' S' H',RLe J J'->(∀ b o,S b=false->H b=some o->H' b=some o)->(∀ b,S b=true->S' b=true)->(∀ b,S' b=true->S b=true\/H b=none)->(∀ b,F b=true->S' b=false)->StoOk J' S' K mg H' (hid H' (un F S')) Ω'->Rep J' K (hid H' (un F S')) d v->Q v H'
  | .error _=>True)
inductive MetX(P:Program)(w:World)(K:W.Frag)(mg:qa)(base:Heap)(k:Nat)(c x:Str)(n:Nat)(sp:Sp):Prop
 | mk (C f:Addr) (fd:FuncData) (ps:List Str) (h1:ps.length=n) (h2:mg c=some (.ref C)) (h3:Cls K C) (h4:Meth K C x f) (h5:Binds K fd ps []) (h6:FnOk P w K mg base CX0 k f fd ps sp)
inductive IniX(P:Program)(w:World)(K:W.Frag)(mg:qa)(base:Heap)(k:Nat)(c:Str)(n:Nat)(sp:Sp):Prop
 | mk (C f:Addr) (fd:FuncData) (ps:List Str) (h1:ps.length=n) (h2:mg c=some (.ref C)) (h3:Mk K C f) (h4:Binds K fd ps []) (h5:FnOk P w K mg base CX0 k f fd ps sp)
structure CalE(P:Program)(w:World)(K:W.Frag)(mg:qa)(base:Heap)(k:Nat)(x:Str)(n:Nat)(m:List D->MS D):Prop where
 ex:CalX P w K mg base k x n (spE K mg n m)
 ar:∀ ds Ω r,m ds Ω=some r->ds.length=n
structure MetE(P:Program)(w:World)(K:W.Frag)(mg:qa)(base:Heap)(k:Nat)(c x:Str)(n:Nat)(m:List D->MS D):Prop where
 ex:MetX P w K mg base k c x n (spE K mg n m)
 ar:∀ ds Ω r,m ds Ω=some r->ds.length=n
structure IniE(P:Program)(w:World)(K:W.Frag)(mg:qa)(base:Heap)(k:Nat)(c:Str)(n:Nat)(m:List D->MS D):Prop where
 ex:IniX P w K mg base k c n (spE K mg n m)
 ar:∀ ds Ω r,m ds Ω=some r->ds.length=n
def outE:Out->MS D
 | .rt d=>MS.p d
 | .nx _=>MS.p .non
 | _=>fun _=>none
def mirE(n N:Nat)(g:DSt->MS Out):List D->MS D:=fun ds=>if ds.length=n then (g (startD N ds)).b outE else fun _=>none
def jjp{n N:Nat}{g:DSt->MS Out}:∀ ds Ω r,mirE n N g ds Ω=some r->ds.length=n:=fun ds Ω r h=>by
 unfold mirE at h
 split at h
 ·assumption
 ·cases h
section
variable {P:Program}{w:World}{K:W.Frag}{mg:qa}{base:Heap}
def fn_E{x q:Str}{st:Stmt}{N ps:List Str}{k:Nat}{O':List Nat}{g:DSt->MS Out}{f:Addr}{fd:FuncData}(F:Fun K x q st f fd)(Sc:FnScope N ps (jad st))
  (hbody:∀ (f:Addr) (cdv:Value) (A:Around) (outer:List Env) (s:Shared) (H:Hp) (E:XK),Room k (A.deeper (PyProof.Rows.envOfC q (jad st) s.heap.objs.size f cdv)) ->
   MSs (cxOf CX0 P w K mg base N q (jad st) f cdv A outer s H E).nox [] O' [] (jar st) g):FnOk P w K mg base CX0 (k+1) f fd ps (spE K mg ps.length (mirE ps.length N.length g)):=by
 refine F.ok Sc (fun vs H Q E h=>h.1) fun cdv A outer s H vs Q E hr h=>?_
 obtain⟨hl,J,S,F',ds,Ω,fin,ff,rp,sto,r,Ω',hmr,k0⟩:=h;refine⟨_,hbody f cdv A outer s H E hr,?_⟩;have hpl:ps.length<=N.length:=by have:=congrArg List.length Sc.pre;rw[List.length_take] at this;omega
 have hdl:ds.length=ps.length:=by rw[<- rp.length];exact hl
 unfold mirE at hmr;rw[if_pos hdl] at hmr;have R:RM J S H F' K mg [] J S H (L2.start N vs) (startD N.length ds) Ω:=by
  refine⟨⟨?_,jao,fun b hb=>?_,fun i d hd _=>?_,fun i hi=>absurd hi (by simp),fun i hi=>absurd hi (by simp)⟩,RLe.refl _,fun b o _ h=>h,fun b h=>h,fun b h=>.inl h,fun i hi=>absurd hi (by simp),ff,by rw[jgd];exact sto⟩
  ·simp[L2.start,startD,rp.length]
  ·rcases un_t.mp hb with z|z
   ·exact fin b z
   ·exact sto.fin b z
  ·obtain⟨v,e,rv⟩:=rp.get (jjw hd);exact⟨v,jli e,by rw[jgd];exact rv⟩
 rcases MS.b_inv hmr with ⟨o,Ω1,e1,hmr⟩|⟨y,e1,rfl⟩
 ·refine⟨J,S,H,F',J,S,_,Ω,R,.ok o,Ω1,e1,?_⟩
  cases o with
  | rt d =>
   cases hmr;exact fun v J' S' H' T rv=>k0 v J' S' H' T.rho T.same T.old T.new T.ff T.sto rv
  | nx Y =>
   cases hmr;exact fun J' S' Z' H' R' _ _=>k0 .non J' S' H' R'.rt.rho R'.rt.same R'.rt.old R'.rt.new R'.rt.ff R'.rt.sto (rep_non.mpr rfl)
  | bk Y=>cases hmr
  | ct Y=>cases hmr
 ·exact⟨J,S,H,F',J,S,_,Ω,R,.error y,_,e1,trivial⟩
def juf{x:Str}{st:Stmt}{N ps:List Str}{k:Nat}{O':List Nat}{g:DSt->MS Out}(hf:jcw K mg x st ps)(S:FnScope N ps (jad st))
  (hbody:∀ (f:Addr) (cdv:Value) (A:Around) (outer:List Env) (s:Shared) (H:Hp) (E:XK),Room k (A.deeper (PyProof.Rows.envOfC x (jad st) s.heap.objs.size f cdv)) ->
   MSs (cxOf CX0 P w K mg base N x (jad st) f cdv A outer s H E).nox [] O' [] (jar st) g):CalE P w K mg base (k+1) x ps.length (mirE ps.length N.length g):=by
 obtain⟨f,fd,hm,F,hb⟩:=hf;exact⟨⟨f,fd,ps,rfl,hm,F.kp,hb,fn_E F S hbody⟩,jjp⟩
structure MetAt(K:W.Frag)(mg:qa)(c x q:Str)(st:Stmt)(ps:List Str):Prop where
 ex:∃ C f fd,mg c=some (.ref C)/\Cls K C/\Meth K C x f/\Fun K x q st f fd/\Binds K fd ps []
structure IniAt(K:W.Frag)(mg:qa)(c q:Str)(st:Stmt)(ps:List Str):Prop where
 ex:∃ C f fd,mg c=some (.ref C)/\Mk K C f/\Fun K "__init__" q st f fd/\Binds K fd ps []
def jvp{c x q:Str}{st:Stmt}{N ps:List Str}{k:Nat}{O':List Nat}{g:DSt->MS Out}(hf:MetAt K mg c x q st ps)(S:FnScope N ps (jad st))
  (hbody:∀ (f:Addr) (cdv:Value) (A:Around) (outer:List Env) (s:Shared) (H:Hp) (E:XK),Room k (A.deeper (PyProof.Rows.envOfC q (jad st) s.heap.objs.size f cdv)) ->
   MSs (cxOf CX0 P w K mg base N q (jad st) f cdv A outer s H E).nox [] O' [] (jar st) g):MetE P w K mg base (k+1) c x ps.length (mirE ps.length N.length g):=by
 obtain⟨C,f,fd,hm,hc,hM,F,hb⟩:=hf.ex;exact⟨⟨C,f,fd,ps,rfl,hm,hc,hM,hb,fn_E F S hbody⟩,jjp⟩
def jCm{c q:Str}{st:Stmt}{N ps:List Str}{k:Nat}{O':List Nat}{g:DSt->MS Out}(hf:IniAt K mg c q st ps)(S:FnScope N ps (jad st))
  (hbody:∀ (f:Addr) (cdv:Value) (A:Around) (outer:List Env) (s:Shared) (H:Hp) (E:XK),Room k (A.deeper (PyProof.Rows.envOfC q (jad st) s.heap.objs.size f cdv)) ->
   MSs (cxOf CX0 P w K mg base N q (jad st) f cdv A outer s H E).nox [] O' [] (jar st) g):IniE P w K mg base (k+1) c ps.length (mirE ps.length N.length g):=by
 obtain⟨C,f,fd,hm,hM,F,hb⟩:=hf.ex;exact⟨⟨C,f,fd,ps,rfl,hm,hM,hb,fn_E F S hbody⟩,jjp⟩
def jCr{m:List D->MS D}{H:Hp}{a:Addr}{ns:List Int}{Ω':Sto}(hS:SqL K H a (ns.map V.int))(h:m [.lst (ns.map .int)] []=some (.ok (.bl true),Ω')):spE K mg 1 m [.ref a] H (fun v _=>v=.bl true) fun _ _ _=>False:=by
 refine⟨rfl,fun _=>none,fun _=>false,fun _=>false,[.lst (ns.map .int)],[],(fun b hb=>by cases hb),(fun b hb=>by cases hb),Reps.cons (rep_lst.mpr ⟨a,_,rfl,?_,reps_ints.mpr rfl⟩) Reps.nil,⟨fun i so hi=>by simp at hi,fun i j a h=>(nomatch h),fun i _=>rfl,(fun b hb=>by cases hb),fun _ _ q=>q⟩,_,_,h,fun v J' S' H' _ _ _ _ _ _ r=>rep_bl.mp r⟩;have:hid H (un (fun _=>false) fun _=>false)=H:=by funext b;rfl
 rw[this];exact hS
end
def jgj(m:List D->MS D)(fl:DSt->MS (List D)):DSt->MS D:=fun Y=>(fl Y).b m
def jl7(m:List D->M D)(fl:DSt->MS (List D)):DSt->MS D:=fun Y=>(fl Y).b fun ds=>MS.l (m ds)
def jnd(c x:Str)(m:List D->MS D)(i:Nat)(fl:DSt->MS (List D))(Y:DSt):MS D:=fun Ω=>match Ω[i]? with
 | some (.ins c' fs)=>if c'=c/\fs.lookup x=none then ((fl Y).b fun ds=>m (.obj i::ds)) Ω else none
 | _=>none
def jj7(c x:Str)(m:List D->MS D)(fo:DSt->MS D)(fl:DSt->MS (List D)):DSt->MS D:=fun Y=>(fo Y).b fun o=>match o with
 | .obj i=>jnd c x m i fl Y
 | _=>fun _=>none
def jtf(c:Str)(m:List D->MS D)(ds:List D):MS D:=fun Ω=>((m (.obj Ω.length::ds)).b fun d=>match d with
 | .non=>MS.p (.obj Ω.length)
 | _=>fun _=>none) (Ω++[.ins c []])
def jo1(c:Str)(m:List D->MS D)(fl:DSt->MS (List D)):DSt->MS D:=fun Y=>(fl Y).b fun ds=>jtf c m ds
section
variable {X:Cx}{O:List Nat}{b o e:Expr}{es:List Expr}{fo:DSt->MS D}{fl:DSt->MS (List D)}{pos p apos:Pos}{x c:Str}{k n:Nat}
variable {Jz J:Rho}{Sz S F:qe}{Hz H:Hp}{Z:St}{Y:DSt}{Ω Ω':Sto}
def jlg{m:List D->MS D}{ds:List D}{vs:List V}{r:Except XD D}{Q:VK}{E:XK}(R:RM Jz Sz Hz F X.K X.mg O J S H Z Y Ω)(hl:ds.length=n)(hr:Reps J X.K (hid H (fob (un F S) Z O)) ds vs)(hm:m ds Ω=some (r,Ω'))
  (k:match (generalizing:=false) r with
   | .ok d=>∀ v J' S' H',RM Jz Sz Hz F X.K X.mg O J' S' H' Z Y Ω'->RLe J J'->Same (hid H (fob (un F S) Z O)) (hid H' (fob (un F S') Z O))->Rep J' X.K (hid H' (fob (un F S') Z O)) d v->Q v H'
   | .error _=>True):spE X.K X.mg n m vs H Q E:=by
 refine⟨by rw[hr.length];exact hl,J,S,fob F Z O,ds,Ω,fun b hb=>?_,fun b hb=>?_,by rw[jf3];exact hr,by rw[jf3];exact R.sto,r,Ω',hm,?_⟩
 ·intro z;have:=R.fresh z;rw[<- jf3,un_t.mpr (.inl hb)] at this;cases this
 ·rcases fob_t.mp hb with z|z
  ·exact R.ff b z
  ·cases e:S b with
   | false=>rfl
   | true=>exact absurd z (R.base_S e)
 ·cases r with
  | error x=>trivial
  | ok d =>
   intro v J' S' H' l sm old new ff sto rv;obtain⟨t1,t2⟩:=R.call l sm old new ff sto;rw[jf3] at rv;exact k v J' S' H' t1 l t2 rv
def jvj{m:List D->MS D}(C:CalE X.prog X.w X.K X.mg X.base k x n m)(hr:Room k X.A)(ha:MA X O (e::es) fl)(hg:Gl X x:=by rfl)(hdb:(x == ("__debug__":Str))=false:=by decide)(he:zsE e es X.env:=by rfl)
  (hpl:zbT pos es X.env:=by rfl):ME X O (.Call (.Name x p) (e::es) [] pos) (jgj m fl):=by
 obtain⟨f,fd,ps,hl,hm,hk,hb,G⟩:=C.ex;rintro U s Z H Q I ⟨Jz,Sz,Hz,F,J,S,Y,Ω,R,r,Ω',hf,k⟩;refine jno G hr hg hm hk hb .nil (fun _ _ _ _ _ _ _ z=>z.elim) ha hdb he hpl U s Z H Q I (E:=E0) ?_;rcases MS.b_inv hf with ⟨ds,Ω1,e1,hf⟩|⟨y,e1,rfl⟩
 ·refine⟨Jz,Sz,Hz,F,J,S,Y,Ω,R,.ok ds,Ω1,e1,fun vs ρ1 S1 H1 R1 l1 v1 r1=>?_⟩;show spE X.K X.mg n m (vs++[]) H1 Q E0;rw[List.append_nil];refine jlg R1 (C.ar ds Ω1 _ hf) r1 hf ?_
  cases r with
  | error y=>trivial
  | ok d=>exact fun v ρ2 S2 H2 R2 l2 v2 r2=>k v ρ2 S2 H2 R2 (l1.trans l2) (v1.trans v2) r2
 ·exact⟨Jz,Sz,Hz,F,J,S,Y,Ω,R,.error y,_,e1,trivial⟩
def jm9{m:List D->M D}(C:Cal X.prog X.w X.K X.mg X.base k x n m)(hr:Room k X.A)(ha:MA X O (e::es) fl)(hg:Gl X x:=by rfl)(hdb:(x == ("__debug__":Str))=false:=by decide)(he:zsE e es X.env:=by rfl)
  (hpl:zbT pos es X.env:=by rfl):ME X O (.Call (.Name x p) (e::es) [] pos) (jl7 m fl):=by
 obtain⟨f,fd,ps,hl,hm,hk,hb,G⟩:=C.ex;rintro U s Z H Q I ⟨Jz,Sz,Hz,F,J,S,Y,Ω,R,r,Ω',hf,k⟩;refine jno G hr hg hm hk hb .nil (fun _ _ _ _ _ _ _ z=>z.elim) ha hdb he hpl U s Z H Q I (E:=E0) ?_;rcases MS.b_inv hf with ⟨ds,Ω1,e1,hf⟩|⟨y,e1,rfl⟩
 ·refine⟨Jz,Sz,Hz,F,J,S,Y,Ω,R,.ok ds,Ω1,e1,fun vs ρ1 S1 H1 R1 l1 v1 r1=>?_⟩;show spD X.K n m (vs++[]) H1 Q E0;rw[List.append_nil];obtain⟨hg,rfl⟩:=MS.l_inv hf;refine⟨by rw[r1.length];exact C.ar ds r hg,ρ1,ds,r,fob (un F S1) Z O,fun b hb z=>?_,r1,hg,?_⟩
  ·rw[R1.fresh z] at hb;cases hb
  ·cases r with
   | ok d=>exact fun v H' s' rv=>k v ρ1 S1 H' (R1.mono s') l1 (v1.trans (jaq s')) rv
   | error y=>exact fun c dx H' s' xr=>xr.elim
 ·exact⟨Jz,Sz,Hz,F,J,S,Y,Ω,R,.error y,_,e1,trivial⟩
def jne{c x:Str}{m:List D->MS D}{fl:DSt->MS (List D)}{Y:DSt}{od:D}{Ω Ω':Sto}{r:Except XD D}(h:(match od with
   | .obj i=>jnd c x m i fl Y
   | _=>fun _=>none:MS D) Ω=some (r,Ω')):∃ i fs,od=.obj i/\Ω[i]? = some (.ins c fs)/\fs.lookup x=none/\((fl Y).b fun ds=>m (.obj i::ds)) Ω=some (r,Ω'):=by
 cases od with
 | obj i =>
  have h2:jnd c x m i fl Y Ω=some (r,Ω'):=h;unfold jnd at h2
  cases hi:Ω[i]? with
  | none=>rw[hi] at h2;cases h2
  | some so =>
   rw[hi] at h2
   cases so with
   | lst _=>cases h2
   | exc _ _=>cases h2
   | xd _=>cases h2
   | ins c' fs =>
    dsimp only at h2
    by_cases hc:c'=c/\fs.lookup x=none
    ·rw[if_pos hc] at h2;obtain⟨rfl,hn⟩:=hc;exact⟨i,fs,rfl,hi,hn,h2⟩
    ·rw[if_neg hc] at h2;cases h2
 | _=>cases h
def jCx{pl:Sem Bool}{m:List D->MS D}(C:MetE X.prog X.w X.K X.mg X.base k c x n m)(hr:Room k X.A)(ho:ME X O o fo)(ha:MA X O (e::es) fl)(hst:zsE e es X.env:=by rfl)(hpl:zbT pos es X.env:=by rfl)
  (ht:eval (.Call (.Attribute o x apos) (e::es) [] pos) X.env=(do
   let ov <- eval o X.env
   standAt apos.atName
   let (f,first) <- holding [ov] (getMethod ov x pl)
   callWith pos f first (backTo pos (starEach (e::es) X.env)) (backToKw pos (keywordEach [] X.env))):=by rfl):ME X O (.Call (.Attribute o x apos) (e::es) [] pos) (jj7 c x m fo fl):=by
 obtain⟨Ca,f,fd,ps,hl,hm,hc,hM,hb,G⟩:=C.ex;rintro U s Z H Q I ⟨Jz,Sz,Hz,F,J,S,Y,Ω,R,r,Ω',hf,k⟩;refine jwd ho hc hM G hr hb .nil (fun _ _ _ _ _ _ _ z=>z.elim) ha hst hpl ht U s Z H Q I (E:=E0) ?_;rcases MS.b_inv hf with ⟨od,Ω1,e1,hf⟩|⟨y,e1,rfl⟩
 ·refine⟨Jz,Sz,Hz,F,J,S,Y,Ω,R,.ok od,Ω1,e1,fun v ρ1 S1 H1 R1 l1 v1 r1=>?_⟩;obtain⟨i,fs,rfl,hi,hno,hf2⟩:=jne hf;obtain⟨ad,q1,q2⟩:=rep_obj.mp r1;obtain⟨ad',p1,p2,C',dx,vfs,p3,p4,p5,p6,p7⟩:=R1.sto.ats i _ hi;rw[q1] at p1;cases p1
  rw[hm] at p3;cases p3
  refine⟨ad,dx,vfs,q2,p4,p7.none hno,?_⟩;rcases MS.b_inv hf2 with ⟨ds,Ω2,e2,hf3⟩|⟨y,e2,rfl⟩
  ·refine⟨Jz,Sz,Hz,F,ρ1,S1,Y,Ω1,R1,.ok ds,Ω2,e2,fun vs ρ2 S2 H2 R2 l2 v2 r2=>?_⟩;show spE X.K X.mg n m (v::(vs++[])) H2 Q E0;rw[List.append_nil];refine jlg R2 (C.ar _ _ _ hf3) (Reps.cons ((r1.rho l2).mono v2) r2) hf3 ?_
   cases r with
   | error y=>trivial
   | ok d=>exact fun v' J3 S3 H3 R3 l3 v3 r3=>k v' J3 S3 H3 R3 (l1.trans (l2.trans l3)) (v1.trans (v2.trans v3)) r3
  ·exact⟨Jz,Sz,Hz,F,ρ1,S1,Y,Ω1,R1,.error y,_,e2,trivial⟩
 ·exact⟨Jz,Sz,Hz,F,J,S,Y,Ω,R,.error y,_,e1,trivial⟩
def jna{pl:Sem Bool}{m:List D->MS D}(C:MetE X.prog X.w X.K X.mg X.base k c x n m)(hr:Room k X.A)(ho:ME X O o fo)
  (ht:eval (.Call (.Attribute o x apos) [] [] pos) X.env=(do
   let ov <- eval o X.env
   standAt apos.atName
   let (f,first) <- holding [ov] (getMethod ov x pl)
   callWith pos f first (backTo pos (starEach [] X.env)) (backToKw pos (keywordEach [] X.env))):=by rfl):ME X O (.Call (.Attribute o x apos) [] [] pos) (jj7 c x m fo (lF fNil)):=by
 obtain⟨Ca,f,fd,ps,hl,hm,hc,hM,hb,G⟩:=C.ex;rintro U s Z H Q I ⟨Jz,Sz,Hz,F,J,S,Y,Ω,R,r,Ω',hf,k⟩;refine jy9 ho hc hM G hr hb .nil (fun _ _ _ _ _ _ _ z=>z.elim) ht U s Z H Q I (E:=E0) ?_;rcases MS.b_inv hf with ⟨od,Ω1,e1,hf⟩|⟨y,e1,rfl⟩
 ·refine⟨Jz,Sz,Hz,F,J,S,Y,Ω,R,.ok od,Ω1,e1,fun v ρ1 S1 H1 R1 l1 v1 r1=>?_⟩;obtain⟨i,fs,rfl,hi,hno,hf2⟩:=jne hf;obtain⟨ad,q1,q2⟩:=rep_obj.mp r1;obtain⟨ad',p1,p2,C',dx,vfs,p3,p4,p5,p6,p7⟩:=R1.sto.ats i _ hi;rw[q1] at p1;cases p1
  rw[hm] at p3;cases p3
  refine⟨ad,dx,vfs,q2,p4,p7.none hno,?_⟩;have hf3:m [.obj i] Ω1=some (r,Ω'):=hf2;show spE X.K X.mg n m [v] H1 Q E0;refine jlg R1 (C.ar _ _ _ hf3) (Reps.cons r1 Reps.nil) hf3 ?_
  cases r with
  | error y=>trivial
  | ok d=>exact fun v' J3 S3 H3 R3 l3 v3 r3=>k v' J3 S3 H3 R3 (l1.trans l3) (v1.trans v3) r3
 ·exact⟨Jz,Sz,Hz,F,J,S,Y,Ω,R,.error y,_,e1,trivial⟩
def jCw{m:List D->MS D}{Ca f:Addr}{vs:List V}{ds:List D}{r:Except XD D}{Q:VK}(hm:X.mg c=some (.ref Ca))(ar:∀ ds Ω r,m ds Ω=some r->ds.length=n)(R:RM Jz Sz Hz F X.K X.mg O J S H Z Y Ω)(hr:Reps J X.K (hid H (fob (un F S) Z O)) ds vs)(hf:jtf c m ds Ω=some (r,Ω'))
  (k:match (generalizing:=false) r with
   | .ok d=>∀ v J' S' H',RM Jz Sz Hz F X.K X.mg O J' S' H' Z Y Ω'->RLe J J'->Same (hid H (fob (un F S) Z O)) (hid H' (fob (un F S') Z O))->Rep J' X.K (hid H' (fob (un F S') Z O)) d v->Q v H'
   | .error _=>True):∀ x dx,H x=none->H dx=none->dx≠x->spE X.K X.mg n m (.ref x::vs) (upd (upd H dx (.own x)) x (.ins Ca dx [])) (fun v H2=>v=.non/\Q (.ref x) H2) E0:=by
 intro x dx hx hdx ne;obtain⟨t1,t2,t3⟩:=R.make (c:=c) hm hx hdx ne;have hob:Rep (addR J Ω.length x) X.K (hid (upd (upd H dx (.own x)) x (.ins Ca dx [])) (fob (un F (addS S x dx)) Z O)) (.obj Ω.length) (.ref x):=rep_obj.mpr ⟨x,by unfold addR;rw[if_pos rfl],rfl⟩;unfold jtf at hf;rcases MS.b_inv hf with ⟨d,Ω1,e1,hf⟩|⟨y,e1,rfl⟩
 ·refine jlg t1 (ar _ _ _ e1) (Reps.cons hob ((hr.rho t2).mono t3)) e1 ?_;intro v ρ2 S2 H2 R2 l2 v2 r2
  cases d with
  | non =>
   cases hf;exact⟨rep_non.mp r2,k (.ref x) ρ2 S2 H2 R2 (t2.trans l2) (t3.trans v2) ((hob.rho l2).mono v2)⟩
  | _=>cases hf
 ·exact jlg t1 (ar _ _ _ e1) (Reps.cons hob ((hr.rho t2).mono t3)) e1 trivial
def jvm{m:List D->MS D}(C:IniE X.prog X.w X.K X.mg X.base k c n m)(hr:Room (k+1) X.A)(ha:MA X O (e::es) fl)(hg:Gl X c:=by rfl)(hdb:(c == ("__debug__":Str))=false:=by decide)(he:zsE e es X.env:=by rfl)
  (hpl:zbT pos es X.env:=by rfl):ME X O (.Call (.Name c p) (e::es) [] pos) (jo1 c m fl):=by
 obtain⟨Ca,f,fd,ps,hl,hm,hM,hb,G⟩:=C.ex;rintro U s Z H Q I ⟨Jz,Sz,Hz,F,J,S,Y,Ω,R,r,Ω',hf,k⟩;refine jDh hM G hr hg hm hb .nil (fun _ _ _ _ _ _ _ z=>z.elim) ha hdb he hpl U s Z H Q I (E:=E0) ?_;rcases MS.b_inv hf with ⟨ds,Ω1,e1,hf⟩|⟨y,e1,rfl⟩
 ·refine⟨Jz,Sz,Hz,F,J,S,Y,Ω,R,.ok ds,Ω1,e1,fun vs ρ1 S1 H1 R1 l1 v1 r1=>?_⟩
  try dsimp only
  rw[List.append_nil];refine jCw (f:=f) hm C.ar R1 r1 hf ?_
  cases r with
  | error y=>trivial
  | ok d=>exact fun v ρ2 S2 H2 R2 l2 v2 r2=>k v ρ2 S2 H2 R2 (l1.trans l2) (v1.trans v2) r2
 ·exact⟨Jz,Sz,Hz,F,J,S,Y,Ω,R,.error y,_,e1,trivial⟩
end
inductive tEI(K:W.Frag)(mg:qa)(O:List Nat)(f:DSt->MS (List D))(Z:St)(H:Hp)(Rk:It->Hp->Prop):Prop
 | mk (Jz:Rho) (Sz:qe) (Hz:Hp) (F:qe) (J:Rho) (S:qe) (Y:DSt) (Ω:Sto) (R:RM Jz Sz Hz F K mg O J S H Z Y Ω) (r:Except XD (List D)) (Ω':Sto) (hf:f Y Ω=some (r,Ω')) (k:match (generalizing:=false) r with
  | .ok ds=>∀ Jq J' S' H',RM Jz Sz Hz F K mg O J' S' H' Z Y Ω'->RLe J J'->Same (hid H (fob (un F S) Z O)) (hid H' (fob (un F S') Z O))->ItD J' K Jq ds (hid H' (fob (un F S') Z O))->Rk Jq H'
  | .error _=>True)
def MI(X:Cx)(O:List Nat)(tg iter:Expr)(f:DSt->MS (List D)):Prop:=PI X tg iter (tEI X.K X.mg O f)
section
variable {X:Cx}{O B:List Nat}{b c e o iter tg:Expr}{fo fv:DSt->MS D}{fi:DSt->MS (List D)}{pos:Pos}{g:DSt->MS Out}{tc:DSt->MS Bool}{f:Str}{cs:List Str}
def jqo{f:DSt->M (List D)}(h:DI X O E0 tg iter f):MI X O tg iter (lF f):=by
 rintro U s Z H Q I ⟨Jz,Sz,Hz,F,J,S,Y,Ω,R,r,Ω',hf,k⟩;obtain⟨hg,rfl⟩:=MS.l_inv hf;refine h U s Z H Q I ⟨J,_,un F S,Y,r,R.rs,hg,?_⟩
 cases r with
 | ok d=>exact fun Jq H' s' it=>k Jq J S H' (R.mono s') (RLe.refl _) (jaq s') it
 | error x=>exact fun c dx H' _ z=>z.elim
def jrs{cs:List Str}{f:Str}{x d:D}{Y:DSt}{Ω Ω':Sto}{r:Except XD Out}(h:((putO cs f x d).b fun _=>MS.p (.nx Y)) Ω=some (r,Ω')):∃ i cl fs,x=.obj i/\Ω[i]? = some (.ins cl fs)/\cs.contains cl=true/\fs.length<1000/\r=.ok (.nx Y)/\Ω'=Ω.set i (.ins cl (putD f d fs)):=by
 unfold MS.b putO at h
 cases x with
 | obj i =>
  dsimp only at h
  cases hi:Ω[i]? with
  | none=>rw[hi] at h;cases h
  | some so =>
   rw[hi] at h
   cases so with
   | lst _=>cases h
   | exc _ _=>cases h
   | xd _=>cases h
   | ins cl fs =>
    dsimp only at h
    by_cases hcl:(cs.contains cl&&decide (fs.length<1000))=true
    ·rw[if_pos hcl] at h;cases h;rw[Bool.and_eq_true,decide_eq_true_eq] at hcl;exact⟨i,cl,fs,rfl,hi,hcl.1,hcl.2,rfl,rfl⟩
    ·rw[if_neg hcl] at h;cases h
 | _=>cases h
def ji1{pos':Pos}(hc:jxq X cs f)(ho:ME X O o fo)(hv:ME X O e fv)(hs:swapsWith e (some (.Attribute o f pos')) pos.line X.env=pure false:=by rfl):MSt X O O B (.Assign [.Attribute o f pos'] e pos) (ePut cs f fo fv):=by
 rintro U s Z H Dn I ⟨Jz,Sz,Hz,F,J,S,Y,Ω,R,r,Ω',hf,k⟩;refine jAx ho hv hs U s Z H Dn I ?_;rcases MS.b_inv hf with ⟨d,Ω1,e1,hf⟩|⟨x,e1,rfl⟩
 ·refine⟨Jz,Sz,Hz,F,J,S,Y,Ω,R,.ok d,Ω1,e1,fun v ρ1 S1 H1 R1 l1 v1 r1=>?_⟩;rcases MS.b_inv hf with ⟨x,Ω2,e2,hf⟩|⟨x,e2,rfl⟩
  ·refine⟨Jz,Sz,Hz,F,ρ1,S1,Y,Ω1,R1,.ok x,Ω2,e2,fun u ρ2 S2 H2 R2 l2 v2 r2=>?_⟩;obtain⟨i,cl,fs,rfl,hi,hcl,hlt,rfl,rfl⟩:=jrs hf;obtain⟨ad,q1,q2⟩:=rep_obj.mp r2;obtain⟨ad',p1,p2,C,dx,vfs,p3,p4,p5,p6,p7⟩:=R2.sto.ats i _ hi;rw[q1] at p1;cases p1
   obtain⟨g1,g2⟩:=hc cl (zbc.mp hcl) C p3;have r1':=(r1.rho l2).mono v2;obtain⟨t1,t2⟩:=R2.put (f:=f) hi q1 p2 p3 p4 p5 p6 p7 r1';exact⟨ad,C,dx,vfs,q2,p4,g1,g2,by rw[p7.length];exact hlt,k ρ2 S2 Z _ t1 (l1.trans l2) (by rw[t2];exact v1.trans v2)⟩
  ·exact⟨Jz,Sz,Hz,F,ρ1,S1,Y,Ω1,R1,.error x,_,e2,trivial⟩
 ·exact⟨Jz,Sz,Hz,F,J,S,Y,Ω,R,.error x,_,e1,trivial⟩
def jF9{i j:Nat}{x y:Str}{p1 p2 p3 pos':Pos}(hN:X.N.Nodup)(ho:O.contains j=true)(hoi:O.contains i=false:=by rfl)(hi:X.N[i]? = some x:=by rfl)(hj:X.N[j]? = some y:=by rfl)(hx:Loc X.env.scope x:=by first|exact Or.inl rfl|exact Or.inr rfl)
  (hv:Vis X.env.scope y:=by first|exact Or.inl rfl|exact Or.inr (Or.inl rfl)|exact Or.inr (Or.inr rfl))
  (hd:(y == ("__debug__":Str))=false:=by decide) (hcd:(y == ("__classdict__":Str))=false:=by decide) (hbase:attributeBase (.Name y p1) "pop" X.env (eval (.Name y p1) X.env)=eval (.Name y p1) X.env:=by rfl) (hline:(p2.endLine == p3.line)=true:=by rfl)
  (hs:swapsWith (.Call (.Attribute (.Name y p1) "pop" p2) [] [] p3) (some (.Name x pos')) pos.line X.env=pure false:=by rfl) (hf:X.fn x=true\/X.env.scope.names.lookup x=some .local:=by first|exact .inl rfl|exact .inr rfl|assumption) :
  MSt X O O B (.Assign [.Name x pos'] (.Call (.Attribute (.Name y p1) "pop" p2) [] [] p3) pos) (ePop i j):=by
 rintro U s Z H Dn I ⟨Jz,Sz,Hz,F,J,S,Y,Ω,R,r,Ω',hg,k⟩;have ho':j∈O:=zbc.mp ho;have hoi':i∉O:=fun z=>by rw[zbc.mpr z] at hoi;cases hoi
 obtain⟨l,xs,ds,q1,q2,q3,q4,q5⟩:=R.rs.own j ho';refine jma hN hi hx (jAt PySem.F.plainAttrs_list PySem.F.slot_list_pop PySem.F.type_list_pop jAn (jl9 hj hv hd hcd) hbase hline) hs hf U s Z H Dn I ?_;refine⟨.ref l,q2,.inl ⟨rfl,_,SqL.of q3⟩,?_⟩;unfold ePop at hg;have hjj:(Y[j]?).join=some (.lst ds):=by rw[q1];rfl
 rw[hjj] at hg;dsimp only at hg
 cases hl:ds[ds.length-1]? with
 | none=>rw[hl] at hg;cases hg
 | some d =>
  rw[hl] at hg;cases hg;obtain⟨v,w1,w2⟩:=q5.get hl;have hR:=R.write ho' q2 q5.dropLast;have hh:hid (upd H l (.lst xs.dropLast)) (fob (un F S) Z O)=hid H (fob (un F S) Z O):=jgh (fob_t.mpr (.inr ⟨j,ho',q2⟩));refine⟨l,xs,v,rfl,rfl,q3,by rw[q5.length];exact w1,?_⟩;refine k J S _ _ (hR.set hoi' (by rw[hh];exact w2)) (RLe.refl _) ?_;rw[jda hoi',hh];exact Same.refl _
def jF7{body:List Stmt}{h:D->DSt->Option DSt}(hp:PassesOwn (model X.prog X.w) X.A X.env X.xe)(hc:X.calm=true)(hi:MI X O tg iter fi)(hg:DG X O tg h)(hb:MSs X O O O body g)
  (hs:∀ x,foldedSetIterable iter X.env x=pure x:=by intro _;rfl):MSt X O O B (.For tg iter body [] pos) (eFor fi h g):=by
 rintro U s Z H Dn I ⟨Jz,Sz,Hz,F,J,S,Y,Ω,R,r,Ω',hgf,k⟩;refine jwl hp hc hi hg hb hs U s Z H Dn I ?_;rcases MS.b_inv hgf with ⟨ds,Ω1,e1,hgf⟩|⟨y,e1,rfl⟩
 ·refine⟨Jz,Sz,Hz,F,J,S,Y,Ω,R,.ok ds,Ω1,e1,fun Jq ρ1 S1 H1 R1 l1 v1 it=>?_⟩;refine⟨fun i m Z' H'=>m=ds.length-i/\i<=ds.length/\∃ J' S' Y' Ω2,RM Jz Sz Hz F X.K X.mg O J' S' H' Z' Y' Ω2/\RLe ρ1 J'/\Same (hid H1 (fob (un F S1) Z O)) (hid H' (fob (un F S') Z' O))/\forE g h (ds.drop i) Y' Ω2=some (r,Ω'),
   ⟨ds.length,by simp,Nat.zero_le _,ρ1,S1,Y,Ω1,R1,RLe.refl _,Same.refl _,hgf⟩,?_⟩
  rintro i m Z' H' ⟨rfl,hil,J',S',Y',Ω2,R',l',f',hr⟩;obtain⟨j1,j2⟩:=it H' (fob (un F S') Z' O) i f' (fun p hp=>R'.fresh hp)
  by_cases hlt:i<ds.length
  ·obtain⟨go,yld⟩:=j1 hlt;refine .inr ⟨go,fun Z2 H2=>∃ ρ2 S2 Y2 Ω3,RM Jz Sz Hz F X.K X.mg O ρ2 S2 H2 Z2 Y2 Ω3/\RLe ρ1 ρ2/\Same (hid H1 (fob (un F S1) Z O)) (hid H2 (fob (un F S2) Z2 O))/\forE g h (ds.drop (i+1)) Y2 Ω3=some (r,Ω'),fun Z2 H2 ⟨ρ2,S2,Y2,Ω3,a1,a2,a3,a4⟩=>⟨ds.length-(i+1),by omega,rfl,hlt,ρ2,S2,Y2,Ω3,a1,a2,a3,a4⟩,fun x H2 y=>?_⟩;obtain⟨s2,d,hd,rd⟩:=yld x H2 y;have hdr:ds.drop i=d::ds.drop (i+1):=by
    rw[List.drop_eq_getElem_cons hlt];have:ds[i]=d:=by rw[zax hlt] at hd;exact zby hd
    rw[this]
   rw[hdr] at hr;unfold forE at hr
   cases e2:h d Y' with
   | none=>rw[e2] at hr;cases hr
   | some Y1 =>
    rw[e2] at hr;dsimp only at hr;have R2:=R'.mono s2;have f2:Same (hid H1 (fob (un F S1) Z O)) (hid H2 (fob (un F S') Z' O)):=f'.trans (jaq s2);refine⟨J',_,un F S',Y',d,Y1,R2.rs,rd.rho l',e2,fun Z3 ef R3=>?_⟩;have R3':RM Jz Sz Hz F X.K X.mg O J' S' H2 Z3 Y1 Ω2:=R2.next R3 (by rw[ef];exact Same.refl _);rcases MS.b_inv hr with ⟨o,Ω3,e3,hr⟩|⟨y,e3,rfl⟩
    ·refine⟨Jz,Sz,Hz,F,J',S',Y1,Ω2,R3',.ok o,Ω3,e3,?_⟩;rw[ef]
     cases o with
     | nx Y4=>exact fun J4 S4 Z4 H4 R4 l4 v4=>⟨J4,S4,Y4,Ω3,R4,l'.trans l4,f2.trans v4,hr⟩
     | ct Y4=>exact fun J4 S4 Z4 H4 R4 l4 v4=>⟨J4,S4,Y4,Ω3,R4,l'.trans l4,f2.trans v4,hr⟩
     | bk Y4=>cases hr;exact fun J4 S4 Z4 H4 R4 l4 v4=>k J4 S4 Z4 H4 R4 (l1.trans (l'.trans l4)) (v1.trans (f2.trans v4))
     | rt v=>cases hr;exact k
    ·exact⟨Jz,Sz,Hz,F,J',S',Y1,Ω2,R3',.error y,_,e3,trivial⟩
  ·have ei:i=ds.length:=by omega
   subst ei;rw[List.drop_length] at hr;cases hr;exact .inl ⟨j2 rfl,k J' S' Z' H' R' (l1.trans l') (v1.trans f')⟩
 ·exact⟨Jz,Sz,Hz,F,J,S,Y,Ω,R,.error y,_,e1,trivial⟩
def jyv{c:Expr}{body:List Stmt}{fuel:Nat}(hp:PassesOwn (model X.prog X.w) X.A X.env X.xe)(hc:MT X O c tc)(hb:MSs X O O O body g):MSt X O O B (.While c body [] pos) (jcg tc g fuel):=by
 rintro U s Z H Dn I ⟨Jz,Sz,Hz,F,J,S,Y,Ω,R,r,Ω',hg,k⟩;refine jsi hp hc hb U s Z H Dn I ?_;refine⟨fun m Z' H'=>∃ J' S' Y' Ω2,RM Jz Sz Hz F X.K X.mg O J' S' H' Z' Y' Ω2/\RLe J J'/\Same (hid H (fob (un F S) Z O)) (hid H' (fob (un F S') Z' O))/\jcg tc g m Y' Ω2=some (r,Ω'),⟨fuel,J,S,Y,Ω,R,RLe.refl _,Same.refl _,hg⟩,?_⟩;rintro m Z' H' ⟨J',S',Y',Ω2,R',l',f',hr⟩
 cases m with
 | zero=>cases hr
 | succ m =>
  unfold jcg at hr;rcases MS.b_inv hr with ⟨z,Ω3,e1,hr⟩|⟨y,e1,rfl⟩
  ·refine⟨Jz,Sz,Hz,F,J',S',Y',Ω2,R',.ok z,Ω3,e1,fun ρ1 S1 H1 R1 l1 v1=>?_⟩;have f1:=f'.trans v1;have l2:=l'.trans l1
   cases z with
   | true =>
    rw[if_pos rfl] at hr;refine iteT ⟨fun Z2 H2=>∃ J' S' Y' Ω2,RM Jz Sz Hz F X.K X.mg O J' S' H2 Z2 Y' Ω2/\RLe J J'/\Same (hid H (fob (un F S) Z O)) (hid H2 (fob (un F S') Z2 O))/\jcg tc g m Y' Ω2=some (r,Ω'),fun Z2 H2 q=>⟨m,Nat.lt_succ_self _,q⟩,?_⟩;rcases MS.b_inv hr with ⟨o,Ω4,e3,hr⟩|⟨y,e3,rfl⟩
    ·refine⟨Jz,Sz,Hz,F,ρ1,S1,Y',Ω3,R1,.ok o,Ω4,e3,?_⟩
     cases o with
     | nx Y4=>exact fun J4 S4 Z4 H4 R4 l4 v4=>⟨J4,S4,Y4,Ω4,R4,l2.trans l4,f1.trans v4,hr⟩
     | ct Y4=>exact fun J4 S4 Z4 H4 R4 l4 v4=>⟨J4,S4,Y4,Ω4,R4,l2.trans l4,f1.trans v4,hr⟩
     | bk Y4=>cases hr;exact fun J4 S4 Z4 H4 R4 l4 v4=>k J4 S4 Z4 H4 R4 (l2.trans l4) (f1.trans v4)
     | rt v=>cases hr;exact k
    ·exact⟨Jz,Sz,Hz,F,ρ1,S1,Y',Ω3,R1,.error y,_,e3,trivial⟩
   | false =>
    rw[if_neg (by decide)] at hr;cases hr;exact iteF (k ρ1 S1 Z' H1 R1 l2 f1)
  ·exact⟨Jz,Sz,Hz,F,J',S',Y',Ω2,R',.error y,_,e1,trivial⟩
end
def jjg(st:Stmt)(j:Nat):Stmt:=match st with
 | .ClassDef _ _ _ b _ _ _ _ _ _ _=>b.getD j (.Pass ⟨0,0,0,0⟩)
 | _=>.Pass ⟨0,0,0,0⟩
structure ClsAt(K:W.Frag)(mg:qa)(c:Str)(fs:List Str):Prop where
 ok:∀ C,mg c=some (.ref C)->Cls K C/\∀ f∈fs,NoAttr K C f
section
variable {K:W.Frag}{mg:qa}{h:Heap}{c x q:Str}{st:Stmt}{ps:List Str}{C f:Addr}{oc:Value}{od an:Option Addr}{osl:qf}{kV doc pm cdv ct:Value}
def jkg{fs:List Str}(X:K.In h)(G:h.Ns mainGlobals mg)(a:W.nsIn K mainGlobals c=some (some (.ref C)))(p1:W.plainGet K C Str.empty=true)(p2:W.hasDictIn K C=true)(p3:W.plainOver K C=true)
  (p4:W.findIn K (.ref C) "__setattr__"=some (some (.builtin "object.__setattr__"))) (n:∀ f∈fs,W.findIn K (.ref C) f=some none):ClsAt K mg c fs :=
 ⟨fun C' hC=>by rw[W.mg_of X G a] at hC;cases hC;exact⟨⟨p1,p2,p3,p4⟩,n⟩⟩
def ClsAt.is{X:Cx}{fs:List Str}(T:ClsAt X.K X.mg c fs){f:Str}(hf:f∈fs):jxq X [c] f:=fun c' hc C hC=>by
 rw[zcc] at hc;subst hc;exact⟨(T.ok C hC).1,(T.ok C hC).2 f hf⟩
def jnc{fs:List Str}(X:K.In h)(G:h.Ns mainGlobals mg)(T:ClsAt K mg c fs)
  (hb:∀ (kV doc pm:Value) (an:Option Addr) (cdv ct:Value) (us:List Value),us.length=ps.length->bindArgs (W.fnOf x q (jbx st) (jar st) (jad st) .none kV doc pm an cdv ct) ⟨us,[]⟩=pure (ps.zip us))
  (a:W.nsIn K mainGlobals c=some (some (.ref C))) (m1:W.findIn K (.ref C) x=some (some (.ref f))) (m2:W.isFn K (.ref f)=true)
  (l:K.lookup f=some ⟨oc,od,.func (W.fnOf x q (jbx st) (jar st) (jad st) .none kV doc pm an cdv ct),osl⟩)
  (cd:W.codeIn K cdv q=true) (k:W.keepIn K (.ref f)=true):MetAt K mg c x q st ps:=by
 have F:=jrz (st:=st) l cd k;have hm:=W.mg_of X G a;exact⟨C,f,_,hm,(T.ok C hm).1,⟨m1,m2,k⟩,F,F.binds hb⟩
def jyf(X:K.In h)(G:h.Ns mainGlobals mg)
  (hb:∀ (kV doc pm:Value) (an:Option Addr) (cdv ct:Value) (us:List Value),us.length=ps.length->bindArgs (W.fnOf "__init__" q (jbx st) (jar st) (jad st) .none kV doc pm an cdv ct) ⟨us,[]⟩=pure (ps.zip us))
  (a:W.nsIn K mainGlobals c=some (some (.ref C))) (i1:W.makesIn K C=true) (i2:W.findIn K (.ref C) "__init__"=some (some (.ref f))) (i3:W.isFn K (.ref f)=true) (i4:W.keepIn K (.ref C)=true)
  (l:K.lookup f=some ⟨oc,od,.func (W.fnOf "__init__" q (jbx st) (jar st) (jad st) .none kV doc pm an cdv ct),osl⟩)
  (cd:W.codeIn K cdv q=true) (k:W.keepIn K (.ref f)=true):IniAt K mg c q st ps:=by
 have F:=jrz (st:=st) l cd k;exact⟨C,f,_,W.mg_of X G a,⟨i1,i2,i3,i4⟩,F,F.binds hb⟩
end
def mB(f:DSt->MS D):DSt->MS Bool:=fun Y=>(f Y).b fun d=>match d with
 | .bl k=>MS.p k
 | _=>fun _=>none
section
variable {X:Cx}{O:List Nat}{a b:Expr}{fa fb:DSt->MS D}{pos:Pos}
def jo6{op:CmpOp}{g:D->D->Option D}{r:R2}(ho:OpR X (compareOp op) r)(hg:OpD X.K g r)(ha:ME X O a fa)(hb:ME X O b fb)(hm:behindInMarks op b=false):MT X O (.Compare a [op] [b] pos) (mB (m2 g fa fb)):=by
 rintro U s Z H Q I ⟨Jz,Sz,Hz,F,J,S,Y,Ω,R,rr,Ω',hf,k⟩;refine jwo ho ha hb hm U s Z H Q I (jqn (r:=r) hg ?_);rcases MS.b_inv hf with ⟨x,Ω1,e1,hf⟩|⟨x,e1,rfl⟩
 ·cases x with
  | bl kk=>cases hf;exact⟨Jz,Sz,Hz,F,J,S,Y,Ω,R,.ok (.bl kk),_,e1,fun v J' S' H' R' l sm rv=>⟨kk,rep_bl.mp rv,k J' S' H' R' l sm⟩⟩
  | _=>cases hf
 ·exact⟨Jz,Sz,Hz,F,J,S,Y,Ω,R,.error x,Ω',e1,k⟩
end
def spA(K:W.Frag)(n:Nat)(m:List D->MS D):Sp:=fun vs H Q E=>∀ mg,spE K mg n m vs H Q E
def FUEL:Nat:=Classical.choose (⟨100000,rfl⟩:∃ n:Nat,n=100000)
def jp2:FUEL=100000:=Classical.choose_spec (⟨100000,rfl⟩:∃ n:Nat,n=100000)
section
variable {Y:DSt}{fa fb:DSt->M D}{fl:DSt->M (List D)}{g:D->D->Option D}{u:D->Option D}{k:List D->Option D}{ta tb:DSt->M Bool}{g1 g2:DSt->M Out}{m:List D->M D}{ki:List D->Option (List D)}{fi:DSt->M (List D)}{tg:D->DSt->Option DSt}
@[simp] theorem jIv(i:Nat):vR i Y=M.o (Y[i]?).join:=rfl
@[simp] theorem e_C(d:D):fC d Y=M.p d:=rfl
@[simp] theorem e_2:f2 g fa fb Y=(fa Y).b fun x=>(fb Y).b fun y=>M.o (g x y):=rfl
@[simp] theorem e_1:f1 u fa Y=(fa Y).b fun x=>M.o (u x):=rfl
def asB:Option D->M Bool
 | some (.bl b)=>M.p b
 | _=>none
@[simp] theorem jEx(b:Bool):asB (some (.bl b))=M.p b:=rfl
@[simp] theorem e_t2:t2 g fa fb Y=(fa Y).b fun x=>(fb Y).b fun y=>asB (g x y):=rfl
@[simp] theorem jFb:fNil Y=M.p []:=rfl
@[simp] theorem juv:jac fa fl Y=(fa Y).b fun x=>(fl Y).b fun xs=>M.p (x::xs):=rfl
@[simp] theorem e_L:fL k fl Y=(fl Y).b fun xs=>M.o (k xs):=rfl
@[simp] theorem jAa:jbg m fl Y=(fl Y).b m:=rfl
@[simp] theorem jIt:gNot (.bl b)=some (.bl !b):=rfl
@[simp] theorem jFd:tNot ta Y=(ta Y).b fun x=>M.p !x:=rfl
@[simp] theorem jFc:tAnd ta tb Y=(ta Y).b fun x=>if x=true then tb Y else M.p false:=rfl
@[simp] theorem jIu:tOr ta tb Y=(ta Y).b fun x=>if x=true then M.p true else tb Y:=rfl
@[simp] theorem e_if:fIf ta fa fb Y=(ta Y).b fun x=>if x=true then fa Y else fb Y:=rfl
def andB(b:D)(r:M D):M D:=match b with
 | .bl true=>r
 | .bl false=>M.p (.bl false)
 | _=>none
def orB(b:D)(r:M D):M D:=match b with
 | .bl true=>M.p (.bl true)
 | .bl false=>r
 | _=>none
@[simp] theorem jz4(r:M D):andB (.bl true) r=r:=rfl
@[simp] theorem andB_f(r:M D):andB (.bl false) r=M.p (.bl false):=rfl
@[simp] theorem jJe(r:M D):orB (.bl true) r=M.p (.bl true):=rfl
@[simp] theorem jGh(r:M D):orB (.bl false) r=r:=rfl
@[simp] theorem jB2:fAnd fa fb Y=(fa Y).b fun x=>andB x (fb Y):=rfl
@[simp] theorem e_or:fOr fa fb Y=(fa Y).b fun x=>orB x (fb Y):=rfl
@[simp] theorem jFe:tTru fa Y=(fa Y).b fun x=>M.o (truD x):=rfl
@[simp] theorem jHt(b:Bool):truD (.bl b)=some b:=rfl
@[simp] theorem jJ5:truD .non=some false:=rfl
@[simp] theorem e_nx:gNx Y=M.p (.nx Y):=rfl
def seqO(g2:DSt->M Out):Out->M Out
 | .nx Y'=>g2 Y'
 | o=>M.p o
@[simp] theorem jnz(Y':DSt):seqO g2 (.nx Y')=g2 Y':=rfl
@[simp] theorem jD3(d:D):seqO g2 (.rt d)=M.p (.rt d):=rfl
@[simp] theorem jJo(Y':DSt):seqO g2 (.bk Y')=M.p (.bk Y'):=rfl
@[simp] theorem jJp(Y':DSt):seqO g2 (.ct Y')=M.p (.ct Y'):=rfl
@[simp] theorem jmu:gSeq g1 g2 Y=(g1 Y).b (seqO g2):=by
 show (g1 Y).b _=_;congr 1
@[simp] theorem jB9(i:Nat):gSet i fa Y=(fa Y).b fun d=>M.p (.nx (Y.set i (some d))):=rfl
@[simp] theorem jx4:gRet fa Y=(fa Y).b fun d=>M.p (.rt d):=rfl
@[simp] theorem e_drop:jIy fa Y=(fa Y).b fun _=>M.p (.nx Y):=rfl
@[simp] theorem jB5:gIf ta g1 g2 Y=(ta Y).b fun b=>if b=true then g1 Y else g2 Y:=rfl
@[simp] theorem e_brk:gBrk Y=M.p (.bk Y):=rfl
@[simp] theorem e_cnt:gCnt Y=M.p (.ct Y):=rfl
def appO(i:Nat)(Y:DSt)(d:D):Option D->M Out
 | some (.lst ds)=>if ds.length<sizeLine then M.p (.nx (Y.set i (some (.lst (ds++[d]))))) else none
 | _=>none
def jrc{i:Nat}{Y:DSt}{d:D}{ds:List D}(h:ds.length<sizeLine):appO i Y d (some (.lst ds))=M.p (.nx (Y.set i (some (.lst (ds++[d]))))):=if_pos h
@[simp] theorem jB3(i:Nat):gApp i fa Y=(fa Y).b fun d=>appO i Y d (Y[i]?).join:=rfl
@[simp] theorem jB4:gFor fi tg g1 Y=(fi Y).b fun ds=>forD g1 tg ds Y:=rfl
@[simp] theorem jB6:jih ki fl Y=(fl Y).b fun ds=>M.o (ki ds):=rfl
@[simp] theorem jAb:jed fa Y=(fa Y).b fun d=>M.o (seqD d):=rfl
@[simp] theorem e_yes:tYes Y=M.p true:=rfl
@[simp] theorem jx3(d:D):outD (.rt d)=M.p d:=rfl
@[simp] theorem jIj(Y:DSt):outD (.nx Y)=M.p .non:=rfl
def jg8(N:Nat)(x0:D):mir 1 N g1 [x0]=(g1 (some x0::List.replicate (N-1) none)).b outD:=rfl
def jh7(N:Nat)(x0 x1:D):mir 2 N g1 [x0,x1]=(g1 (some x0::some x1::List.replicate (N-2) none)).b outD:=rfl
def jrt(N:Nat)(x0 x1 x2:D):mir 3 N g1 [x0,x1,x2]=(g1 (some x0::some x1::some x2::List.replicate (N-3) none)).b outD:=rfl
@[simp] theorem b_none{α β:Type}(f:α->M β):M.b none f=none:=rfl
@[simp] theorem jBq{α β γ:Type}(m:M α)(f:α->M β)(h:β->M γ):(m.b f).b h=m.b fun a=>(f a).b h:=by
 cases m with
 | none=>rfl
 | some e=>cases e<;>rfl
@[simp] theorem jFa{own:Nat}{caps:qg}{tc:DSt->M Bool}:jha own caps fi tg tc fa Y=(fi Y).b fun ds=>M.o ((jfr tg tc fa ds (jiy own caps Y)).bind jbq):=rfl
end
@[simp] theorem lt_int(i j:Int):gLt (.int i) (.int j)=some (.bl (decide (i<j))):=rfl
@[simp] theorem le_int(i j:Int):gLe (.int i) (.int j)=some (.bl (decide (i<=j))):=rfl
@[simp] theorem gt_int(i j:Int):gGt (.int i) (.int j)=some (.bl (decide (j<i))):=rfl
@[simp] theorem ge_int(i j:Int):gGe (.int i) (.int j)=some (.bl (decide (j<=i))):=rfl
@[simp] theorem add_int(i j:Int):gAdd (.int i) (.int j)=some (.int (i+j)):=rfl
@[simp] theorem sub_int(i j:Int):gSub (.int i) (.int j)=some (.int (i-j)):=rfl
@[simp] theorem neg_int(i:Int):gNeg (.int i)=some (.int (-i)):=rfl
def jcv{i j:Int}(h:0<j):gMod (.int i) (.int j)=some (.int (i % j)):=if_pos h
def Bt(k:Nat)(i:Int):Prop:=i.natAbs<2 ^ k
def Bt.mono{a b:Nat}{i:Int}(h:Bt a i)(hab:a<=b):Bt b i:=zcx h (Nat.pow_le_pow_right (by decide) hab)
def Bt.mul{a b:Nat}{i j:Int}(h:Bt a i)(k:Bt b j):Bt (a+b) (i*j):=by
 unfold Bt at *;rw[Int.natAbs_mul,Nat.pow_add];exact Nat.mul_lt_mul'' h k
def Bt.add{a:Nat}{i j:Int}(h:Bt a i)(k:Bt a j):Bt (a+1) (i+j):=by
 unfold Bt at *;rw[Nat.pow_succ];omega
def Bt.neg{a:Nat}{i:Int}(h:Bt a i):Bt a (-i):=by unfold Bt at *;omega
def Bt.big{k:Nat}{i:Int}(h:Bt k i)(hk:k<=100000):jh3 i=true:=by
 have h':=zcx h (Nat.pow_le_pow_right (by decide:2 > 0) hk);rw[<- jt7] at h';unfold jh3 BIG;rw[Bool.and_eq_true,decide_eq_true_eq,decide_eq_true_eq];omega
def jGa{a b:Nat}{i j:Int}(h:Bt a i)(k:Bt b j)(ha:a<=100000:=by decide)(hb:b<=100000:=by decide):gMul (.int i) (.int j)=some (.int (i*j)):=by
 have:(jh3 i&&jh3 j)=true:=by rw[h.big ha,k.big hb];rfl
 exact if_pos this
def jgc{i j:Int}(h:0<j)(h2:j<2 ^ 200):jhb (.int i) (.int j)=some (.int (i / j)):=by
 refine if_pos ⟨h,?_⟩;unfold DIVB;have:(2 ^ 200:Nat)<=2 ^ 9000:=Nat.pow_le_pow_right (by decide) (by decide);rw[<- jt8] at this;omega
def jDo{i:Int}{j:Int}(h:0<=j/\j<=1000/\-(2 ^ 60)<i/\i<2 ^ 60):gPow (.int i) (.int j)=some (.int (i ^ j.toNat)):=if_pos h
def atI_get{α:Type}{xs:List α}{j:Nat}{v:α}(h:xs[j]? = some v):atI xs (j:Int)=some v:=by
 have hj:=(zbb.mp h).1;unfold atI ixN;rw[if_pos (by omega),if_pos (by omega)];simpa using h
@[simp] theorem ix_t(ds:List D)(i:Int):gIx (.tup ds) (.int i)=atI ds i:=rfl
@[simp] theorem ix_l(ds:List D)(i:Int):gIx (.lst ds) (.int i)=atI ds i:=rfl
@[simp] theorem at0{α:Type}(x:α)(xs:List α):atI (x::xs) 0=some x:=by
 have:=atI_get (xs:=x::xs) (j:=0) (v:=x) rfl;simpa using this
@[simp] theorem at1{α:Type}(x y:α)(xs:List α):atI (x::y::xs) 1=some y:=by
 have:=atI_get (xs:=x::y::xs) (j:=1) (v:=y) rfl;simpa using this
@[simp] theorem at2{α:Type}(x y z:α)(xs:List α):atI (x::y::z::xs) 2=some z:=by
 have:=atI_get (xs:=x::y::z::xs) (j:=2) (v:=z) rfl;simpa using this
@[simp] theorem at3{α:Type}(x y z w:α)(xs:List α):atI (x::y::z::w::xs) 3=some w:=by
 have:=atI_get (xs:=x::y::z::w::xs) (j:=3) (v:=w) rfl;simpa using this
@[simp] theorem jj6(ds:List D):kLen [.lst ds]=some (.int ds.length):=rfl
@[simp] theorem jI4(ds:List D):kLen [.tup ds]=some (.int ds.length):=rfl
@[simp] theorem jEi(ds:List D):kTuple [.lst ds]=some (.tup ds):=rfl
@[simp] theorem jFw(ds:List D):kList [.lst ds]=some (.lst ds):=rfl
@[simp] theorem range1(j:Int):jc6 [.int j]=some (jdx 0 j.toNat):=rfl
@[simp] theorem jGz(i j:Int):jc6 [.int i,.int j]=some (jdx i (j-i).toNat):=rfl
@[simp] theorem enum_l(xs:List D):jx5 [.lst xs]=some (jCa 0 xs):=rfl
@[simp] theorem jHa(ds:List D):seqD (.lst ds)=some ds:=rfl
@[simp] theorem jJq(ds:List D):seqD (.tup ds)=some ds:=rfl
@[simp] theorem kmin(i j:Int):kMin [.int i,.int j]=some (.int (if j<i then j else i)):=rfl
@[simp] theorem jI2(b:Bool):kInt [.bl b]=some (.int (if b then 1 else 0)):=rfl
@[simp] theorem jJ6(x y:D):jb3 [x,y]=some (.tup [x,y]):=rfl
@[simp] theorem jJ7(x y z:D):jb3 [x,y,z]=some (.tup [x,y,z]):=rfl
@[simp] theorem tupD4(x y z w:D):jb3 [x,y,z,w]=some (.tup [x,y,z,w]):=rfl
@[simp] theorem jI8:jbq []=some (.lst []):=rfl
@[simp] theorem jI9(x:D):jbq [x]=some (.lst [x]):=rfl
@[simp] theorem jJa(x y:D):jbq [x,y]=some (.lst [x,y]):=rfl
@[simp] theorem jJb(x y z:D):jbq [x,y,z]=some (.lst [x,y,z]):=rfl
def jCs{ds:List D}(h:ds.length<=sizeLine):jbq ds=some (.lst ds):=if_pos h
@[simp] theorem jru(i j:Int):gEq (.int i) (.int j)=some (.bl (i == j)):=rfl
@[simp] theorem jAp(i j:Int):gNe (.int i) (.int j)=some (.bl !(i == j)):=rfl
@[simp] theorem jky(i:Int):kIsi [.int i,.ty "int"]=some (.bl true):=rfl
@[simp] theorem jjz(i:Int):kIsi [.int i,.ty "bool"]=some (.bl false):=rfl
@[simp] theorem jm5(i:List D):kIsi [.tup i,.ty "tuple"]=some (.bl true):=rfl
theorem jra:∀ (xs ys:List D),zipD xs ys=(xs.zip ys).map fun p=>.tup [p.1,p.2]
 | [],_=>by simp[zipD]
 | _::_,[]=>by simp[zipD]
 | x::xs,y::ys=>by simp[zipD,jra xs ys]
theorem jqd{g:DSt->M Out}{tg:D->DSt->Option DSt}(I:List D->DSt->Prop)(h:∀ d ds Y,I (d::ds) Y->∃ Y1,tg d Y=some Y1/\∃ Y2,(g Y1=some (.ok (.nx Y2))\/g Y1=some (.ok (.ct Y2)))/\I ds Y2) :
  ∀ (ds:List D) (Y:DSt),I ds Y->∃ Y',forD g tg ds Y=some (.ok (.nx Y'))/\I [] Y'
 | [],Y,hi=>⟨Y,rfl,hi⟩
 | d::ds,Y,hi=>by
  obtain⟨Y1,e1,Y2,e2,i2⟩:=h d ds Y hi;obtain⟨Y',e3,i3⟩:=jqd I h ds Y2 i2;refine⟨Y',?_,i3⟩;unfold forD;rw[e1];dsimp only;rcases e2 with e2|e2<;>(rw[e2];exact e3)
@[simp] theorem jIk(i:Nat)(d:D)(Y:DSt):gName i d Y=some (Y.set i (some d)):=rfl
@[simp] theorem jIl(i j:Nat)(x y:D)(Y:DSt):je4 i j (.tup [x,y]) Y=some ((Y.set i (some x)).set j (some y)):=rfl
def getI:M D->Int
 | some (.ok (.int i))=>i
 | _=>0
def juy{m:M D}{i:Int}(h:m=some (.ok (.int i))):m=some (.ok (.int (getI m))):=by rw[h];rfl
def jku{g:DSt->M Out}{tg:D->DSt->Option DSt}(ds:List D)(I:Nat->DSt->Prop)
  (h:∀ (j:Nat) (hj:j<ds.length) (Y:DSt),I j Y->∃ Y1,tg ds[j] Y=some Y1/\∃ Y2,(g Y1=some (.ok (.nx Y2))\/g Y1=some (.ok (.ct Y2)))/\I (j+1) Y2) (Y:DSt) (h0:I 0 Y) :
  ∃ Y',forD g tg ds Y=some (.ok (.nx Y'))/\I ds.length Y':=by
 obtain⟨Y',e,j,hd,hj,hi⟩:=jqd (g:=g) (tg:=tg) (fun rem Y=>∃ j,rem=ds.drop j/\j<=ds.length/\I j Y) (fun d rem Y ⟨j,hr,hj,hi⟩=>by
  have hlt:j<ds.length:=by
   by_cases q:j<ds.length
   ·exact q
   ·rw[List.drop_eq_nil_of_le (by omega)] at hr;cases hr
  rw[List.drop_eq_getElem_cons hlt] at hr;obtain⟨rfl,rfl⟩:=List.cons.inj hr;obtain⟨Y1,e1,Y2,e2,i2⟩:=h j hlt Y hi;exact⟨Y1,e1,Y2,e2,j+1,rfl,hlt,i2⟩) ds Y ⟨0,rfl,Nat.zero_le _,h0⟩
 refine⟨Y',e,?_⟩;have:j=ds.length:=by
  have:=congrArg List.length hd;simp at this;omega
 rw[<- this];exact hi
@[simp] theorem jjt(lo:Int)(n:Nat):(jdx lo n).length=n:=by simp[jdx]
@[simp] theorem jjs(lo:Int)(n j:Nat)(h:j<(jdx lo n).length):(jdx lo n)[j]=.int (lo+j):=by simp[jdx]
section
variable {Y:DSt}{fa fb:DSt->M D}{fl:DSt->M (List D)}{g:D->D->Option D}{k:List D->Option D}
@[simp] theorem jIs(i:Nat):gAug i g fa Y=(M.o (Y[i]?).join).b fun x=>(fa Y).b fun y=>(M.o (g x y)).b fun d=>M.p (.nx (Y.set i (some d))):=rfl
@[simp] theorem jBx(i j:Int):gCat (.int i) (.int j)=some (.int (i+j)):=rfl
def jBy{x y:Str}(h:x.length+y.length<=sizeLine):gCat (.str x) (.str y)=some (.str (x++y)):=if_pos h
def jui{x y:List D}(h:x.length+y.length<=sizeLine):gCat (.lst x) (.lst y)=some (.lst (x++y)):=if_pos h
def jdl{a b:Nat}{i j:Int}(h:Bt a i)(k:Bt b j)(ha:a<=100000:=by decide)(hb:b<=100000:=by decide):jci (.int i) (.int j)=some (.int (i*j)):=jGa h k ha hb
theorem jnv{α:Type}(x:α):∀ n:Nat,(List.replicate n [x]).flatten=List.replicate n x
 | 0=>rfl
 | n+1=>by rw[List.replicate_succ,List.flatten_cons,jnv x n];rfl
def jyx{x:D}{n:Nat}(h1:1<=n)(h2:n<=1000):jci (.tup [x]) (.int n)=some (.tup (List.replicate n x)):=by
 have:jci (.tup [x]) (.int n)=some (.tup (List.replicate (n:Int).toNat [x]).flatten):=if_pos ⟨by simp,by omega,by omega,by simp;omega⟩;rw[this,jnv];simp
def jB8(x:D)(n:Nat)(hl:fl Y=M.p [x])(hb:fb Y=M.p (.int n))(hn:n<=1000):fRep fl fb Y=M.p (.lst (List.replicate n x)):=by
 unfold fRep;rw[hl,hb];have h1:([x]:List D).length<=sizeLine:=by show 1<=sizeLine;decide
 have h3:1000<=sizeLine:=by decide
 have h2:-(2 ^ 63)<=(n:Int)/\(n:Int)<2 ^ 63/\([x]:List D).length*(n:Int).toNat<=sizeLine:=⟨by omega,by omega,by simp;omega⟩
 rw[M.b_p,if_pos h1,M.b_p];dsimp only;rw[if_pos h2,jnv];rfl
@[simp] theorem e_asg(h:D->DSt->Option DSt):gAsg h fa Y=(fa Y).b fun d=>match h d Y with
 | some Y'=>M.p (.nx Y')
 | none=>none:=rfl
@[simp] theorem e_tup3(i j l:Nat)(x y z:D):jIz i j l (.tup [x,y,z]) Y=some (((Y.set i (some x)).set j (some y)).set l (some z)):=rfl
@[simp] theorem jCo(b:Bool):kIntT [.bl b]=some (.int (if b then 1 else 0)):=rfl
theorem jue:∀ bs:List Bool,blsD (bs.map .bl)=some bs
 | []=>rfl
 | b::bs=>by rw[List.map_cons];unfold blsD;rw[jue bs];rfl
def jBl(bs:List Bool):kAll [.lst (bs.map .bl)]=some (.bl (bs.all id)):=by
 show (blsD (bs.map D.bl)).map (fun ns=>D.bl (ns.all id))=_;rw[jue];rfl
def jon{c:DSt}{fe:DSt->M D}{α:Type}{K:α->D×D}{F:α->D}(ps:List α)(x y:Option D)(h:∀ p∈ps,fe (some (K p).1::some (K p).2::c)=some (.ok (F p))):jfr (je4 0 1) tYes fe (ps.map fun p=>.tup [(K p).1,(K p).2]) (x::y::c)=some (ps.map F):=by
 induction ps generalizing x y with
 | nil=>rfl
 | cons p ps ih =>
  rw[List.map_cons];unfold jfr;have e1:je4 0 1 (.tup [(K p).1,(K p).2]) (x::y::c)=some (some (K p).1::some (K p).2::c):=rfl;rw[e1];dsimp only [tYes,M.p];rw[h p zaa];dsimp only;rw[ih (some (K p).1) (some (K p).2) fun e he=>h e (zaw _ he)];rfl
def jg4{c:DSt}{fe:DSt->M D}{α:Type}{K:α->D}{F:α->D}(ps:List α)(x:Option D)(h:∀ p∈ps,fe (some (K p)::c)=some (.ok (F p))):jfr (gName 0) tYes fe (ps.map K) (x::c)=some (ps.map F):=by
 induction ps generalizing x with
 | nil=>rfl
 | cons p ps ih =>
  rw[List.map_cons];unfold jfr;have e1:gName 0 (K p) (x::c)=some (some (K p)::c):=rfl;rw[e1];dsimp only [tYes,M.p];rw[h p zaa];dsimp only;rw[ih (some (K p)) fun e he=>h e (zaw _ he)];rfl
def jxp(as bs:List Int):zipD (as.map .int) (bs.map .int)=(as.zip bs).map fun p=>.tup [.int p.1,.int p.2]:=by
 rw[jra,List.zip_map,List.map_map];rfl
end
def jBs{α β:Type}(r:Option (Except XD α×Sto))(f:α->MS β):Option (Except XD β×Sto):=match r with
 | none=>none
 | some (.error x,Ω')=>some (.error x,Ω')
 | some (.ok a,Ω')=>f a Ω'
section
variable {α β:Type}{Ω Ω':Sto}{Y:DSt}{fa fb fo:DSt->MS D}{fl:DSt->MS (List D)}{ta:DSt->MS Bool}{g1 g2:DSt->MS Out}{g:D->D->Option D}
@[simp] theorem s_b(m:MS α)(f:α->MS β):(m.b f) Ω=jBs (m Ω) f:=by
 unfold MS.b jBs
 cases m Ω with
 | none=>rfl
 | some p=>obtain⟨q,Ω1⟩:=p;cases q<;>rfl
@[simp] theorem jho(a:α)(f:α->MS β):jBs (some (.ok a,Ω')) f=f a Ω':=rfl
@[simp] theorem s_p(a:α):MS.p a Ω=some (.ok a,Ω):=rfl
@[simp] theorem s_lp(a:α):MS.l (M.p a) Ω=some (.ok a,Ω):=rfl
@[simp] theorem jJk(a:α):MS.l (some (.ok a):M α) Ω=some (.ok a,Ω):=rfl
@[simp] theorem s_o(a:α):MS.o (some a) Ω=some (.ok a,Ω):=rfl
@[simp] theorem s_lF(f:DSt->M α):lF f Y=MS.l (f Y):=rfl
@[simp] theorem jJj(cs:List Str)(f:Str):mGet cs f fa Y=(fa Y).b fun x=>getO cs f x:=rfl
@[simp] theorem jA7:jfu fa fl Y=(fa Y).b fun x=>(fl Y).b fun xs=>MS.p (x::xs):=rfl
@[simp] theorem s_2:m2 g fa fb Y=(fa Y).b fun x=>(fb Y).b fun y=>MS.o (g x y):=rfl
@[simp] theorem s_L(k:List D->Option D):mL k fl Y=(fl Y).b fun xs=>MS.o (k xs):=rfl
@[simp] theorem jw0(m:List D->M D):jl7 m fl Y=(fl Y).b fun ds=>MS.l (m ds):=rfl
@[simp] theorem jG4(m:List D->MS D):jgj m fl Y=(fl Y).b m:=rfl
@[simp] theorem jG9(i:Nat):eSet i fa Y=(fa Y).b fun d=>MS.p (.nx (Y.set i (some d))):=rfl
@[simp] theorem jG8:eRet fa Y=(fa Y).b fun d=>MS.p (.rt d):=rfl
@[simp] theorem jA8:je9 fa Y=(fa Y).b fun _=>MS.p (.nx Y):=rfl
@[simp] theorem jJm(cs:List Str)(f:Str):ePut cs f fo fa Y=(fa Y).b fun d=>(fo Y).b fun x=>(putO cs f x d).b fun _=>MS.p (.nx Y):=rfl
@[simp] theorem s_if:eIf ta g1 g2 Y=(ta Y).b fun b=>if b=true then g1 Y else g2 Y:=rfl
@[simp] theorem s_nx:eNx Y=MS.p (.nx Y):=rfl
@[simp] theorem jJl:mNot ta Y=(ta Y).b fun x=>MS.p !x:=rfl
@[simp] theorem jJn:mTru fa Y=(fa Y).b fun x=>MS.o (truD x):=rfl
def asBS:D->MS Bool
 | .bl k=>MS.p k
 | _=>fun _=>none
@[simp] theorem jBo(k:Bool):asBS (.bl k)=MS.p k:=rfl
@[simp] theorem s_B:mB fa Y=(fa Y).b asBS:=by
 show (fa Y).b _=_;congr 1
def seqS(g2:DSt->MS Out):Out->MS Out
 | .nx Y'=>g2 Y'
 | o=>MS.p o
@[simp] theorem jq5(Y':DSt):seqS g2 (.nx Y')=g2 Y':=rfl
@[simp] theorem jD4(d:D):seqS g2 (.rt d)=MS.p (.rt d):=rfl
@[simp] theorem jD1:eSeq g1 g2 Y=(g1 Y).b (seqS g2):=by
 show (g1 Y).b _=_;congr 1
@[simp] theorem jzq(d:D):outE (.rt d)=MS.p d:=rfl
@[simp] theorem jzp(Y:DSt):outE (.nx Y)=MS.p .non:=rfl
def jG6(N:Nat)(x0:D):mirE 1 N g1 [x0]=(g1 (some x0::List.replicate (N-1) none)).b outE:=rfl
def jmd(N:Nat)(x0 x1:D):mirE 2 N g1 [x0,x1]=(g1 (some x0::some x1::List.replicate (N-2) none)).b outE:=rfl
def jG7(N:Nat)(x0 x1 x2:D):mirE 3 N g1 [x0,x1,x2]=(g1 (some x0::some x1::some x2::List.replicate (N-3) none)).b outE:=rfl
@[simp] theorem jA9(c x:Str)(m:List D->MS D):jj7 c x m fo fl Y=(fo Y).b fun o=>match o with
 | .obj i=>jnd c x m i fl Y
 | _=>fun _=>none:=rfl
@[simp] theorem jw1(c:Str)(m:List D->MS D):jo1 c m fl Y=(fl Y).b fun ds=>jtf c m ds:=rfl
@[simp] theorem jG5(fi:DSt->MS (List D))(tg:D->DSt->Option DSt):eFor fi tg g1 Y=(fi Y).b fun ds=>forE g1 tg ds Y:=rfl
end
section
variable {X:Cx}{O:List Nat}{E:XK}{b:Expr}{fb:DSt->M D}{pos:Pos}
def joq(i:Nat){x:Str}{p:Pos}(ho:O.contains i=true)(hb:DE X O E b fb)(hN:X.N[i]? = some x:=by rfl)(hv:Vis X.env.scope x:=by first|exact Or.inl rfl|exact Or.inr (Or.inl rfl)|exact Or.inr (Or.inr rfl))
  (hd:(x == ("__debug__":Str))=false:=by decide) (hcd:(x == ("__classdict__":Str))=false:=by decide) (hs:jkj b:=by exact fun _ _=>rfl):DE X O E (.Subscript (.Name x p) b pos) (f2 gIx (vR i) fb):=by
 rintro U s Z H Q I ⟨J,Hz,F,Y,r,R,hf,k⟩;have ho':i∈O:=zbc.mp ho;obtain⟨l,xs,ds,q1,q2,q3,q4,q5⟩:=R.own i ho';refine jy8 jat (jl9 hN hv hd hcd) hb hs U s Z H Q I ⟨.ref l,q2,?_⟩;have e0:vR i Y=some (.ok (.lst ds)):=by unfold vR;rw[q1];rfl
 rcases M.b_inv hf with ⟨x,e1,hf⟩|⟨x,e1,rfl⟩
 ·rw[e0] at e1;cases e1;rcases M.b_inv hf with ⟨y,e2,hf⟩|⟨y,e2,rfl⟩
  ·refine⟨J,Hz,F,Y,.ok y,R,e2,fun v H2 s2 r2=>?_⟩;obtain⟨d,hd,rfl⟩:=M.o_inv hf;unfold gIx at hd
   split at hd
   ·rename_i z;cases z
    obtain⟨w,e,r⟩:=jnw q5 hd;exact .inl ⟨l,xs,_,w,rfl,rep_int.mp r2,SqL.of (s2 _ _ q3),e,k w H2 s2 (r.mono (jaq s2))⟩
   ·rename_i z;cases z
   ·rename_i z;cases z
   ·cases hd
  ·exact⟨J,Hz,F,Y,.error y,R,e2,k⟩
 ·rw[e0] at e1;cases e1
end
def jDt(own:Nat)(caps:qg)(Y:DSt):jiy own caps Y=List.replicate own none++caps.map fun p=>(Y[p.2]?).join:=rfl
def zip_tt(xs ys:List D):jfp [.tup xs,.tup ys]=some (zipD xs ys):=rfl
def jIi(xs ys:List D):jfp [.tup xs,.lst ys]=some (zipD xs ys):=rfl
def jIh(xs ys:List D):jfp [.lst xs,.tup ys]=some (zipD xs ys):=rfl
def jIg(xs ys:List D):jfp [.lst xs,.lst ys]=some (zipD xs ys):=rfl
def jKa{g1 g2:DSt->M Out}{Y Y':DSt}(h:g1 Y=some (.ok (.nx Y'))):gSeq g1 g2 Y=g2 Y':=by rw[jmu,h,M.b_ok,jnz]
def w_if{t:DSt->M Bool}{g1 g2:DSt->M Out}{Y:DSt}{b:Bool}(h:t Y=some (.ok b)):gIf t g1 g2 Y=if b=true then g1 Y else g2 Y:=by rw[jB5,h,M.b_ok]
def jHz{t:DSt->M Bool}{g1 g2:DSt->M Out}{Y:DSt}(h:t Y=some (.ok false)):gSeq (gIf t g1 gNx) g2 Y=g2 Y:=jKa (by rw[w_if h,if_neg (by decide)];rfl)
def jHy{fa:DSt->M D}{Y:DSt}{d:D}(hd:fa Y=some (.ok d)):gRet fa Y=some (.ok (.rt d)):=by rw[jx4,hd,M.b_ok];rfl
def jJ9{fi:DSt->M (List D)}{tg:D->DSt->Option DSt}{g:DSt->M Out}{Y:DSt}{ds:List D}(h:fi Y=some (.ok ds)):gFor fi tg g Y=forD g tg ds Y:=by rw[jB4,h,M.b_ok]
def jHx{fa:DSt->M D}{Y:DSt}{d:D}{ds:List D}(i:Nat)(hd:fa Y=some (.ok d))(hi:Y[i]? = some (some (.lst ds)))(hl:ds.length<=100000):gApp i fa Y=some (.ok (.nx (Y.set i (some (.lst (ds++[d])))))):=by
 rw[jB3,hd,M.b_ok,hi];exact jrc (by have:=sizeLine_eq;omega)
def jrx{g:DSt->M Out}{tg:D->DSt->Option DSt}{d:D}{ds:List D}{Y Y1 Y2:DSt}(h1:tg d Y=some Y1)(h2:g Y1=some (.ok (.nx Y2))):forD g tg (d::ds) Y=forD g tg ds Y2:=by
 conv=>lhs;unfold forD
 rw[h1];dsimp only;rw[h2];rfl
def stp:=And.intro (@if_true.{1}) <| And.intro (@if_false.{1}) <| And.intro (@Bool.false_eq_true) <| And.intro (@jmu) <| And.intro (@jB9) <| And.intro (@e_2) <| And.intro (@e_1) <| And.intro (@e_t2) <| And.intro (@jx4) <| And.intro (@jB5) <| And.intro (@jB4) <| And.intro (@jB6) <| And.intro (@jAb) <| And.intro (@jFa) <| And.intro (@jAa) <| And.intro (@juv) <| And.intro (@jIv) <| And.intro (@jFb) <| And.intro (@e_C) <| And.intro (@e_L) <| And.intro (@e_if) <| And.intro (@jFe) <| And.intro (@jFc) <| And.intro (@jIu) <| And.intro (@jFd) <| And.intro (@jIt) <| And.intro (@e_nx) <| And.intro (@jIs) <| And.intro (@jB3) <| And.intro (@jB2) <| And.intro (@e_or) <| And.intro (@M.o_some) <| And.intro (@M.b_p) <| And.intro (@M.b_ok) <| And.intro (@jBq) <| And.intro (@jnz) <| And.intro (@jD3) <| And.intro (@jx3) <| And.intro (@ix_t) <| And.intro (@ix_l) <| And.intro (@at0) <| And.intro (@at1) <| And.intro (@at2) <| And.intro (@at3) <| And.intro (@jHa) <| And.intro (@jJq) <| And.intro (@jEi) <| And.intro (@jFw) <| And.intro (@jj6) <| And.intro (@jI4) <| And.intro (@jJ6) <| And.intro (@jJ7) <| And.intro (@jI8) <| And.intro (@jI9) <| And.intro (@jJa) <| And.intro (@jJb) <| And.intro (@jBx) <| And.intro (@sub_int) <| And.intro (@neg_int) <| And.intro (@jru) <| And.intro (@jAp) <| And.intro (@lt_int) <| And.intro (@le_int) <| And.intro (@gt_int) <| And.intro (@ge_int) <| And.intro (@jEx) <| And.intro (@jHt) <| And.intro (@range1) <| And.intro (@jGz) <| And.intro (@Int.toNat_natCast) <| And.intro (@jxp) <| And.intro (@jDt) <| And.intro (@zip_tt) <| And.intro (@jIi) <| And.intro (@jIh) <| And.intro (@jIg) <| And.intro (@jky) <| And.intro (@jjz) <| And.intro (@jCo) <| And.intro (@List.replicate_succ.{0}) <| And.intro (@List.replicate_zero.{0}) <| And.intro (@List.set_cons_succ.{0}) <| And.intro (@List.set_cons_zero.{0}) <| And.intro (@List.getElem?_cons_zero.{0}) <| And.intro (@List.getElem?_cons_succ.{0}) <| And.intro (@Option.join_some.{0}) <| And.intro (@List.map_nil.{0,0}) <| And.intro (@List.map_cons.{0,0}) <| And.intro (@List.append_nil.{0}) <| And.intro (@List.cons_append.{0}) <| And.intro (@List.nil_append.{0}) <| And.intro (@Option.bind_some.{0,0}) <| True.intro
end DL
namespace L2
open PyProof.Rows
section
end
end L2
namespace DL
open L2
section
end
section
variable {Jz J J':Rho}{Sz S S' F:qe}{Hz H:Hp}{K:W.Frag}{mg:qa}{O:List Nat}{Z:St}{Y:DSt}{Ω:Sto}
def SOk.no_tup{J:Rho}{S:qe}{K:W.Frag}{mg:qa}{H Hv:Hp}{a:Addr}{so:SO}(h:SOk J S K mg H Hv a so)(xs:List V):H a≠some (.tup xs):=fun q=>by
 cases so with
 | ins c fs =>
  obtain⟨_,_,_,_,p,_⟩:=h;rw[q] at p;cases p
 | lst ds =>
  obtain⟨_,p,_⟩:=h;rw[q] at p;cases p
 | exc c j =>
  cases h with
  | no f C h1 h2=>rw[q] at h2;exact jIa (zby h2).symm
  | yes f j C dx h1 h2 h3=>rw[q] at h3;exact jIa (zby h3).symm
 | xd fs =>
  obtain⟨_,p,_⟩:=h;rw[q] at p;exact jKd (zby p).symm
def RM.putS(R:RM Jz Sz Hz F K mg O J S H Z Y Ω){i:Nat}{a:Addr}{so0 so':SO}{o0 o':HO}(hi:Ω[i]? = some so0)(ha:J i=some a)(hS:S a=true)(hH:H a=some o0)(hno:∀ y,HO.own y≠o0)(hr:SOk J S K mg (upd H a o') (hid H (fob (un F S) Z O)) a so') :
  RM Jz Sz Hz F K mg O J S (upd H a o') Z Y (Ω.set i so')/\hid (upd H a o') (fob (un F S) Z O)=hid H (fob (un F S) Z O):=by
 have hF:un F S a=true:=un_t.mpr (.inr hS);have hh:hid (upd H a o') (fob (un F S) Z O)=hid H (fob (un F S) Z O):=jgh (jg0 a hF);have il:i<Ω.length:=(zbb.mp hi).1;refine⟨⟨R.rs.updF hF,R.rho,fun b o h1 h2=>?_,R.old,R.new,R.own0,R.ff,?_⟩,hh⟩
 ·have hb:b≠a:=by
   rintro rfl;rcases R.new b hS with q|q
   ·rw[q] at h1;cases h1
   ·rw[q] at h2;cases h2
  rw[jaj hb];exact R.same b o h1 h2
 ·rw[hh];refine⟨fun j so hj=>?_,R.sto.inj,fun j hj=>R.sto.top j (by simpa using hj),fun b hb=>jll (R.sto.fin b hb),jlk R.sto.tv fun xs z=>hr.no_tup xs (by rw[jam,z])⟩
  by_cases hji:j=i
  ·subst hji;rw[zcz il] at hj;cases hj;exact⟨a,ha,hS,hr⟩
  ·rw[zbw (Ne.symm hji)] at hj;obtain⟨a',q1,q2,q3⟩:=R.sto.ats j so hj;have ne:a'≠a:=by
    rintro rfl;exact hji (R.sto.inj j i a' q1 ha)
   refine⟨a',q1,q2,?_⟩
   cases so with
   | ins c' fs' =>
    obtain⟨C',dx',vfs',p1,p2,p3,p4,p5⟩:=q3;have nd:dx'≠a:=jC4 p3 hH (hno _);exact⟨C',dx',vfs',p1,by rw[jaj ne];exact p2,by rw[jaj nd];exact p3,p4,p5⟩
   | lst ds0 =>
    obtain⟨xs0,p1,p2⟩:=q3;exact⟨xs0,by rw[jaj ne];exact p1,p2⟩
   | exc c j=>exact ExcOk.mono (fun _ _ z=>z) (jaj ne) q3
   | xd fs =>
    obtain⟨vfs,p1,p2⟩:=q3;exact⟨vfs,by rw[jaj ne];exact p1,p2⟩
def RM.putL(R:RM Jz Sz Hz F K mg O J S H Z Y Ω){i:Nat}{a:Addr}{ds ds':List D}{xs xs':List V}(hi:Ω[i]? = some (.lst ds))(ha:J i=some a)(hS:S a=true)(hH:H a=some (.lst xs))(hr:Reps J K (hid H (fob (un F S) Z O)) ds' xs') :
  RM Jz Sz Hz F K mg O J S (upd H a (.lst xs')) Z Y (Ω.set i (.lst ds'))/\hid (upd H a (.lst xs')) (fob (un F S) Z O)=hid H (fob (un F S) Z O) :=
 R.putS hi ha hS hH (fun _ z=>nomatch z) ⟨xs',jam,hr⟩
def RM.newS(R:RM Jz Sz Hz F K mg O J S H Z Y Ω){x:Addr}{nso:SO}{no:HO}(hx:H x=none)(hr:∀ J' S' Hv',RLe J J'->Same (hid H (fob (un F S) Z O)) Hv'->SOk J' S' K mg (upd H x no) Hv' x nso) :
  RM Jz Sz Hz F K mg O (addR J Ω.length x) (addS S x x) (upd H x no) Z Y (Ω++[nso])/\RLe J (addR J Ω.length x) /\
   Same (hid H (fob (un F S) Z O)) (hid (upd H x no) (fob (un F (addS S x x)) Z O)):=by
 have top:=R.sto.top Ω.length (zac _);have l:RLe J (addR J Ω.length x):=fun i a h=>by
  unfold addR
  by_cases e:i=Ω.length
  ·subst e;rw[top] at h;cases h
  ·rw[if_neg e];exact h
 have sm:Same H (upd H x no):=ja7 hx;have old:∀ b,S b=true->addS S x x b=true:=fun b h=>addS_t.mpr (.inl h)
 have new:∀ b,addS S x x b=true->S b=true\/H b=none:=fun b h=>by
  rcases addS_t.mp h with q|rfl|rfl
  ·exact .inl q
  ·exact .inr hx
  ·exact .inr hx
 have ff:∀ b,fob F Z O b=true->addS S x x b=false:=fun b h=>by
  have h2:fob (un F S) Z O b=true:=by rw[<- jf3];exact un_t.mpr (.inl h)
  cases e:addS S x x b with
  | false=>rfl
  | true =>
   rcases addS_t.mp e with q|rfl|rfl
   ·rcases fob_t.mp h with z|z
    ·rw[R.ff b z] at q;cases q
    ·exact absurd z (R.base_S q)
   ·rw[R.fresh hx] at h2;cases h2
   ·rw[R.fresh hx] at h2;cases h2
 have keep:∀ b,S b=true->(upd H x no) b=H b:=R.at_store sm;have vis0:Same (hid H (fob (un F S) Z O)) (hid (upd H x no) (un (fob F Z O) (addS S x x))):=fun b o q=>by
  obtain⟨q1,q2⟩:=hid_some.mp q;refine hid_some.mpr ⟨?_,sm b o q2⟩
  cases e:un (fob F Z O) (addS S x x) b with
  | false=>rfl
  | true =>
   rcases un_t.mp e with z|z
   ·have h2:fob (un F S) Z O b=true:=by rw[<- jf3];exact un_t.mpr (.inl z)
    rw[h2] at q1;cases q1
   ·rcases new b z with z|z
    ·have h2:fob (un F S) Z O b=true:=jg0 b (un_t.mpr (.inr z));rw[h2] at q1;cases q1
    ·rw[z] at q2;cases q2
 have sto:StoOk (addR J Ω.length x) (addS S x x) K mg (upd H x no) (hid (upd H x no) (un (fob F Z O) (addS S x x))) (Ω++[nso]):=by
  refine⟨fun i so hi=>?_,fun i j a h1 h2=>?_,fun i hi=>?_,fun b hb=>?_,jxj (jlk R.sto.tv fun xs z=>(hr J S _ (RLe.refl _) (Same.refl _)).no_tup xs (by rw[jam,z])) vis0⟩
  ·by_cases h:i<Ω.length
   ·rw[List.getElem?_append_left h] at hi;obtain⟨a,q1,q2,q3⟩:=R.sto.ats i so hi;refine⟨a,l i a q1,old a q2,?_⟩
    cases so with
    | ins c' fs' =>
     obtain⟨C',dx',vfs',p1,p2,p3,p4,p5⟩:=q3;exact⟨C',dx',vfs',p1,by rw[keep a q2];exact p2,by rw[keep dx' p4];exact p3,old _ p4,p5.mono l vis0⟩
    | lst ds =>
     obtain⟨xs,p1,p2⟩:=q3;exact⟨xs,by rw[keep a q2];exact p1,(p2.rho l).mono vis0⟩
    | exc c j=>exact ExcOk.mono l (keep a q2) q3
    | xd fs =>
     obtain⟨vfs,p1,p2⟩:=q3;exact⟨vfs,by rw[keep a q2];exact p1,p2.mono l vis0⟩
   ·have e:i=Ω.length:=by
     have:=(zbb.mp hi).1;simp at this;omega
    subst e;rw[List.getElem?_append_right (zac _),Nat.sub_self] at hi;cases hi;exact⟨x,by unfold addR;rw[if_pos rfl],addS_t.mpr (.inr (.inl rfl)),hr _ _ _ l vis0⟩
  ·have fresh:∀ i a,i≠Ω.length->J i=some a->a≠x:=fun i a hi h z=>by
    subst z;have il:i<Ω.length:=by
     by_cases q:i<Ω.length
     ·exact q
     ·rw[R.sto.top i (by omega)] at h;cases h
    obtain⟨a',q1,q2,_⟩:=R.sto.ats i _ (zax il);rw[h] at q1;cases q1
    exact R.sto.fin a q2 hx
   unfold addR at h1 h2
   by_cases e1:i=Ω.length
   ·by_cases e2:j=Ω.length
    ·rw[e1,e2]
    ·rw[if_pos e1] at h1;rw[if_neg e2] at h2
     cases h1;exact absurd rfl (fresh j _ e2 h2)
   ·by_cases e2:j=Ω.length
    ·rw[if_neg e1] at h1;rw[if_pos e2] at h2
     cases h2;exact absurd rfl (fresh i _ e1 h1)
    ·rw[if_neg e1] at h1;rw[if_neg e2] at h2
     exact R.sto.inj i j a h1 h2
  ·rw[zcb,List.length_singleton] at hi;unfold addR;rw[if_neg (by omega)];exact R.sto.top i (by omega)
  ·rcases addS_t.mp hb with q|rfl|rfl
   ·rw[keep b q];exact R.sto.fin b q
   ·rw[jam];exact fun z=>nomatch z
   ·rw[jam];exact fun z=>nomatch z
 obtain⟨t1,t2⟩:=R.call l (fun b o _ h=>sm b o h) old new ff sto;exact⟨t1,l,t2⟩
def RM.newL(R:RM Jz Sz Hz F K mg O J S H Z Y Ω){x:Addr}{nds:List D}{nxs:List V}(hx:H x=none)(hr:Reps J K (hid H (fob (un F S) Z O)) nds nxs) :
  RM Jz Sz Hz F K mg O (addR J Ω.length x) (addS S x x) (upd H x (.lst nxs)) Z Y (Ω++[.lst nds])/\RLe J (addR J Ω.length x) /\
   Same (hid H (fob (un F S) Z O)) (hid (upd H x (.lst nxs)) (fob (un F (addS S x x)) Z O)) :=
 R.newS (nso:=.lst nds) hx fun J' S' Hv' l v=>⟨nxs,jam,(hr.rho l).mono v⟩
end
def jCt(fl:DSt->MS (List D)):DSt->MS D:=fun Y=>(fl Y).b fun ds Ω=>if ds.length<=sizeLine then some (.ok (.obj Ω.length),Ω++[.lst ds]) else none
section
variable {X:Cx}{O:List Nat}{a b e o:Expr}{es:List Expr}{fa fb fo:DSt->MS D}{fl:DSt->MS (List D)}{pos:Pos}
def jvn(h:MA X O es fl):ME X O (.List es pos) (jCt fl):=by
 rintro U s Z H Q I ⟨Jz,Sz,Hz,F,J,S,Y,Ω,R,r,Ω',hf,k⟩;refine jph h U s Z H Q I ?_;rcases MS.b_inv hf with ⟨x,Ω1,e1,hf⟩|⟨x,e1,rfl⟩
 ·refine⟨Jz,Sz,Hz,F,J,S,Y,Ω,R,.ok x,Ω1,e1,fun u ρ1 S1 H1 R1 l1 v1 r1=>?_⟩
  by_cases hz:x.length<=sizeLine
  ·rw[if_pos hz] at hf;cases hf;refine⟨by rw[r1.length];exact hz,fun p hp=>?_⟩;obtain⟨t1,t2,t3⟩:=R1.newL hp r1;exact k _ _ _ _ t1 (l1.trans t2) (v1.trans t3) (rep_obj.mpr ⟨p,by unfold addR;rw[if_pos rfl],rfl⟩)
  ·rw[if_neg hz] at hf;cases hf
 ·exact⟨Jz,Sz,Hz,F,J,S,Y,Ω,R,.error x,_,e1,trivial⟩
def atL:D->D->MS D:=fun x y Ω=>match x,y with
 | .obj i,.int j=>match Ω[i]? with
  | some (.lst ds)=>(L2.atI ds j).map fun d=>(.ok d,Ω)
  | _=>none
 | _,_=>none
inductive AtLI(x y:D)(Ω Ω':Sto)(r:Except XD D):Prop
 | mk (i:Nat) (j:Int) (ds:List D) (d:D) (hx:x=.obj i) (hy:y=.int j) (hi:Ω[i]? = some (.lst ds)) (ha:L2.atI ds j=some d) (hr:r=.ok d) (ho:Ω'=Ω)
def jBp{x y:D}{Ω Ω':Sto}{r:Except XD D}(h:atL x y Ω=some (r,Ω')):AtLI x y Ω Ω' r:=by
 unfold atL at h
 cases x with
 | obj i =>
  cases y with
  | int j =>
   dsimp only at h
   cases hi:Ω[i]? with
   | none=>rw[hi] at h;cases h
   | some so =>
    rw[hi] at h
    cases so with
    | ins c fs=>cases h
    | exc _ _=>cases h
    | xd _=>cases h
    | lst ds =>
     dsimp only at h
     cases ha:L2.atI ds j with
     | none=>rw[ha] at h;cases h
     | some d =>
      rw[ha] at h;cases h;exact⟨i,j,ds,d,rfl,rfl,hi,ha,rfl,rfl⟩
  | _=>cases h
 | _=>cases h
def mIxL(fa fb:DSt->MS D):DSt->MS D:=fun Y=>(fa Y).b fun x=>(fb Y).b fun y=>atL x y
def jvl(ha:ME X O a fa)(hb:ME X O b fb)(hs:jkj b:=by exact fun _ _=>rfl):ME X O (.Subscript a b pos) (mIxL fa fb):=by
 rintro U s Z H Q I ⟨Jz,Sz,Hz,F,J,S,Y,Ω,R,r,Ω',hf,k⟩;refine jy8 ix_list ha hb hs U s Z H Q I ?_;rcases MS.b_inv hf with ⟨x,Ω1,e1,hf⟩|⟨x,e1,rfl⟩
 ·refine⟨Jz,Sz,Hz,F,J,S,Y,Ω,R,.ok x,Ω1,e1,fun u ρ1 S1 H1 R1 l1 v1 r1=>?_⟩;rcases MS.b_inv hf with ⟨y,Ω2,e2,hf⟩|⟨y,e2,rfl⟩
  ·refine⟨Jz,Sz,Hz,F,ρ1,S1,Y,Ω1,R1,.ok y,Ω2,e2,fun w ρ2 S2 H2 R2 l2 v2 r2=>?_⟩;obtain⟨i,j,ds,d,rfl,rfl,hi,hj,rfl,rfl⟩:=jBp hf;obtain⟨ad,q1,q2⟩:=rep_obj.mp ((r1.rho l2).mono v2);obtain⟨ad',p1,p2,xs,p3,p4⟩:=R2.sto.ats i _ hi;rw[q1] at p1;cases p1
   obtain⟨v,hv,rv⟩:=jnw p4 hj;exact⟨ad,xs,j,v,q2,rep_int.mp r2,SqL.of p3,hv,k v ρ2 S2 H2 R2 (l1.trans l2) (v1.trans v2) rv⟩
  ·exact⟨Jz,Sz,Hz,F,ρ1,S1,Y,Ω1,R1,.error y,_,e2,trivial⟩
 ·exact⟨Jz,Sz,Hz,F,J,S,Y,Ω,R,.error x,_,e1,trivial⟩
def chkL:D->MS D:=fun x Ω=>match x with
 | .obj i=>match Ω[i]? with
  | some (.lst _)=>some (.ok x,Ω)
  | _=>none
 | _=>none
def putL(g:List D->Option (List D)):D->MS D:=fun x Ω=>match x with
 | .obj i=>match Ω[i]? with
  | some (.lst ds)=>(g ds).map fun es=>(.ok .non,Ω.set i (.lst es))
  | _=>none
 | _=>none
inductive ChkI(x:D)(Ω Ω':Sto)(r:Except XD D):Prop
 | mk (i:Nat) (ds:List D) (hx:x=.obj i) (hi:Ω[i]? = some (.lst ds)) (hr:r=.ok x) (ho:Ω'=Ω)
def jri{x:D}{Ω Ω':Sto}{r:Except XD D}(h:chkL x Ω=some (r,Ω')):ChkI x Ω Ω' r:=by
 unfold chkL at h
 cases x with
 | obj i =>
  dsimp only at h
  cases hi:Ω[i]? with
  | none=>rw[hi] at h;cases h
  | some so =>
   rw[hi] at h
   cases so with
   | ins c fs=>cases h
   | exc _ _=>cases h
   | xd _=>cases h
   | lst ds=>cases h;exact⟨i,ds,rfl,hi,rfl,rfl⟩
 | _=>cases h
inductive PutI(g:List D->Option (List D))(x:D)(Ω Ω':Sto)(r:Except XD D):Prop
 | mk (i:Nat) (ds es:List D) (hx:x=.obj i) (hi:Ω[i]? = some (.lst ds)) (hg:g ds=some es) (hr:r=.ok .non) (ho:Ω'=Ω.set i (.lst es))
def jzj{g:List D->Option (List D)}{x:D}{Ω Ω':Sto}{r:Except XD D}(h:putL g x Ω=some (r,Ω')):PutI g x Ω Ω' r:=by
 unfold putL at h
 cases x with
 | obj i =>
  dsimp only at h
  cases hi:Ω[i]? with
  | none=>rw[hi] at h;cases h
  | some so =>
   rw[hi] at h
   cases so with
   | ins c fs=>cases h
   | exc _ _=>cases h
   | xd _=>cases h
   | lst ds =>
    dsimp only at h
    cases hg:g ds with
    | none=>rw[hg] at h;cases h
    | some es=>rw[hg] at h;cases h;exact⟨i,ds,es,rfl,hi,hg,rfl,rfl⟩
 | _=>cases h
def gApL(d:D):List D->Option (List D):=fun ds=>if ds.length<sizeLine then some (ds++[d]) else none
def jjl(fo fa:DSt->MS D):DSt->MS D:=fun Y=>(fo Y).b fun x=>(chkL x).b fun x=>(fa Y).b fun d=>putL (gApL d) x
def jjo{p2 p3:Pos}(ho:ME X O o fo)(he:ME X O e fa)(hbase:attributeBase o "append" X.env (eval o X.env)=eval o X.env:=by rfl)
  (hfew:((backTo p3 (starEach [e] X.env)).all (fun x=>!x.1)&&(backToKw p3 (keywordEach [] X.env)).all (fun x=>x.1.isSome)
   && decide ([e].length+([]:List Keyword).length+(if ([]:List Keyword).isEmpty then 0 else 1)<30))=true:=by rfl)
  (hline:(p2.endLine == p3.line)=true:=by rfl) (hs:starEach [e] X.env=[(false,eval e X.env)]:=by rfl) :
  ME X O (.Call (.Attribute o "append" p2) [e] [] p3) (jjl fo fa):=by
 rintro U s Z H Q I ⟨Jz,Sz,Hz,F,J,S,Y,Ω,R,r,Ω',hf,k⟩;refine jDf PySem.F.plainAttrs_list PySem.F.slot_list_append PySem.F.type_list_append ji3 ho (jfo he jk8 hs) hbase hfew hline hs rfl U s Z H Q I ?_;rcases MS.b_inv hf with ⟨x,Ω1,e1,hf⟩|⟨x,e1,rfl⟩
 ·refine⟨Jz,Sz,Hz,F,J,S,Y,Ω,R,.ok x,Ω1,e1,fun u ρ1 S1 H1 R1 l1 v1 r1=>?_⟩;rcases MS.b_inv hf with ⟨x',Ω1',e1',hf⟩|⟨x',e1',rfl⟩
  ·obtain⟨i,ds,rfl,hi,hr,rfl⟩:=jri e1';cases hr;obtain⟨ad,q1,q2⟩:=rep_obj.mp r1;obtain⟨ad',p1,p2,xs,p3,p4⟩:=R1.sto.ats i _ hi;rw[q1] at p1;cases p1
   refine⟨by rw[q2];exact .inl ⟨rfl,xs,SqL.of p3⟩,?_⟩;rcases MS.b_inv hf with ⟨y,Ω2,e2,hf⟩|⟨y,e2,rfl⟩
   ·refine⟨Jz,Sz,Hz,F,ρ1,S1,Y,_,R1,.ok y,Ω2,e2,fun w ρ2 S2 H2 R2 l2 v2 r2=>?_⟩;obtain⟨i',ds',es',hx',hi',hg',hr',rfl⟩:=jzj hf;cases hx';cases hr';obtain⟨b1,t1,t2,ys,t3,t4⟩:=R2.sto.ats i _ hi';rw[l2 i ad q1] at t1;cases t1
    unfold gApL at hg'
    by_cases hz:ds'.length<sizeLine
    ·rw[if_pos hz] at hg';cases hg';obtain⟨w1,w2⟩:=R2.putL hi' (l2 i ad q1) t2 t3 (t4.append (Reps.cons r2 Reps.nil));exact⟨ad,ys,w,q2,rfl,t3,by rw[t4.length];exact hz,k _ ρ2 S2 _ w1 (l1.trans l2) (by rw[w2];exact v1.trans v2) (rep_non.mpr rfl)⟩
    ·rw[if_neg hz] at hg';cases hg'
   ·exact⟨Jz,Sz,Hz,F,ρ1,S1,Y,_,R1,.error y,_,e2,trivial⟩
  ·exact absurd (jri e1') (fun ⟨_,_,_,_,h,_⟩=>by cases h)
 ·exact⟨Jz,Sz,Hz,F,J,S,Y,Ω,R,.error x,_,e1,trivial⟩
end
section
end
section
end
section
end
end DL
namespace L2
open PyProof.Rows
section
variable {κ:Type}[DecidableEq κ]
end
section
end
section
end
section
end
section
end
section
end
section
end
section
end
section
end
section
end
end L2
namespace Att
open PySem PySem.W PySem.Calls PyProof.Rows
end Att
namespace L2
open PyProof.Rows
section
variable {κ:Type}[DecidableEq κ]
end
section
variable {prog:Program}{w:World}{κ:Type}[DecidableEq κ]{knd:HeapKind prog w κ}{A:Around}{E:qd}{s:Shared}{d a:Addr}{xs:List (κ×Addr×Value)}{k:κ}
end
section
end
section
end
end L2
namespace DL
open L2
section
end
end DL
namespace L2
open PyProof.Rows
section
end
end L2
namespace DL
open L2
section
end
end DL
namespace DL
open L2 PyProof.Rows
section
def jI1:List D->Option D
 | [.lst [.int i,.int j]]=>some (.int (if j<i then j else i))
 | _=>none
@[simp] theorem kmin1(i j:Int):jI1 [.lst [.int i,.int j]]=some (.int (if j<i then j else i)):=rfl
end
end DL
namespace L2
open PyProof.Rows
section
end
open Att
def jAg{α:Type}(c:Nat->Nat->Bool):W.KasT α->α
 | .ret a=>a
 | .ask i j k=>jAg c (k (c i j))
def jCq{α:Type}(n:Nat):W.KasT α->Bool
 | .ret _=>true
 | .ask i j k=>decide (i<n)&&decide (j<n)&&jCq n (k true)&&jCq n (k false)
section
end
section
variable {P:Program}{w:World}{H:Hp}{h:Heap}{a:Addr}{o:HO}
def ObjOk.here(x:ObjOk P w H h a o):∃ ob,h.get? a=some ob:=by
 cases o with
 | lst xs=>obtain⟨_,_,_,_,e⟩:=x;exact⟨_,e⟩
 | tup xs=>obtain⟨_,_,_,o,e,_⟩:=x;exact⟨_,e⟩
 | dK kvs=>obtain⟨_,_,_,_,o,_,_,e,_⟩:=x;exact⟨_,e⟩
 | dT kvs=>obtain⟨_,_,_,_,o,_,_,e,_⟩:=x;exact⟨_,e⟩
 | ins C dx fs=>obtain⟨_,_,_,e,_⟩:=x;exact⟨_,e⟩
 | own y=>exact x
 | xd fs=>obtain⟨_,⟨_,_,_,e,_⟩,_⟩:=x;exact⟨_,e⟩
 | rng lo hi=>obtain⟨_,_,_,e⟩:=x;exact⟨_,e⟩
 | frz ob u=>obtain⟨e,_⟩:=x;exact⟨_,e⟩
 | tbl ps=>exact⟨_,x⟩
 | met f y=>exact⟨_,x⟩
 | ext φ=>exact x.2.1
end
section
end
end L2
namespace DL
open L2
section
end
end DL
namespace DL
open PyProof.Rows L2
section
end
section
end
section
variable {K:W.Frag}{T:Addr}
variable (hT:K.lookup T=some ⟨.none,none,.fields #[],#[]⟩)
include hT
end
section
end
end DL
namespace DL
open L2
section
end
section
end
section
end
section
end
section
end
end DL
namespace L2
open PyProof.Rows
end L2
namespace DL
open PyProof.Rows L2
section
end
section
end
end DL
namespace L2
open PyProof.Rows
open Att
section
def jHs(ts:List (List Int))(n:Nat):List Nat:=(jAg (fun i j=>HT.lexLt (ts.getD i []) (ts.getD j [])) (W.kas_sort n)).toList
end
end L2
namespace DL
open PyProof.Rows L2
section
def okT(ts:List (List Int))(n:Nat):Bool:=decide (2<=n)&&decide (n<64)&&ts.all (fun t=>decide (t.length=3))&&jCq n (W.kas_sort n)&&(jHs ts n).all (fun i=>decide (i<n))&&decide ((jHs ts n).length<=64)
end
def jyq(fa fb:DSt->MS D):DSt->MS D:=fun Y=>(fa Y).b fun x=>match x with
 | .bl true=>fb Y
 | .bl false=>MS.p (.bl false)
 | _=>fun _=>none
section
variable {X:Cx}{O:List Nat}{a b:Expr}{rest:List Expr}{pos:Pos}{fa fb:DSt->MS D}
def jF4{op}(h:ME X O a fa):ME X O (.BoolOp op [a] pos) fa:=fun U s Z H Q I hw=>jAv h U s Z H Q I hw
def jAi(ha:ME X O a fa)(hb:ME X O (.BoolOp .And (b::rest) pos) fb):ME X O (.BoolOp .And (a::b::rest) pos) (jyq fa fb):=by
 rintro U s Z H Q I ⟨Jz,Sz,Hz,F,J,S,Y,Ω,R,r,Ω',hf,k⟩;refine jAs ha hb U s Z H Q I ?_;rcases MS.b_inv hf with ⟨x,Ω1,e1,hf⟩|⟨x,e1,rfl⟩
 ·refine⟨Jz,Sz,Hz,F,J,S,Y,Ω,R,.ok x,Ω1,e1,fun u ρ1 S1 H1 R1 l1 v1 r1=>?_⟩
  cases x with
  | bl z =>
   refine⟨z,rep_bl.mp r1,?_⟩
   cases z with
   | true =>
    refine iteT ⟨Jz,Sz,Hz,F,ρ1,S1,Y,Ω1,R1,r,Ω',hf,?_⟩
    cases r with
    | ok d=>exact fun v ρ2 S2 H2 R2 l2 v2 r2=>k v ρ2 S2 H2 R2 (l1.trans l2) (v1.trans v2) r2
    | error y=>trivial
   | false =>
    refine iteF ?_;cases hf;exact k _ ρ1 S1 H1 R1 l1 v1 (rep_bl.mpr rfl)
  | _=>cases hf
 ·exact⟨Jz,Sz,Hz,F,J,S,Y,Ω,R,.error x,_,e1,trivial⟩
end
end DL
namespace L2
open PyProof.Rows
section
variable {prog:Program}{w:World}{A:Around}{E:qd}{s:Shared}
def jx0{t b:Addr}{vs ws:List Value}{Q:qd}(ht:IsTup s.heap t vs.toArray)(hb:IsTup s.heap b ws.toArray)(hv:vs=[])(h1:Q (.ref b) s):wpAny (model prog w) A (binaryOp .Add (.ref t) (.ref b)) Q E s:=by
 obtain⟨⟨cls,dd,data,sl⟩,ho,hc,n,hd⟩:=id ht;obtain⟨⟨cls2,dd2,data2,sl2⟩,ho2,hc2,n2,hd2⟩:=id hb;simp only at hc hd hc2 hd2;subst hc hd hc2 hd2;exact concat_meets ⟨_,ho,rfl⟩ ⟨_,ho2,rfl⟩ noFill_tuple_add seq_tuple_add PySem.F.slot_tuple_add PySem.F.entry_tuple_add (PySem.F.args_tuple_add_2 _ _)
  (tuple_addW0 t b vs.toArray ws.toArray n n2 dd dd2 sl sl2 (by simp[hv])) ⟨ho,ho2,h1⟩
end
def jDv(K:W.Frag):R2:=fun x y H Q=>∃ a b xs ys,x=.ref a/\y=.ref b/\SqT K H a xs/\SqT K H b ys/\xs=[]/\Q (.ref b) H
def op_catE{X:Cx}:OpR X (binaryOp .Add) (jDv X.K):=by
 intro U s Z H x y v u Q I rx ry h;obtain⟨a,b,xs,ys,rfl,rfl,ha,hb,hx,q⟩:=h;cases rx;cases ry;obtain⟨its,r1,p1,_⟩:=I.tuple ha;obtain⟨its2,r2,p2,_⟩:=I.tuple hb;exact jx0 p1 p2 (r1.nil_iff.mpr hx) ⟨.ref b,H,I,rfl,q⟩
end L2
namespace DL
open L2
def jx7:D->D->Option D
 | .tup xs,.tup ys=>if xs.length+ys.length<=sizeLine then some (.tup (xs++ys)) else none
 | _,_=>none
section
variable {X:Cx}{e:Expr}
def jy5:OpD X.K jx7 (fun x y H Q=>jDv X.K x y H Q\/jwr X.K x y H Q):=by
 intro x y d hd J H G u v Q hG ru rv k;unfold jx7 at hd
 split at hd
 ·rename_i xs ys
  split at hd
  ·rename_i hz;cases hd;obtain⟨p,us,rfl,q1,q2⟩:=rep_tup.mp ru;obtain⟨q,ws,rfl,q3,q4⟩:=rep_tup.mp rv
   by_cases hx:xs=[]
   ·subst hx;refine .inl ⟨p,q,us,ws,rfl,rfl,jde jao q1,jde jao q3,reps_nil.mp q2,?_⟩;exact k _ H (Same.refl H) rv
   ·refine .inr ⟨p,q,us,ws,rfl,rfl,jde jao q1,jde jao q3,?_,by rw[q2.length,q4.length];exact hz,fun hw=>?_,fun hw l hl=>?_⟩
    ·intro z;have:=q2.length;rw[z] at this;exact hx (List.eq_nil_of_length_eq_zero this.symm)
    ·have hy:ys=[]:=by
      have:=q4.length;rw[hw] at this;exact List.eq_nil_of_length_eq_zero this.symm
     rw[hy,List.append_nil] at k;exact k _ H (Same.refl H) ru
    ·exact k _ _ (ja7 hl) (jc7 hl (hG l hl) (q2.append q4))
  ·cases hd
 ·cases hd
def jDa:OpR X (binaryOp .Add) (fun x y H Q=>jDv X.K x y H Q\/jwr X.K x y H Q):=op_catE.or jv2
def jv8:OpD X.K jAd (fun x y H Q=>y=.non/\Q (.bl (!decide (x=.non))) H):=by
 intro x y d hd J H G u v Q hG ru rv k
 cases y with
 | non =>
  cases hd;refine⟨rep_non.mp rv,?_⟩;have e:decide (u=V.non)=jr2 x:=by
   cases x with
   | non=>cases rep_non.mp ru;rfl
   | bl _=>cases rep_bl.mp ru;rfl
   | int _=>cases rep_int.mp ru;rfl
   | str _=>cases rep_str.mp ru;rfl
   | ty _=>cases rep_ty.mp ru;rfl
   | obj _=>obtain⟨_,_,rfl⟩:=rep_obj.mp ru;rfl
   | tup _=>obtain⟨_,_,rfl,_⟩:=rep_tup.mp ru;rfl
   | lst _=>obtain⟨_,_,rfl,_⟩:=rep_lst.mp ru;rfl
  rw[e];exact k _ H (Same.refl H) (rep_bl.mpr rfl)
 | _=>cases hd
end
end DL
namespace L2
open PyProof.Rows Builtin Builtin.ObjectAttr
open PySem.W (Frag InstAt Looks findIn mroIn clsIn findObj takerIn tailIn isFn)
abbrev bmV:List Value:=[.type "ValueError",.type "Exception",.type "BaseException",.type "object"]
def xIn(K:Frag)(C:Addr):Bool:=match K.lookup C with
 | some ⟨.type "type",_,.cls cd,sl⟩=>(match cd.mro,sl.toList with
  | .ref C'::bm,[_,_,_,_,some (.builtin n),_]=>C' == C&&n == "ValueError.__new__"&&!cd.hasDel&&cd.hasDict&&tailIn K bmV bm
  | _,_=>false)
 | _=>false
inductive XAt(K:Frag)(h:Heap)(C:Addr):Prop
 | mk (bm:List Value) (N:Addr) (nm q:Str) (bs:List Value) (sn:List Str) (sub:List Value) (ab:Bool) (col:Option Bool) (dd:Option Addr) (k0 k1 k2 k3 k5:Option Value) (cd:ClassData)
  (hC:h.get? C=some (excClassObj nm q C N bs bm true sn sub ab col dd k0 k1 k2 k3 k5 "ValueError.__new__")) (T:OwnTail h bmV bm) (hk:clsIn K C=some cd) (hm:cd.mro=.ref C::bm) (hd:cd.hasDict=true) (hN:cd.ns=N)
def x_at{K:Frag}{h:Heap}{C:Addr}(X:K.In h)(e:xIn K C=true):XAt K h C:=by
 unfold xIn at e
 split at e
 ·rename_i dd cd sl ho
  split at e
  ·rename_i C' bm k0 k1 k2 k3 n k5 hm hs;simp only[Bool.and_eq_true,beq_iff_eq,Bool.not_eq_true'] at e;obtain⟨⟨⟨⟨e1,e2⟩,e3⟩,e4⟩,e5⟩:=e;subst e1 e2;have hk:clsIn K C'=some cd:=by unfold clsIn;rw[ho]
   have hm0:=hm;have e40:=e4;obtain⟨nm,bs,mro,ns,qn,hd,sn,sub,ab,col,del⟩:=cd;dsimp only at hm e3 e4;subst hm e3 e4;have hsl:sl=#[k0,k1,k2,k3,some (.builtin "ValueError.__new__"),k5]:=by
    obtain⟨l⟩:=sl;simp only at hs;rw[hs]
   subst hsl;exact⟨bm,ns,nm,qn,bs,sn,sub,ab,col,dd,k0,k1,k2,k3,k5,_,X _ _ ho,W.tail_of_in X e5,hk,hm0,e40,rfl⟩
  ·cases e
 ·cases e
def jq1{h:Heap}{bm:List Value}(self:Value)(T:OwnTail h bmV bm):refuseLoop self "__setattr__" bm=pure ():=by
 induction T with
 | base=>exact PySem.F.store_ValueError.passes self
 | own _ _ _ _ ih=>rw[refuseLoop_ref];exact ih
section
variable {prog:Program}{w:World}{A:Around}{E:qd}{s:Shared}{K:Frag}{x C f:Addr}{name:Str}{v:Value}{ox:Obj}{od:Option Obj}
def jH5{rest:List Value}{Q:qd}(X:K.In s.heap)(hx:xIn K C=true)(hi:findIn K (.ref C) "__init__"=some (some (.ref f)))(hf:isFn K (.ref f)=true)
  (hq:∀ h' e,Heap.MadeExcOf s.heap h' e (.ref C) rest->wpAny (model prog w) (A.under (.builtin "type.__call__" ⟨.ref C::rest,[]⟩)) (call (.ref f) (.ref e::rest)) (fun r s'=>r=.none/\Q (.ref e) s') E { s with heap:=h' }) (hrest:rest.length<=sizeLine) :
  wpAny (model prog w) A (call (.ref C) rest) Q E s:=by
 obtain⟨bm,N,nm,q,bs,sn,sub,ab,col,dd,k0,k1,k2,k3,k5,cd,hC,T,hk,hm,hd,hN⟩:=x_at X hx;obtain⟨h,g,d,t,os⟩:=s;have F:=PySem.F.excBase_ValueError;have f1:=tc_lookup;have f2:=tc_bind (.ref C);have hT:(⟨h,g,d,t,os⟩:Shared).TypeIs (.ref C) "type":=⟨_,hC,rfl⟩
 refine wpAny_call (codeAny_of_tree (show wpAny _ _ (callAny (.ref C) _) _ _ _ from ?_))
 repeat (any_goals (first|assumption|with_reducible refine wpAny_loadPart_at hC ?_|wp_step))
 refine⟨rfl,codeAny_call_builtin_at (Code.quiet_builtin _ (by decide +kernel)) entry_typeCall (wpAny_check_type_call_sub hC ?_)⟩
 repeat (first|with_reducible refine wpAny_loadPart_at hC ?_|with_reducible refine wpAny_madeBy_exc hC ?_|wp_step)
 refine codeAny_call_builtin_code (Code.quiet_builtin _ F.quiet) (wpAny_check_new_subT F T hC (codeAny_exc_new_subT F T hC (show wpAny _ _ _ _ _ _ from ?_) hrest));have kp:∀ b o,h.get? b=some o->((h.push { cls:=.type "tuple",data:=.seq rest.toArray }).push { cls:=.ref C,data:=.fields #[.ref h.objs.size,.none,.none,.none,.bool false,.none] }).get? b=some o:=fun b o e=>zaz _ (zaz _ e)
 have hC1:=kp _ _ hC;have X1:K.In ((h.push { cls:=.type "tuple",data:=.seq rest.toArray }).push { cls:=.ref C,data:=.fields #[.ref h.objs.size,.none,.none,.none,.bool false,.none] }):=fun b o e=>kp b o (X b o e)
 have hg1:((h.push { cls:=.type "tuple",data:=.seq rest.toArray }).push { cls:=.ref C,data:=.fields #[.ref h.objs.size,.none,.none,.none,.bool false,.none] }).get? (h.objs.size+1)=some { cls:=.ref C,data:=.fields #[.ref h.objs.size,.none,.none,.none,.bool false,.none] }:=by heap_get
 have hc1:(Value.ref C::bm).contains (.ref C)=true:=by simp
 unfold isInstance
 repeat (first|with_reducible refine wpAny_loadPart_at hg1 ?_|(with_reducible refine wpAny_isSubtype_exc hC1 ?_;rw[hc1])|wp_step)
 refine wpAny_isSubtype_exc (C:=C) hC1 ?_;rw[hc1]
 repeat wp_step
 repeat (first|with_reducible refine wpAny_loadPart_at hg1 ?_|wp_step)
 show wpAny _ _ (typeLookup (.ref C) _) _ _ _;refine (W.looks_findIn X1 hi).at ?_;refine wpAny_holding (zay ((W.bind_fn X1 _ (beq_iff_eq.mp hf)).at ?_));refine zay (wpAny_mono (hq _ (h.objs.size+1) ⟨kp,Heap.get?_none_of_le (Nat.le_succ _),h.objs.size,hg1,Heap.get?_none_of_le (zac _),zaz _ (Heap.get?_push_at rfl rfl)⟩) (fun r s' hr=>?_) fun _ _ z=>z);obtain⟨rfl,hQ⟩:=hr
 wp_walk
 exact hQ
def jEn{K:Frag}{C:Addr}{h:Heap}(X:K.In h)(hx:xIn K C=true){T:String}(hT:bmV.contains (.type T)=true):mroIn K C (.type T)=some true:=by
 obtain⟨bm,N,nm,q,bs,sn,sub,ab,col,dd,k0,k1,k2,k3,k5,cd,hC,Tl,hk,hm,hd,hN⟩:=x_at X hx;unfold mroIn;rw[hk,Option.bind_some,hm,if_neg (fun z=>by cases z),List.contains_cons,Tl.hasType hT,Bool.or_true]
def jH6{R:Result->Shared->Prop}{tk:Tok}(X:K.In s.heap)(I:InstAt s.heap x ox C od)(hx:xIn K C=true)(ht:takerIn K C name=some none)
  (h:∀ b,wpAny (model prog w) A.in1 (storeInOwnDict (.ref x) (.ref C) (.str name tk) name v b) (fun fin s'=>match fin with|.done f=>R (.ok f) s'|.again c'=>c'.quiet=true/\codeAny (model prog w) A c' R s') (fun e s'=>R (.error e) s') s) :
  codeAny (model prog w) A (.call (.builtin "object.__setattr__") ⟨[.ref x,.str name tk,v],[]⟩) R s:=by
 have SF:=PySem.F.store_object;have sub:Looks (model prog w) s.heap (isInstance (.ref x) (.type "object")) true:=I.type.andThen (W.looks_mroIn X (jEn X hx (by decide)));obtain⟨bm,N,nm,q,bs,sn,sub',ab,col,dd,k0,k1,k2,k3,k5,cd,hC,Tl,hk,hm,hd,hN⟩:=x_at X hx;have hmr:Looks (model prog w) s.heap (mroOf (.ref C)) (.ref C::bm):=by
  have:=(W.looks_clsIn (M:=model prog w) X hk).andThen (f:=fun cd=>pure cd.mro) (b:=cd.mro) .now;rw[hm] at this;exact this
 refine codeAny_call_builtin SF.slot.plain SF.entry (@W.check_slot (model prog w) _ _ s "object.__setattr__" "object" "__setattr__" (.ref x) [.str name tk,v] [] _ SF.kind SF.split sub (SF.args (.ref x) (.str name tk) v) ?_);obtain⟨attr,ha,hr⟩:=Option.bind_eq_some_iff.mp ht;have L3:Looks (model prog w) s.heap (storeTaker? attr) none:=by
  cases attr with
  | none=>exact .now
  | some a =>
   obtain⟨b,hb,e⟩:=Option.map_eq_some_iff.mp hr
   cases b with
   | false=>exact (W.looks_takesIn X hb).andThen .now
   | true=>cases e
 rw[W.osa_eq,refuse_eq];refine zay (zay (I.type.here (zay (hmr.here ?_))));rw[refuseLoop_ref,jq1 _ Tl];exact zab (zay (I.type.here (zay ((W.looks_findIn X ha).here (zay (L3.here (h _)))))))
def jq9{h:Heap}{vs:Array Value}{sl:qf}(e:h.get? x=some (xOb C none vs sl)):InstAt h x (xOb C none vs sl) C none:=⟨e,rfl,rfl,trivial⟩
def jn7{h:Heap}{vs:Array Value}{sl:qf}{dx:Addr}{o:Obj}(e:h.get? x=some (xOb C (some dx) vs sl))(e2:h.get? dx=some o):InstAt h x (xOb C (some dx) vs sl) C (some o):=⟨e,rfl,rfl,e2⟩
def jH7{vs:Array Value}{sl:qf}{Q:Unit->Shared->Prop}(X:K.In s.heap)(h0:s.heap.get? x=some (xOb C none vs sl))(hx:xIn K C=true)(hs:findIn K (.ref C) "__setattr__"=some (some (.builtin "object.__setattr__")))(ht:takerIn K C name=some none)
  (h:∀ h':Heap,h'.get? x=some (xOb C (some s.heap.objs.size) vs sl)->h'.Ns1 s.heap.objs.size (fun y=>if y=name then some v else none)->(∀ b ob,b≠x->s.heap.get? b=some ob->h'.get? b=some ob)->Q () { s with heap:=h',toks:=s.toks+2 }) :
  wpAny (model prog w) A (setAttr (.ref x) name v) Q E s:=by
 have I:=jq9 h0;refine W.set_plain X I hs (jH6 (s:={ s with toks:=s.toks+1 }) X I hx ht fun b=>?_);obtain⟨bm,N,nm,q,bs,sn,sub',ab,col,dd,k0,k1,k2,k3,k5,cd,hC,Tl,hk,hm,hd,hN⟩:=x_at X hx;have hxs:x≠s.heap.objs.size:=zcv (zbv h0);have h1:(s.heap.push { cls:=.type "dict",data:=.dict #[] }).get? x=some (xOb C none vs sl):=zaz _ h0;refine zay (zab (zay (zay (wpAny_loadPart h0 (zay (Looks.here (s:={ s with toks:=s.toks+1 }) (W.looks_clsIn X hk) ?_))))));rw[hd];refine (show wpAny (model prog w) A.in1 (alloc { cls:=Value.type "dict",data:=Data.dict #[] } >>= fun d=>update x (fun o=>{ cls:=o.cls,dict:=some d,data:=o.data,slots:=o.slots }) >>= fun _=>(pure (some d):Sem (Option Addr))) _ _ _ from ?_);refine zay (wpAny_alloc (zay (wpAny_update h1 (zab ?_))));have g1:((s.heap.push { cls:=.type "dict",data:=.dict #[] }).update x fun o=>{ cls:=o.cls,dict:=some s.heap.objs.size,data:=o.data,slots:=o.slots }).get? s.heap.objs.size=some { cls:=.type "dict",data:=.dict #[] }:=by
  rw[Heap.get?_update_ne _ _ _ _ hxs.symm];exact zbz _ rfl
 have g2:((s.heap.push { cls:=.type "dict",data:=.dict #[] }).update x fun o=>{ cls:=o.cls,dict:=some s.heap.objs.size,data:=o.data,slots:=o.slots }).Ns s.heap.objs.size (fun _=>none) :=
  ⟨_,#[],_,g1,rfl,(fun e he=>absurd he (by simp)),fun _=>rfl⟩
 show wpAny _ _ (storeInDict s.heap.objs.size (.str name s.toks) name v) _ _ _;unfold storeInDict newKeyGuard;refine zay (zab (zay (wpAny_nsSet1 (s:=⟨(s.heap.push { cls:=.type "dict",data:=.dict #[] }).update x fun o=>{ cls:=o.cls,dict:=some s.heap.objs.size,data:=o.data,slots:=o.slots },s.gens,s.drawn,s.toks+1,s.os⟩) (Heap.Ns1.of_empty g2) fun h' hn' hsb=>?_)));obtain⟨oD,esD,epD,hoD,hdD,hcD⟩:=hn'.count (PySem.Within.cons name v PySem.Within.nil);refine zay (wpAny_lookBehind hoD (by rw[hdD];exact pastItsLine_dict (zdy hcD (by rw[List.length_cons,List.length_nil,sizeLine_eq];omega))) ?_);refine zab (h h' ?_ hn' fun b ob nb hb=>?_)
 ·refine (hsb.2 x hxs).trans (Heap.get?_update_self _ h1 rfl)
 ·exact (hsb.2 b (zcv (zbv hb))).trans ((Heap.get?_update_ne _ _ _ _ nb).trans (zaz _ hb))
def jH8{vs:Array Value}{sl:qf}{dx:Addr}{mA:qa}{ns:List Str}{Q:Unit->Shared->Prop}(X:K.In s.heap)(h0:s.heap.get? x=some (xOb C (some dx) vs sl))(hn:s.heap.Ns1 dx mA)(hx:xIn K C=true)
  (hs:findIn K (.ref C) "__setattr__"=some (some (.builtin "object.__setattr__"))) (ht:takerIn K C name=some none) (hw:PySem.Within mA ns) (hsz:ns.length<=sizeLine)
  (h:∀ h':Heap,h'.Ns1 dx (fun y=>if y=name then some v else mA y)->Heap.SameBut dx s.heap h'->Q () { s with heap:=h',toks:=s.toks+2 }) :
  wpAny (model prog w) A (setAttr (.ref x) name v) Q E s:=by
 obtain⟨od,_,_,e1,_⟩:=id hn;have I:=jn7 h0 e1;refine W.set_plain X I hs (jH6 (s:={ s with toks:=s.toks+1 }) X I hx ht fun b=>?_);obtain⟨bm,N,nm,q,bs,sn,sub',ab,col,dd,k0,k1,k2,k3,k5,cd,hC,Tl,hk,hm,hd,hN⟩:=x_at X hx;refine zay (zab (zay (zay (wpAny_loadPart h0 (zay (Looks.here (s:={ s with toks:=s.toks+1 }) (W.looks_clsIn X hk) ?_))))));rw[hd];refine zab (a:=some dx) (zay (zab (zay (wpAny_nsSet1 (s:={ s with toks:=s.toks+1 }) hn fun h' hn2 hs2=>?_))));obtain⟨oD,esD,epD,hoD,hdD,hcD⟩:=hn2.count (PySem.Within.cons name v hw);exact zay (wpAny_lookBehind hoD (by rw[hdD];exact pastItsLine_dict (zdy hcD (by rw[List.length_cons];omega))) (zab (h _ hn2 hs2)))
end
end L2
namespace L2
open PyProof.Rows Builtin Builtin.ObjectAttr
open PySem.W (Frag InstAt Looks findIn mroIn clsIn findObj takerIn specialIn takesIn hasDictIn isFn)
section
variable {prog:Program}{w:World}{A:Around}{E:qd}{s:Shared}{K:Frag}{x C f:Addr}{name:Str}{v:Value}{ox:Obj}{od:Option Obj}
def jyl:builtinKind "BaseException.__getattribute__"=some .slot:=by decide +kernel
def jw6:splitId "BaseException.__getattribute__"=some ("BaseException","__getattribute__"):=by decide +kernel
def x_ga{R:Result->Shared->Prop}{tk:Tok}(X:K.In s.heap)(I:InstAt s.heap x ox C od)(hx:xIn K C=true)
  (h:wpAny (model prog w) A.in1 (Builtin.«object.__getattribute__» ⟨[.ref x,.str name tk],[]⟩) (fun fin s'=>match fin with|.done f=>R (.ok f) s'|.again c'=>c'.quiet=true/\codeAny (model prog w) A c' R s') (fun e s'=>R (.error e) s') s) :
  codeAny (model prog w) A (.call (.builtin "BaseException.__getattribute__") ⟨[.ref x,.str name tk],[]⟩) R s:=by
 have sub:Looks (model prog w) s.heap (isInstance (.ref x) (.type "BaseException")) true:=I.type.andThen (W.looks_mroIn X (jEn X hx (by decide)));exact codeAny_call_builtin PySem.F.excAttr_ValueError.ga.plain PySem.F.entry_bexc_ga (@W.check_slot (model prog w) _ _ s "BaseException.__getattribute__" "BaseException" "__getattribute__" (.ref x) [.str name tk] [] _ jyl jw6 sub (PySem.F.args_bexc_ga _ _) h)
def x_by{tk:Tok}{fill expr:Bool}{Q:qd}(X:K.In s.heap)(I:InstAt s.heap x ox C od)(hx:xIn K C=true)(hga:findIn K (.ref C) "__getattribute__"=some (some (.builtin "BaseException.__getattribute__")))(hgh:findIn K (.ref C) "__getattr__"=some none)
  (h:wpAny (model prog w) A.in1 (Builtin.«object.__getattribute__» ⟨[.ref x,.str name tk],[]⟩) (fun fin s'=>match fin with|.done (.ret v)=>wpAny (model prog w) A (handedOut v) Q E s'|_=>False) (fun _ _=>False) s) :
  wpAny (model prog w) A (getAttrBy (.ref x) (.str name tk) fill expr) Q E s:=by
 have L0:=I.type (M:=model prog w);have L1:=W.looks_findIn (M:=model prog w) X hga;have L2:=W.looks_hook (M:=model prog w) (mc:=.ref C) (r:=none) X hgh;unfold getAttrBy;refine wpAny_holding (zay (L0.here (zay (L1.here ?_))));show wpAny _ _ (getAttrByItsOwn (.ref x) (.str name tk) (.ref C) (.builtin "BaseException.__getattribute__") fill expr) _ _ _;unfold getAttrByItsOwn;refine zay (L2.here (zay (wpAny_attempt (wpAny_holding ?_))));have e0:callGetattribute (.ref x) (.str name tk) (.builtin "BaseException.__getattribute__") expr=boundAndCalled (.builtin "BaseException.__getattribute__") (.ref x) (.str name tk):=by cases expr<;>rfl
 rw[e0];unfold boundAndCalled;rw[PySem.F.excAttr_ValueError.ga.bind];refine zay (zab (wpAny_call (x_ga X I hx (wpAny_mono h (fun fin s' z=>?_) fun _ _ z=>z.elim))));rcases fin with (_|_|_|_)|_<;>first|exact z|exact z.elim
def jBf{tk:Tok}{r:Found}{Q:PySem.Fin->Shared->Prop}(X:K.In s.heap)(I:InstAt s.heap x ox C od)(hf:findObj K C od name=some r)
  (h:wpAny (model prog w) A (match r with|.value v=>ret v|.bind g a=>bindTo g a (.ref x) (.ref C)|.missing=>unsupported "no") Q E s) (hr:r≠.missing) :
  wpAny (model prog w) A (Builtin.«object.__getattribute__» ⟨[.ref x,.str name tk],[]⟩) Q E s:=by
 have L0:=I.type (M:=model prog w);have L1:=W.looks_find (M:=model prog w) X I hf;refine zay (zab (zay (zab (zay (L0.here (zay (L1.here ?_)))))))
 cases r with
 | value v=>exact h
 | bind g a=>exact h
 | missing=>exact absurd rfl hr
def jH4{h:Heap}(X:K.In h)(hx:xIn K C=true):hasDictIn K C=true:=by
 obtain⟨bm,N,nm,q,bs,sn,sub',ab,col,dd,k0,k1,k2,k3,k5,cd,hC,Tl,hk,hm,hd,hN⟩:=x_at X hx;unfold hasDictIn;rw[hk];exact hd
def jKc{vs:Array Value}{sl:qf}{dx:Addr}{mA:qa}{expr:Bool}{Q:qd}(X:K.In s.heap)(h0:s.heap.get? x=some (xOb C (some dx) vs sl))(hn:s.heap.Ns1 dx mA)(hx:xIn K C=true)
  (hga:findIn K (.ref C) "__getattribute__"=some (some (.builtin "BaseException.__getattribute__"))) (hgh:findIn K (.ref C) "__getattr__"=some none) (ha:findIn K (.ref C) name=some none) (hv:mA name=some v) (hh:W.handedIn v=true)
  (h:Q v { s with toks:=s.toks+1 }):wpAny (model prog w) A (getAttr (.ref x) name expr) Q E s:=by
 obtain⟨o,ho,hl⟩:=jo0 hn;have I:=jn7 h0 ho;unfold getAttr;refine zay (wpAny_mkText (x_by (s:={ s with toks:=s.toks+1 }) X I hx hga hgh (jBf (s:={ s with toks:=s.toks+1 }) X I (r:=.value v) (W.findObj_own (jH4 X hx) ha rfl (by rw[hl,hv])) (zab (W.handed_on hh h)) (fun z=>nomatch z))))
def jEl{Q:Option Value->Shared->Prop}(X:K.In s.heap)(I:InstAt s.heap x ox C od)(hx:xIn K C=true)(hga:findIn K (.ref C) "__getattribute__"=some (some (.builtin "BaseException.__getattribute__")))(hgh:findIn K (.ref C) "__getattr__"=some none)
  (ha:findIn K (.ref C) "__class__"=some (some (.builtin "object.__class__"))) (hn:specialIn K (.builtin "object.__class__") "__get__"=some (some (.builtin "getset_descriptor.__get__"))) (htk:takesIn K (.builtin "object.__class__")=some true)
  (h:Q (some (.ref C)) { s with toks:=s.toks+1 }):wpAny (model prog w) A (getAttr? (.ref x) "__class__") Q E s:=by
 obtain⟨bm,N,nm,q,bs,sn,sub',ab,col,dd,k0,k1,k2,k3,k5,cd,hC,Tl,hk,hm,hd,hN⟩:=x_at X hx;have hf:findObj K C od "__class__"=some (.bind (.builtin "getset_descriptor.__get__") (.builtin "object.__class__")):=by
  unfold W.findObj;rw[hk,Option.bind_some,ha,Option.bind_some];dsimp only;rw[hn,Option.bind_some];dsimp only;rw[htk];rfl
 unfold getAttr? getAttrBy?;refine zay (wpAny_mkText (zay (wpAny_attempt (x_by (s:={ s with toks:=s.toks+1 }) X I hx hga hgh (jBf (s:={ s with toks:=s.toks+1 }) X I hf (show wpAny _ _ (holding [Value.builtin "object.__class__"] (call (.builtin "getset_descriptor.__get__") [.builtin "object.__class__",.ref x,.ref C]) >>= ret) _ _ _ from ?_) (fun z=>nomatch z))))));refine zay (wpAny_holding (wpAny_call (W.class_get (s:={ s with toks:=s.toks+1 }) X I (jEn X hx (by decide)) (zab (W.handed_on rfl (zab h))))))
def jAh(hx:xIn K C=true)(hga:findIn K (.ref C) "__getattribute__"=some (some (.builtin "BaseException.__getattribute__")))(hgh:findIn K (.ref C) "__getattr__"=some none)
  (ha:findIn K (.ref C) "__class__"=some (some (.builtin "object.__class__"))) (hn:specialIn K (.builtin "object.__class__") "__get__"=some (some (.builtin "getset_descriptor.__get__"))) (htk:takesIn K (.builtin "object.__class__")=some true) :
  W.KitX K (.ref x) (.ref C) (fun h=>∃ ox od,InstAt h x ox C od) where
 ty:=fun _ _ _ ⟨_,_,I⟩=>I.type
 it:=fun _ _ X _=>by
  obtain⟨bm,N,nm,q,bs,sn,sub',ab,col,dd,k0,k1,k2,k3,k5,cd,hC,Tl,hk,hm,hd,hN⟩:=x_at X hx;intro A' Q' E' s' k z;unfold isType loadHead;exact zay (wpAny_loadPart (k _ _ hC) (zab z))
 ne:=fun h tp dd its n sl X htp=>by
  obtain⟨bm,N,nm,q,bs,sn,sub',ab,col,dd',k0,k1,k2,k3,k5,cd,hC,Tl,hk,hm,hd,hN⟩:=x_at X hx;refine Bool.eq_false_iff.mpr fun q=>?_
  rw[<- Value.ref.inj (beq_iff_eq.mp q),hC] at htp;exact absurd (Value.type.inj (congrArg Obj.cls (zby htp))) (by decide)
 ca:=fun X ⟨_,_,I⟩ z=>jEl X I hx hga hgh ha hn htk z
end
end L2
namespace L2
open PyProof.Rows
open PySem.W (Frag InstAt Looks findIn mroIn clsIn findObj takerIn specialIn takesIn hasDictIn isFn)
structure XCls(K:Frag)(C:Addr):Prop where
 x:xIn K C=true
 sa:findIn K (.ref C) "__setattr__"=some (some (.builtin "object.__setattr__"))
 ga:findIn K (.ref C) "__getattribute__"=some (some (.builtin "BaseException.__getattribute__"))
 gh:findIn K (.ref C) "__getattr__"=some none
 cl:findIn K (.ref C) "__class__"=some (some (.builtin "object.__class__"))
 kp:W.keepIn K (.ref C)=true
def xCls(K:Frag)(C:Addr):Bool:=xIn K C&&findIn K (.ref C) "__setattr__" == some (some (.builtin "object.__setattr__"))&&findIn K (.ref C) "__getattribute__" == some (some (.builtin "BaseException.__getattribute__"))&&findIn K (.ref C) "__getattr__" == some none&&findIn K (.ref C) "__class__" == some (some (.builtin "object.__class__"))&&W.keepIn K (.ref C)
def jEp{K:Frag}{C:Addr}(h:xCls K C=true):XCls K C:=by
 unfold xCls at h;simp only[Bool.and_eq_true,beq_iff_eq] at h;obtain⟨⟨⟨⟨⟨h1,h2⟩,h3⟩,h4⟩,h5⟩,h6⟩:=h;exact⟨h1,h2,h3,h4,h5,h6⟩
section
variable {X:Cx}{U:qc}{Z:St}{H:Hp}{s:Shared}{h':Heap}{A:Around}{E:qd}{a C dx:Addr}{fs:List (Str×V)}{f:Str}
def jqb{P:Program}{w:World}{φ:Heap->Prop}{h:Heap}(e:φ h)(o:∃ ob,h.get? a=some ob)(k:∀ h1 h2:Heap,φ h1->(∀ ob,h1.get? a=some ob->h2.get? a=some ob)->φ h2):ObjOk P w H h a (.ext φ):=⟨e,o,k⟩
def jsz{P:Program}{w:World}{h:Heap}{od:Option Addr}{fr:Bool}{vs:Array Value}{sl:qf}(e:h.get? a=some (xOb C od vs sl))(ef:fr=true->vs[1]? = some .none):ObjOk P w H h a (XO a C od fr):=jqb ⟨vs,sl,e,ef⟩ ⟨_,e⟩ fun _ _ ⟨vs,sl,e,ef⟩ k=>⟨vs,sl,k _ e,ef⟩
def jBg{P:Program}{w:World}{h:Heap}(e:XDv a fs h):ObjOk P w H h a (XDc a fs):=by
 refine jqb e ?_ ?_
 ·obtain⟨mA,⟨o,_,_,q,_⟩,_⟩:=e;exact⟨o,q⟩
 ·rintro h1 h2 ⟨mA,n,r,w',l⟩ k;exact⟨mA,n.at k,r,w',l⟩
def jp1{od:Option Addr}{fr:Bool}(I:Inv X U Z H s)(e:H a=some (XO a C od fr)):∃ vs sl,s.heap.get? a=some (xOb C od vs sl)/\(fr=true->vs[1]? = some .none):=(show ObjOk X.prog X.w H s.heap a (XO a C od fr) from I.hok a _ e).1
def jzz(I:Inv X U Z H s)(e:H dx=some (XDc dx fs)):XDv dx fs s.heap:=(show ObjOk X.prog X.w H s.heap dx (XDc dx fs) from I.hok dx _ e).1
def Inv.laidX{o:HO}{t':Nat}(I:Inv X U Z H s)(k:∀ b u,s.heap.get? b=some u->h'.get? b=some u)(hD:s.heap.get? a=none)(new:ObjOk X.prog X.w (upd H a o) h' a o):Inv X U Z (upd H a o) { s with heap:=h',toks:=t' }:=by
 have hn:H a=none:=by
  cases e:H a with
  | none=>rfl
  | some u=>obtain⟨o,q⟩:=(I.hok a u e).here;rw[hD] at q;cases q
 have nD:∀ b o,s.heap.get? b=some o->b≠a:=fun b o e z=>by rw[z,hD] at e;cases e
 have nD':∀ b u,H b=some u->b≠a:=fun b u e z=>by rw[z,hn] at e;cases e
 refine I.un ⟨fun b u q _ _ _=>k b u q,fun b u q _ _ _=>⟨u.slots,k b u q⟩,fun b u q n _=>by rw[jaj (nD b u q)];exact n,fun b u q _=>⟨u,k b u q⟩,fun b xs q=>by rw[jaj (nD' b _ q)];exact q,fun b u xs q=>by rw[jaj (nD' b _ q)];exact q,fun b ps q=>⟨#[],by rw[jaj (nD' b _ q),q];simp⟩⟩ fun b u e=>?_
 by_cases z:b=a
 ·subst z;rw[jam] at e;cases e;exact new
 ·rw[jaj z] at e;exact (I.hok b u e).stay (fun c v _ q=>k c v q) (fun c q=>by rw[jaj (nD' c _ q)];exact q) fun c xs q=>by rw[jaj (nD' c _ q)];exact q
def jmz{h:Heap}{b:Addr}(I:Inv X U Z H s)(hD:s.heap.get? b=none):H b=none:=by
 cases e:H b with
 | none=>rfl
 | some u=>obtain⟨o,q⟩:=(I.hok b u e).here;rw[hD] at q;cases q
def jz0{y:V}{u:Value}{fr:Bool}{Q:Unit->Shared->Prop}(I:Inv X U Z H s)(e:H a=some (XO a C none fr))(c:XCls X.K C)(ht:takerIn X.K C f=some none)(ry:RelV y u)
  (h:∀ d s',H d=none->Inv X U Z (upd (upd H d (XDc d [(f,y)])) a (XO a C (some d) fr)) s'->Q () s'):wpAny (model X.prog X.w) A (setAttr (.ref a) f u) Q E s:=by
 obtain⟨vs,sl,h0,hf0⟩:=jp1 I e;refine jH7 I.kIn h0 c.x c.sa ht fun h' e1 n1 k1=>?_
 have hD:s.heap.get? s.heap.objs.size=none:=Heap.get?_none_of_le (zac _);have hn:=jmz (h:=s.heap) I hD;have ne:a≠s.heap.objs.size:=fun z=>by rw[z,hD] at h0;cases h0
 have nd:XDv s.heap.objs.size [(f,y)] h':=by
  refine⟨_,n1,fun g=>?_,fun g hg=>?_,Nat.le_of_ble_eq_true rfl⟩
  ·show RelO (List.lookup g [(f,y)]) (if g=f then some u else none)
   by_cases q:g=f
   ·subst q;rw[if_pos rfl,List.lookup_cons,beq_self_eq_true];exact ry
   ·rw[if_neg q,List.lookup_cons,show (g == f)=false by simpa using q];exact True.intro
  ·by_cases q:g=f
   ·subst q;exact zcc.mpr rfl
   ·exact absurd (if_neg q) hg
 refine h s.heap.objs.size _ hn ?_;have nD:∀ b o,s.heap.get? b=some o->b≠s.heap.objs.size:=fun b o q z=>by rw[z,hD] at q;cases q
 have nD':∀ b u,H b=some u->b≠s.heap.objs.size:=fun b u q z=>by rw[z,hn] at q;cases q
 have na:∀ b,H b=none->b≠a:=fun b q z=>by rw[z,e] at q;cases q
 have nx:∀ b u,H b=some u->(∀ φ,u≠.ext φ)->b≠a:=fun b u q hu z=>by rw[z,e] at q;cases q;exact hu _ rfl
 refine I.un ⟨fun b u q n _ _=>k1 b u (na b n) q,fun b u q n _ _=>⟨u.slots,k1 b u (na b n) q⟩,fun b u q n _=>by rw[jaj (na b n),jaj (nD b u q)];exact n,fun b u q _=>?_,fun b xs q=>by rw[jaj (nx b _ q fun _ z=>nomatch z),jaj (nD' b _ q)];exact q,
  fun b u xs q=>by rw[jaj (nx b _ q fun _ z=>nomatch z),jaj (nD' b _ q)];exact q,fun b ps q=>⟨#[],by rw[jaj (nx b _ q fun _ z=>nomatch z),jaj (nD' b _ q),q];simp⟩⟩ fun b w eb=>?_
 ·by_cases z:b=a
  ·rw[z];exact⟨_,e1⟩
  ·exact⟨u,k1 b u z q⟩
 ·by_cases z:b=a
  ·subst z;rw[jam] at eb;cases eb;exact jsz e1 hf0
  ·rw[jaj z] at eb
   by_cases z2:b=s.heap.objs.size
   ·subst z2;rw[jam] at eb;cases eb;exact jBg nd
   ·rw[jaj z2] at eb;refine (I.hok b w eb).stay (fun c v hc q=>k1 c v ?_ q) (fun c q=>by rw[jaj (nx c _ q fun _ z=>nomatch z),jaj (nD' c _ q)];exact q) fun c xs q=>by rw[jaj (nx c _ q fun _ z=>nomatch z),jaj (nD' c _ q)];exact q
    rcases hc with r|r
    ·rw[r];exact z
    ·exact nx c _ r fun _ z=>nomatch z
def jz1{y:V}{u:Value}{fr:Bool}{Q:Unit->Shared->Prop}(I:Inv X U Z H s)(e:H a=some (XO a C (some dx) fr))(ed:H dx=some (XDc dx fs))(c:XCls X.K C)(ht:takerIn X.K C f=some none)(hl:fs.length<1000)(ry:RelV y u)
  (h:∀ s',Inv X U Z (upd H dx (XDc dx (putF f y fs))) s'->Q () s'):wpAny (model X.prog X.w) A (setAttr (.ref a) f u) Q E s:=by
 obtain⟨vs,sl,h0,hf0⟩:=jp1 I e;obtain⟨mA,n,r,wi,_⟩:=jzz I ed;refine jH8 I.kIn h0 n c.x c.sa ht wi (by rw[zav,sizeLine_eq];omega) fun h' n' sb=>h _ ?_
 have hd:∃ o,h'.get? dx=some o:=let ⟨o,_,_,e',_⟩:=n';⟨o,e'⟩
 refine I.write (x:=dx) (e:=dx) (by rw[ed];exact True.intro) (.inl rfl) (fun b q hb z=>(sb.2 b hb).trans z) hd (jBg ⟨_,n',fun g=>?_,fun g hg=>?_,?_⟩)
 ·show RelO ((putF f y fs).lookup g) (if g=f then some u else mA g);rw[jik]
  by_cases q:g=f
  ·rw[if_pos q,if_pos q];exact ry
  ·rw[if_neg q,if_neg q];exact r g
 ·by_cases q:g=f
  ·rw[q];exact (jhe f y fs).1
  ·exact (jhe f y fs).2 g (wi g fun z=>hg ((if_neg q).trans z))
 ·have:=jij f y fs;omega
def jEq{v:V}{ex fr:Bool}{Q:qd}(I:Inv X U Z H s)(e:H a=some (XO a C (some dx) fr))(ed:H dx=some (XDc dx fs))(c:XCls X.K C)(ht:findIn X.K (.ref C) f=some none)(l:fs.lookup f=some v)
  (h:∀ u s',Inv X U Z H s'->RelV v u->Q u s'):wpAny (model X.prog X.w) A (getAttr (.ref a) f ex) Q E s:=by
 obtain⟨vs,sl,h0,hf0⟩:=jp1 I e;obtain⟨mA,n,r,wi,_⟩:=jzz I ed;obtain⟨u,hu,ru⟩:=RelO.some_of (v:=v) (o:=mA f) (by rw[<- l];exact r f);exact jKc I.kIn h0 n c.x c.ga c.gh ht hu (jox ru) (h u _ (I.tok _) ru)
def jCv{h h':Heap}{us:List Value}(m:Heap.MadeExcOf h h' a (.ref C) us):∃ vs sl,h'.get? a=some (xOb C none vs sl)/\vs[1]? = some .none:=by
 obtain⟨_,_,t,e,_⟩:=m;exact⟨_,_,e,rfl⟩
end
structure XMk(K:Frag)(C f:Addr):Prop where
 c:XCls K C
 init:findIn K (.ref C) "__init__"=some (some (.ref f))
 fn:isFn K (.ref f)=true
section
variable {X:Cx}{CX:CXT}{k:Nat}{f C:Addr}{fd:FuncData}{ps:List Str}{sp:Sp}{E:XK}{x m:Str}{p pos:Pos}{e o value:Expr}{es:List Expr}{ta tv:TE}{t:TA}
def jwx{U:qc}{Z:St}{H:Hp}{s:Shared}{Q:VK}{us:List Value}{vs:List V}(M:XMk X.K C f)(F:FnOk X.prog X.w X.K X.mg X.base CX k f fd ps sp)(hr:Room (k+1) X.A)(hb:Binds X.K fd ps [])
  (hx:jjx CX X E) (I:Inv X U Z H s) (r:Vals vs us) (hz:vs.length<=1000)
  (h:∀ a,H a=none->sp (.ref a::vs) (upd H a (XO a C none true)) (fun v H2=>v=.non/\Q (.ref a) H2) E) :
  wpAny (model X.prog X.w) X.A (call (.ref C) us) (EP X U Z Q) X.xe s:=by
 refine jH5 I.kIn M.c.x M.init M.fn (fun h' a m=>?_) (by rw[<- r.length,sizeLine_eq];omega);have hn:=jmz (h:=s.heap) I m.new;have hq:=h a hn;obtain⟨w1,w2,w3,w4⟩:=jCv m;have I2:Inv X U Z (upd H a (XO a C none true)) { s with heap:=h' }:=I.laidX (t':=s.toks) m.keeps m.new (jsz w3 fun _=>w4);have r2:Vals (V.ref a::vs) (Value.ref a::us):=.cons rfl r;have hl:(Value.ref a::us++[]).length=ps.length:=by
  rw[List.append_nil];have e:=r2.length;rw[F.len _ _ _ _ hq] at e;exact e.symm
 refine wpAny_call (codeAny_mono (F.run _ X.stack _ _ ⟨Value.ref a::us,[]⟩ (Value.ref a::us++[]) _ _ E (hr.make C us []) (I2.env0.make C us []) (hb _ (Value.ref a::us) I2.kIn hl) (by rw[List.append_nil];exact r2) hq) fun r s' hq'=>?_)
 cases r with
 | error e=>exact hx U Z _ _ e s' I2 hq'
 | ok fl =>
  cases fl with
  | ret u =>
   obtain⟨v,H',I3,rv,ev,q3⟩:=I2.after hq';subst ev;exact⟨rv,⟨V.ref a,H',I3,rfl,q3⟩⟩
  | next=>exact False.elim hq'
  | brk=>exact False.elim hq'
  | cont=>exact False.elim hq'
def jHq(C:Addr)(sp:Sp)(E:XK)(t:TA):TE:=fun Z H Q=>t Z H fun vs H1=>vs.length<=1000/\∀ a,H1 a=none->sp (.ref a::vs) (upd H1 a (XO a C none true)) (fun v H2=>v=.non/\Q (.ref a) H2) E
def jzb(M:XMk X.K C f)(F:FnOk X.prog X.w X.K X.mg X.base CX k f fd ps sp)(hr:Room (k+1) X.A)(hg:Gl X x)(hm:X.mg x=some (.ref C))(hb:Binds X.K fd ps [])(hx:jjx CX X E)
  (ha:PA X (e::es) t) (hdb:(x == ("__debug__":Str))=false:=by decide) (he:zsE e es X.env:=by rfl) (hpl:zbT pos es X.env:=by rfl) :
  PE X (.Call (.Name x p) (e::es) [] pos) (jHq C sp E t):=by
 intro U s Z H Q I h;refine wpAny_Call_Name_kw (jjk I hg hm ?_ hdb);exact W.callWith_K (h₀:=X.base) I.ok.mod.kin M.c.kp (thn (ha pos U s Z H _ I h) fun us s1 ⟨vs,H1,I1,r,hz,q⟩=>⟨I1.kIn,jwx M F hr hb hx I1 r hz q⟩) he hpl
inductive tXFld(K:Frag)(ta:TE)(g:Str)(Z:St)(H:Hp)(Q:VK):Prop
 | mk (h:ta Z H fun x H1=>∃ a C dx fr fs v,x=.ref a/\H1 a=some (XO a C (some dx) fr)/\H1 dx=some (XDc dx fs)/\XCls K C/\findIn K (.ref C) g=some none/\fs.lookup g=some v/\Q v H1)
def jDi{g:Str}(he:PE X e ta)(hb:attributeBase e g X.env (eval e X.env)=eval e X.env):PE X (.Attribute e g pos) (tXFld X.K ta g):=by
 intro U s Z H Q I h;refine jub hb (thn (he U s Z H _ I h.1) fun u s1 hzz=>?_);obtain⟨x,H1,I1,rx,a,C,dx,fr,fs,v,ex,ea,ed,c,n,l,q⟩:=hzz;subst ex;cases rx;exact jEq I1 ea ed c n l fun u' s2 I2 ru=>⟨v,H1,I2,ru,q⟩
inductive XPut(K:Frag)(H:Hp)(a:Addr)(g:Str)(y:V)(Q:Hp->Prop):Prop
 | first (C:Addr) (fr:Bool) (ea:H a=some (XO a C none fr)) (c:XCls K C) (ht:takerIn K C g=some none) (q:∀ d,H d=none->Q (upd (upd H d (XDc d [(g,y)])) a (XO a C (some d) fr)))
 | more (C dx:Addr) (fr:Bool) (fs:List (Str×V)) (ea:H a=some (XO a C (some dx) fr)) (ed:H dx=some (XDc dx fs)) (c:XCls K C) (ht:takerIn K C g=some none) (l:fs.length<1000) (q:Q (upd H dx (XDc dx (putF g y fs))))
def jDr{g:Str}{pos':Pos}(ha:PE X o ta)(hv:PE X value tv)(hs:swapsWith value (some (.Attribute o g pos')) pos.line X.env=pure false) :
  PS X (.Assign [.Attribute o g pos'] value pos) (fun D Z H=>tv Z H fun y H1=>ta Z H1 fun x H2=>∃ a,x=.ref a/\XPut X.K H2 a g y (D.nx Z)):=by
 intro U s Z H D I h;refine plainObj_wpAny_Assign_Attribute (thn (hv U s Z H _ I h) fun u s1 ⟨y,H1,I1,ry,q⟩=>thn (ha U s1 Z H1 _ I1 q) fun ov s2 hzz=>?_) hs;obtain⟨x,H2,I2,rx,a,ex,q2⟩:=hzz;subst ex;cases rx
 cases q2 with
 | first C fr ea c ht q=>exact jz0 I2 ea c ht ry fun d s3 hd I3=>⟨Z,_,I3,q d hd⟩
 | more C dx fr fs ea ed c ht l q=>exact jz1 I2 ea ed c ht l ry fun s3 I3=>⟨Z,_,I3,q⟩
def juh(hn:specialIn X.K (.builtin "object.__class__") "__get__"=some (some (.builtin "getset_descriptor.__get__")))(htk:takesIn X.K (.builtin "object.__class__")=some true) :
  CallR X (.builtin "isinstance") (fun xs H Q=>∃ a C od fr v c b,xs=[.ref a,v]/\H a=some (XO a C od fr)/\XCls X.K C/\(∀ dx,od=some dx->∃ fs,H dx=some (XDc dx fs))/\(∀ u,RelV v u->u=c)/\W.kitOne X.K (.ref C) c=some b/\Q (.bl b) H):=by
 intro U s Z H xs us Q I r h;obtain⟨a,C,od,fr,v,c,b,rfl,ea,cl,hd,hv,hk,q⟩:=h;obtain⟨u,c',rfl,ru,rc⟩:=r.two;cases ru;rw[hv c' rc];obtain⟨vs,sl,h0,hf0⟩:=jp1 I ea;have Jq:∃ ox od',InstAt s.heap a ox C od':=by
  cases od with
  | none=>exact⟨_,_,jq9 h0⟩
  | some dx =>
   obtain⟨fs,ed⟩:=hd dx rfl;obtain⟨mA,⟨o,_,_,e,_⟩,_⟩:=jzz I ed;exact⟨_,_,jn7 h0 e⟩
 exact W.kia_one (jAh cl.x cl.ga cl.gh cl.cl hn htk) I.kIn Jq hk (fun z=>nomatch z) fun tk=>⟨.bl b,H,I.tok _,rfl,q⟩
end
end L2
namespace DL
open L2
structure ErrT(K:W.Frag)(mg:qa)(cs fs:List Str)(b:Str):Prop where
 ats:∀ c∈cs,∃ C,mg c=some (.ref C)
 atb:∃ C,mg b=some (.ref C)
 cls:∀ c∈cs,∀ C,mg c=some (.ref C)->XCls K C
 fld:∀ c∈cs,∀ C,mg c=some (.ref C)->∀ f∈fs,W.findIn K (.ref C) f=some none
 pair:∀ c∈cs,∀ d∈cs,∀ C,mg c=some (.ref C)->∃ D,mg d=some (.ref D)/\W.kitOne K (.ref C) (.ref D)=some (c == d)
 base:∀ c∈cs,∀ C,mg c=some (.ref C)->∃ D,mg b=some (.ref D)/\W.kitOne K (.ref C) (.ref D)=some true
 val:∀ c∈cs,∀ C,mg c=some (.ref C)->W.kitOne K (.ref C) (.type "ValueError")=some true
 sp:W.specialIn K (.builtin "object.__class__") "__get__"=some (some (.builtin "getset_descriptor.__get__"))
 tk:W.takesIn K (.builtin "object.__class__")=some true
def xOne(K:W.Frag)(es:List (Str×Addr))(B:Addr)(fs:List Str)(p:Str×Addr):Bool :=
 xCls K p.2&&fs.all (fun f=>W.findIn K (.ref p.2) f == some none)&&W.kitOne K (.ref p.2) (.ref B) == some true&&W.kitOne K (.ref p.2) (.type "ValueError") == some true&&es.all fun q=>W.kitOne K (.ref p.2) (.ref q.2) == some (p.1 == q.1)
def xTab(K:W.Frag)(es:List (Str×Addr))(B:Addr)(fs:List Str):Bool :=
 es.all (xOne K es B fs)&&W.specialIn K (.builtin "object.__class__") "__get__" == some (some (.builtin "getset_descriptor.__get__"))&&W.takesIn K (.builtin "object.__class__") == some true
def jCd{K:W.Frag}{mg:qa}{es:List (Str×Addr)}{B:Addr}{fs:List Str}{b:Str}(hm:∀ p∈es,mg p.1=some (.ref p.2))(hb:mg b=some (.ref B))(h:xTab K es B fs=true):ErrT K mg (es.map (·.1)) fs b:=by
 unfold xTab at h;rw[Bool.and_eq_true,Bool.and_eq_true,List.all_eq_true,beq_iff_eq,beq_iff_eq] at h;obtain⟨⟨h1,h2⟩,h3⟩:=h;have one:∀ c∈es.map (·.1),∀ C,mg c=some (.ref C)->xOne K es B fs (c,C)=true:=fun c hc C hC=>by
  obtain⟨p,hp,rfl⟩:=List.mem_map.mp hc;rw[hm p hp] at hC;cases hC;exact h1 p hp
 have all:∀ c∈es.map (·.1),∀ C,mg c=some (.ref C)->(((xCls K C=true/\fs.all (fun f=>W.findIn K (.ref C) f == some none)=true)/\W.kitOne K (.ref C) (.ref B)=some true)/\W.kitOne K (.ref C) (.type "ValueError")=some true)/\(es.all fun q=>W.kitOne K (.ref C) (.ref q.2) == some (c == q.1))=true:=fun c hc C hC=>by
  have:=one c hc C hC;unfold xOne at this;rw[Bool.and_eq_true,Bool.and_eq_true,Bool.and_eq_true,Bool.and_eq_true,beq_iff_eq,beq_iff_eq] at this;exact this
 refine⟨fun c hc=>by obtain⟨p,hp,rfl⟩:=List.mem_map.mp hc;exact⟨_,hm p hp⟩,⟨B,hb⟩,fun c hc C hC=>jEp (all c hc C hC).1.1.1.1,fun c hc C hC f hf=>?_,fun c hc d hd C hC=>?_,fun c hc C hC=>⟨B,hb,(all c hc C hC).1.1.2⟩,fun c hc C hC=>(all c hc C hC).1.2,h2,h3⟩
 ·exact beq_iff_eq.mp (List.all_eq_true.mp (all c hc C hC).1.1.1.2 f hf)
 ·obtain⟨q,hq,rfl⟩:=List.mem_map.mp hd;exact⟨q.2,hm q hq,beq_iff_eq.mp (List.all_eq_true.mp (all c hc C hC).2 q hq)⟩
def jtg(c:Str)(m:List D->MS D)(ds:List D):MS D:=fun Ω=>((m (.obj Ω.length::ds)).b fun d=>match d with
 | .non=>MS.p (.obj Ω.length)
 | _=>fun _=>none) (Ω++[.exc c (none,true)])
def jl8(c:Str)(m:List D->MS D)(fl:DSt->MS (List D)):DSt->MS D:=fun Y=>(fl Y).b fun ds=>jtg c m ds
inductive IniY(P:Program)(w:World)(K:W.Frag)(mg:qa)(base:Heap)(k:Nat)(c:Str)(n:Nat)(sp:Sp):Prop
 | mk (C f:Addr) (fd:FuncData) (ps:List Str) (h1:ps.length=n) (h2:mg c=some (.ref C)) (h3:XMk K C f) (h4:Binds K fd ps []) (h5:FnOk P w K mg base CX0 k f fd ps sp)
structure IniXE(P:Program)(w:World)(K:W.Frag)(mg:qa)(base:Heap)(k:Nat)(c:Str)(n:Nat)(m:List D->MS D):Prop where
 ex:IniY P w K mg base k c n (spE K mg n m)
 ar:∀ ds Ω r,m ds Ω=some r->ds.length=n
 sm:n<=1000
structure IniXAt(K:W.Frag)(mg:qa)(c q:Str)(st:Stmt)(ps:List Str):Prop where
 ex:∃ C f fd,mg c=some (.ref C)/\XMk K C f/\Fun K "__init__" q st f fd/\Binds K fd ps []
section
variable {P:Program}{w:World}{K:W.Frag}{mg:qa}{base:Heap}
def jr1{c q:Str}{st:Stmt}{N ps:List Str}{k:Nat}{O':List Nat}{g:DSt->MS Out}(hf:IniXAt K mg c q st ps)(S:FnScope N ps (jad st))
  (hbody:∀ (f:Addr) (cdv:Value) (A:Around) (outer:List Env) (s:Shared) (H:Hp) (E:XK),Room k (A.deeper (PyProof.Rows.envOfC q (jad st) s.heap.objs.size f cdv)) ->
   MSs (cxOf CX0 P w K mg base N q (jad st) f cdv A outer s H E).nox [] O' [] (jar st) g) (hs:ps.length<=1000):IniXE P w K mg base (k+1) c ps.length (mirE ps.length N.length g):=by
 obtain⟨C,f,fd,hm,hM,F,hb⟩:=hf.ex;exact⟨⟨C,f,fd,ps,rfl,hm,hM,hb,fn_E F S hbody⟩,jjp,hs⟩
end
section
variable {X:Cx}{O:List Nat}{e:Expr}{es:List Expr}{fl:DSt->MS (List D)}{pos p:Pos}{x c f:Str}{k n:Nat}
variable {Jz J:Rho}{Sz S F:qe}{Hz H:Hp}{Z:St}{Y:DSt}{Ω Ω':Sto}{d:Str}
def RM.newX{Ca x:Addr}(R:RM Jz Sz Hz F X.K X.mg O J S H Z Y Ω)(hm:X.mg c=some (.ref Ca))(hx:H x=none):RM Jz Sz Hz F X.K X.mg O (addR J Ω.length x) (addS S x x) (upd H x (XO x Ca none true)) Z Y (Ω++[.exc c (none,true)])/\RLe J (addR J Ω.length x) /\
   Same (hid H (fob (un F S) Z O)) (hid (upd H x (XO x Ca none true)) (fob (un F (addS S x x)) Z O)) :=
 R.newS (nso:=.exc c (none,true)) hx fun J' S' Hv' l v=>ExcOk.no true Ca hm jam
def jyr{m:List D->MS D}{Ca:Addr}{vs:List V}{ds:List D}{r:Except XD D}{Q:VK}(hm:X.mg c=some (.ref Ca))(ar:∀ ds Ω r,m ds Ω=some r->ds.length=n)(R:RM Jz Sz Hz F X.K X.mg O J S H Z Y Ω)(hr:Reps J X.K (hid H (fob (un F S) Z O)) ds vs)(hf:jtg c m ds Ω=some (r,Ω'))
  (k:match (generalizing:=false) r with
   | .ok d=>∀ v J' S' H',RM Jz Sz Hz F X.K X.mg O J' S' H' Z Y Ω'->RLe J J'->Same (hid H (fob (un F S) Z O)) (hid H' (fob (un F S') Z O))->Rep J' X.K (hid H' (fob (un F S') Z O)) d v->Q v H'
   | .error _=>True):∀ x,H x=none->spE X.K X.mg n m (.ref x::vs) (upd H x (XO x Ca none true)) (fun v H2=>v=.non/\Q (.ref x) H2) E0:=by
 intro x hx;obtain⟨t1,t2,t3⟩:=R.newX hm hx;have hob:Rep (addR J Ω.length x) X.K (hid (upd H x (XO x Ca none true)) (fob (un F (addS S x x)) Z O)) (.obj Ω.length) (.ref x):=rep_obj.mpr ⟨x,by unfold addR;rw[if_pos rfl],rfl⟩;unfold jtg at hf;rcases MS.b_inv hf with ⟨d,Ω1,e1,hf⟩|⟨y,e1,rfl⟩
 ·refine jlg t1 (ar _ _ _ e1) (Reps.cons hob ((hr.rho t2).mono t3)) e1 ?_;intro v ρ2 S2 H2 R2 l2 v2 r2
  cases d with
  | non =>
   cases hf;exact⟨rep_non.mp r2,k (.ref x) ρ2 S2 H2 R2 (t2.trans l2) (t3.trans v2) ((hob.rho l2).mono v2)⟩
  | _=>cases hf
 ·exact jlg t1 (ar _ _ _ e1) (Reps.cons hob ((hr.rho t2).mono t3)) e1 trivial
def jvh{m:List D->MS D}{ds:List D}{r:Except XD D}(ar:∀ ds Ω r,m ds Ω=some r->ds.length=n)(hf:jtg c m ds Ω=some (r,Ω')):ds.length+1=n:=by
 unfold jtg at hf;rcases MS.b_inv hf with ⟨d,Ω1,e1,hf⟩|⟨y,e1,rfl⟩
 ·exact ar _ _ _ e1
 ·exact ar _ _ _ e1
def jr6{m:List D->MS D}(C:IniXE X.prog X.w X.K X.mg X.base k c n m)(hr:Room (k+1) X.A)(ha:MA X O (e::es) fl)(hg:Gl X c:=by rfl)(hdb:(c == ("__debug__":Str))=false:=by decide)(he:zsE e es X.env:=by rfl)
  (hpl:zbT pos es X.env:=by rfl):ME X O (.Call (.Name c p) (e::es) [] pos) (jl8 c m fl):=by
 obtain⟨Ca,f,fd,ps,hl,hm,hM,hb,G⟩:=C.ex;rintro U s Z H Q I ⟨Jz,Sz,Hz,F,J,S,Y,Ω,R,r,Ω',hf,k⟩;refine jzb hM G hr hg hm hb (fun _ _ _ _ _ _ _ z=>z.elim) ha hdb he hpl U s Z H Q I (E:=E0) ?_;rcases MS.b_inv hf with ⟨ds,Ω1,e1,hf⟩|⟨y,e1,rfl⟩
 ·refine⟨Jz,Sz,Hz,F,J,S,Y,Ω,R,.ok ds,Ω1,e1,fun vs ρ1 S1 H1 R1 l1 v1 r1=>?_⟩;refine⟨?_,jyr hm C.ar R1 r1 hf ?_⟩
  ·have h1:=jvh C.ar hf;have h2:=C.sm;rw[r1.length];omega
  ·cases r with
   | error y=>trivial
   | ok d=>exact fun v ρ2 S2 H2 R2 l2 v2 r2=>k v ρ2 S2 H2 R2 (l1.trans l2) (v1.trans v2) r2
 ·exact⟨Jz,Sz,Hz,F,J,S,Y,Ω,R,.error y,_,e1,trivial⟩
end
end DL
namespace DL
open PyProof.Rows L2
def getX(cs:List Str)(f:Str):D->MS D:=fun x Ω=>match x with
 | .obj i=>match Ω[i]? with
  | some (.exc c (some j,_))=>match Ω[j]? with
   | some (.xd fs)=>if cs.contains c then (fs.lookup f).map fun d=>(.ok d,Ω) else none
   | _=>none
  | _=>none
 | _=>none
def jqm(cs:List Str)(f:Str)(fa:DSt->MS D):DSt->MS D:=fun Y=>(fa Y).b fun x=>getX cs f x
def putX(cs:List Str)(f:Str)(x d:D):MS Unit:=fun Ω=>match x with
 | .obj i=>match Ω[i]? with
  | some (.exc c (none,fr))=>if cs.contains c then some (.ok (),(Ω++[SO.xd [(f,d)]]).set i (.exc c (some Ω.length,fr))) else none
  | some (.exc c (some j,_))=>match Ω[j]? with
   | some (.xd fs)=>if cs.contains c&&decide (fs.length<1000) then some (.ok (),Ω.set j (.xd (putD f d fs))) else none
   | _=>none
  | _=>none
 | _=>none
def jut(cs:List Str)(f:Str)(fo fv:DSt->MS D):DSt->MS Out:=fun Y=>(fv Y).b fun d=>(fo Y).b fun x=>(putX cs f x d).b fun _=>MS.p (.nx Y)
def isX(cs:List Str)(g:Str->Bool):D->MS D:=fun x Ω=>match x with
 | .obj i=>match Ω[i]? with
  | some (.exc c (none,_))=>if cs.contains c then some (.ok (.bl (g c)),Ω) else none
  | some (.exc c (some j,_))=>match Ω[j]? with
   | some (.xd fs)=>if cs.contains c then some (.ok (.bl (g c)),Ω) else none
   | _=>none
  | _=>none
 | _=>none
def mIsX(cs:List Str)(g:Str->Bool)(fa:DSt->MS D):DSt->MS D:=fun Y=>(fa Y).b fun x=>isX cs g x
section
variable {Ω Ω':Sto}{cs:List Str}{f:Str}{x d:D}
inductive GetXI(cs:List Str)(f:Str)(x:D)(Ω Ω':Sto)(r:Except XD D):Prop
 | mk (i j:Nat) (c:Str) (fr:Bool) (fs:List (Str×D)) (d:D) (h1:x=.obj i) (h2:Ω[i]? = some (.exc c (some j,fr))) (h3:Ω[j]? = some (.xd fs)) (h4:c∈cs) (h5:fs.lookup f=some d) (h6:r=.ok d) (h7:Ω'=Ω)
def jya{r:Except XD D}(h:getX cs f x Ω=some (r,Ω')):GetXI cs f x Ω Ω' r:=by
 unfold getX at h
 split at h
 ·rename_i i
  split at h
  ·rename_i c j fr hi
   split at h
   ·rename_i fs hj
    split at h
    ·rename_i hc
     cases hl:fs.lookup f with
     | none=>rw[hl] at h;cases h
     | some d=>rw[hl] at h;cases h;exact⟨i,j,c,fr,fs,d,rfl,hi,hj,zbc.mp hc,hl,rfl,rfl⟩
    ·cases h
   ·cases h
  ·cases h
 ·cases h
inductive PutXI(cs:List Str)(f:Str)(x d:D)(Ω Ω':Sto)(r:Except XD Unit):Prop
 | first (i:Nat) (c:Str) (fr:Bool) (h1:x=.obj i) (h2:Ω[i]? = some (.exc c (none,fr))) (h4:c∈cs) (h6:r=.ok ()) (h7:Ω'=(Ω++[SO.xd [(f,d)]]).set i (.exc c (some Ω.length,fr)))
 | more (i j:Nat) (c:Str) (fr:Bool) (fs:List (Str×D)) (h1:x=.obj i) (h2:Ω[i]? = some (.exc c (some j,fr))) (h3:Ω[j]? = some (.xd fs)) (h4:c∈cs) (h5:fs.length<1000) (h6:r=.ok ()) (h7:Ω'=Ω.set j (.xd (putD f d fs)))
def jsk{r:Except XD Unit}(h:putX cs f x d Ω=some (r,Ω')):PutXI cs f x d Ω Ω' r:=by
 unfold putX at h
 split at h
 ·rename_i i
  split at h
  ·rename_i c fr hi
   split at h
   ·rename_i hc;cases h;exact .first i c fr rfl hi (zbc.mp hc) rfl rfl
   ·cases h
  ·rename_i c j fr hi
   split at h
   ·rename_i fs hj
    split at h
    ·rename_i hc;rw[Bool.and_eq_true,decide_eq_true_eq] at hc;cases h;exact .more i j c fr fs rfl hi hj (zbc.mp hc.1) hc.2 rfl rfl
    ·cases h
   ·cases h
  ·cases h
 ·cases h
inductive IsXI(cs:List Str)(g:Str->Bool)(x:D)(Ω Ω':Sto)(r:Except XD D):Prop
 | mk (i:Nat) (c:Str) (oj:Option Nat) (fr:Bool) (h1:x=.obj i) (h2:Ω[i]? = some (.exc c (oj,fr))) (h3:∀ j,oj=some j->∃ fs,Ω[j]? = some (.xd fs)) (h4:c∈cs) (h6:r=.ok (.bl (g c))) (h7:Ω'=Ω)
def ju7{g:Str->Bool}{r:Except XD D}(h:isX cs g x Ω=some (r,Ω')):IsXI cs g x Ω Ω' r:=by
 unfold isX at h
 split at h
 ·rename_i i
  split at h
  ·rename_i c fr hi
   split at h
   ·rename_i hc;cases h;exact⟨i,c,none,fr,rfl,hi,(fun j z=>nomatch z),zbc.mp hc,rfl,rfl⟩
   ·cases h
  ·rename_i c j fr hi
   split at h
   ·rename_i fs hj
    split at h
    ·rename_i hc;cases h;exact⟨i,c,some j,fr,rfl,hi,fun j' z=>by cases z;exact⟨fs,hj⟩,zbc.mp hc,rfl,rfl⟩
    ·cases h
   ·cases h
  ·cases h
 ·cases h
end
def jsx{K:W.Frag}{C:Addr}{f:Str}(h:W.findIn K (.ref C) f=some none):W.takerIn K C f=some none:=by
 unfold W.takerIn;rw[h];rfl
def jBi{a C:Addr}{od:Option Addr}{fr:Bool}:∀ y,HO.own y≠XO a C od fr:=fun y z=>by unfold XO at z;cases z
def jH9{a:Addr}{fs:List (Str×V)}:∀ y,HO.own y≠XDc a fs:=fun y z=>by unfold XDc at z;cases z
section
variable {X:Cx}{O B:List Nat}{o e:Expr}{fa fo fv:DSt->MS D}{fl:DSt->MS (List D)}{pos p p2:Pos}{x c f:Str}{k:Nat}
variable {Jz J:Rho}{Sz S F:qe}{Hz H:Hp}{Z:L2.St}{Y:DSt}{Ω Ω':Sto}{cs fs:List Str}{bn d:Str}
def jvk(T:ErrT X.K X.mg cs fs bn)(hf:fs.contains f=true)(ha:ME X O e fa)(hb:attributeBase e f X.env (eval e X.env)=eval e X.env:=by rfl):ME X O (.Attribute e f pos) (jqm cs f fa):=by
 rintro U s Z H Q I ⟨Jz,Sz,Hz,F,J,S,Y,Ω,R,r,Ω',hg,k⟩;refine jDi ha hb U s Z H Q I ⟨?_⟩;rcases MS.b_inv hg with ⟨x,Ω1,e1,hg⟩|⟨x,e1,rfl⟩
 ·refine⟨Jz,Sz,Hz,F,J,S,Y,Ω,R,.ok x,Ω1,e1,fun u ρ1 S1 H1 R1 l1 v1 r1=>?_⟩;obtain⟨i,j,c,fr,fl,d,rfl,hi,hj,hc,hl,rfl,rfl⟩:=jya hg;obtain⟨ad,q1,q2⟩:=rep_obj.mp r1;obtain⟨ad',p1,p2,p3⟩:=R1.sto.ats i _ hi;rw[q1] at p1;cases p1
  obtain⟨dx,s1,s2,vfs,s3,s4⟩:=R1.sto.ats j _ hj
  cases p3 with
  | yes fr j C dx' h1 h2 h3 =>
   rw[s1] at h2;cases h2
   obtain⟨w,w1,w2⟩:=s4.get hl;exact⟨ad,C,dx,fr,vfs,w,q2,h3,s3,T.cls c hc C h1,T.fld c hc C h1 f (zbc.mp hf),w1,k w ρ1 S1 H1 R1 l1 v1 w2⟩
 ·exact⟨Jz,Sz,Hz,F,J,S,Y,Ω,R,.error x,_,e1,trivial⟩
def jqq{pos':Pos}(T:ErrT X.K X.mg cs fs bn)(hf:fs.contains f=true)(ho:ME X O o fo)(hv:ME X O e fv)(hs:swapsWith e (some (.Attribute o f pos')) pos.line X.env=pure false:=by rfl):MSt X O O B (.Assign [.Attribute o f pos'] e pos) (jut cs f fo fv):=by
 rintro U s Z H Dn I ⟨Jz,Sz,Hz,F,J,S,Y,Ω,R,r,Ω',hg,k⟩;refine jDr ho hv hs U s Z H Dn I ?_;rcases MS.b_inv hg with ⟨d,Ω1,e1,hg⟩|⟨x,e1,rfl⟩
 ·refine⟨Jz,Sz,Hz,F,J,S,Y,Ω,R,.ok d,Ω1,e1,fun v ρ1 S1 H1 R1 l1 v1 r1=>?_⟩;rcases MS.b_inv hg with ⟨x,Ω2,e2,hg⟩|⟨x,e2,rfl⟩
  ·refine⟨Jz,Sz,Hz,F,ρ1,S1,Y,Ω1,R1,.ok x,Ω2,e2,fun u ρ2 S2 H2 R2 l2 v2 r2=>?_⟩;have r1':=(r1.rho l2).mono v2;rcases MS.b_inv hg with ⟨z,Ω3,e3,hg⟩|⟨y,e3,rfl⟩
   ·cases hg
    cases jsk e3 with
    | first i c fr h1 h2 h4 h6 h7 =>
     subst h1 h7;obtain⟨ad,q1,q2⟩:=rep_obj.mp r2;obtain⟨ad',p1,p2,p3⟩:=R2.sto.ats i _ h2;rw[q1] at p1;cases p1
     cases p3 with
     | no fr C g1 g2 =>
      refine⟨ad,q2,.first C fr g2 (T.cls c h4 C g1) (jsx (T.fld c h4 C g1 f (zbc.mp hf))) fun dx hd=>?_⟩;obtain⟨t1,t2,t3⟩:=R2.newS (nso:=.xd [(f,d)]) (no:=XDc dx [(f,v)]) hd fun J' S' Hv' l vv=>⟨[(f,v)],jam,v,[],rfl,(r1'.rho l).mono vv,rfl⟩
      have il:i<Ω2.length:=(zbb.mp h2).1;have hne:ad≠dx:=fun z=>by rw[z,hd] at g2;cases g2
      have q1':=t2 _ _ q1;obtain⟨w1,w2⟩:=t1.putS (so':=.exc c (some Ω2.length,fr)) (o':=XO ad C (some dx) fr) (by rw[List.getElem?_append_left il];exact h2) q1' (addS_t.mpr (.inl p2)) (by rw[jaj hne];exact g2) jBi
       (ExcOk.yes fr _ C dx g1 (by unfold addR;rw[if_pos rfl]) jam)
      exact k _ _ Z _ w1 (l1.trans (l2.trans t2)) (by rw[w2];exact v1.trans (v2.trans t3))
    | more i j c fr fl h1 h2 h3 h4 h5 h6 h7 =>
     subst h1 h7;obtain⟨ad,q1,q2⟩:=rep_obj.mp r2;obtain⟨ad',p1,p2,p3⟩:=R2.sto.ats i _ h2;rw[q1] at p1;cases p1
     obtain⟨dx,s1,s2,vfs,s3,s4⟩:=R2.sto.ats j _ h3
     cases p3 with
     | yes fr j C dx' g1 g2 g3 =>
      rw[s1] at g2;cases g2
      refine⟨ad,q2,.more C dx fr vfs g3 s3 (T.cls c h4 C g1) (jsx (T.fld c h4 C g1 f (zbc.mp hf))) (by rw[s4.length];exact h5) ?_⟩;obtain⟨w1,w2⟩:=R2.putS (so':=.xd (putD f d fl)) (o':=XDc dx (putF f v vfs)) h3 s1 s2 s3 jH9 ⟨_,jam,s4.put r1'⟩;exact k _ _ Z _ w1 (l1.trans l2) (by rw[w2];exact v1.trans v2)
   ·cases jsk e3 with
    | first i c fr h1 h2 h4 h6 h7=>cases h6
    | more i j c fr fl h1 h2 h3 h4 h5 h6 h7=>cases h6
  ·exact⟨Jz,Sz,Hz,F,ρ1,S1,Y,Ω1,R1,.error x,_,e2,trivial⟩
 ·exact⟨Jz,Sz,Hz,F,J,S,Y,Ω,R,.error x,_,e1,trivial⟩
def jAj{g:Str->Bool}{nm:Expr}{v:V}{u:Value}(T:ErrT X.K X.mg cs fs bn)(hn:PE X nm (tC v))(hv:∀ w,RelV v w->w=u)(hk:∀ c∈cs,∀ C,X.mg c=some (.ref C)->W.kitOne X.K (.ref C) u=some (g c))(ha:ME X O e fa)(hG:Gl X "isinstance":=by rfl)(hm:X.mg "isinstance"=none)
  (he:starEach (e::[nm]) X.env=(false,eval e X.env)::starEach [nm] X.env:=by rfl) (he2:starEach [nm] X.env=(false,eval nm X.env)::starEach [] X.env:=by rfl) (hpl:(backTo pos (starEach [nm] X.env)).any (·.1)=false:=by rfl) :
  ME X O (.Call (.Name "isinstance" p) [e,nm] [] pos) (mIsX cs g fa):=by
 rintro U s Z H Q I ⟨Jz,Sz,Hz,F,J,S,Y,Ω,R,r,Ω',hg,k⟩;refine jnp (juh T.sp T.tk) hG hm jc8 (jfo ha (jfo hn jk8 he2) he) (by decide) (by decide) he hpl U s Z H Q I ?_;rcases MS.b_inv hg with ⟨x,Ω1,e1,hg⟩|⟨x,e1,rfl⟩
 ·refine⟨Jz,Sz,Hz,F,J,S,Y,Ω,R,.ok x,Ω1,e1,fun w ρ1 S1 H1 R1 l1 v1 r1=>?_⟩;obtain⟨i,c,oj,fr,rfl,hi,hj,hc,rfl,rfl⟩:=ju7 hg;obtain⟨ad,q1,q2⟩:=rep_obj.mp r1;obtain⟨ad',p1,p2,p3⟩:=R1.sto.ats i _ hi;rw[q1] at p1;cases p1
  subst q2
  cases p3 with
  | no fr C h1 h2=>exact⟨ad,C,none,fr,v,u,g c,rfl,h2,T.cls c hc C h1,(fun dx z=>nomatch z),hv,hk c hc C h1,k _ ρ1 S1 H1 R1 l1 v1 (rep_bl.mpr rfl)⟩
  | yes fr j C dx h1 h2 h3 =>
   obtain⟨fl,hj⟩:=hj j rfl;obtain⟨dx',s1,s2,vfs,s3,s4⟩:=R1.sto.ats j _ hj;rw[h2] at s1;cases s1
   exact⟨ad,C,some dx,fr,v,u,g c,rfl,h3,T.cls c hc C h1,fun dx' z=>by cases z;exact⟨vfs,s3⟩,hv,hk c hc C h1,k _ ρ1 S1 H1 R1 l1 v1 (rep_bl.mpr rfl)⟩
 ·exact⟨Jz,Sz,Hz,F,J,S,Y,Ω,R,.error x,_,e1,trivial⟩
def jF0(T:ErrT X.K X.mg cs fs bn)(hd:cs.contains d=true)(hm:X.mg "isinstance"=none)(ha:ME X O e fa)(hg:Gl X d:=by rfl)(hdb:(d == ("__debug__":Str))=false:=by decide)(hG:Gl X "isinstance":=by rfl)
  (he:starEach (e::[.Name d p2]) X.env=(false,eval e X.env)::starEach [.Name d p2] X.env:=by rfl):ME X O (.Call (.Name "isinstance" p) [e,.Name d p2] [] pos) (mIsX cs (fun c=>c == d) fa):=by
 have hd':=zbc.mp hd;obtain⟨D0,h0⟩:=T.ats d hd';refine jAj (v:=.ref D0) (u:=.ref D0) T (jnq hg h0 rfl hdb) (fun w r=>by cases r;rfl) (fun c hc C hC=>?_) ha hG hm he rfl rfl;obtain⟨D1,h1,h2⟩:=T.pair c hc d hd' C hC;rw[h0] at h1;cases h1
 exact h2
def jml:bootBuiltins "ValueError"=some (.type "ValueError"):=by decide +kernel
def jF1(T:ErrT X.K X.mg cs fs bn)(hm:X.mg "isinstance"=none)(hvm:X.mg "ValueError"=none)(ha:ME X O e fa)(hg:Gl X "ValueError":=by rfl)(hG:Gl X "isinstance":=by rfl)
  (he:starEach (e::[.Name "ValueError" p2]) X.env=(false,eval e X.env)::starEach [.Name "ValueError" p2] X.env:=by rfl):ME X O (.Call (.Name "isinstance" p) [e,.Name "ValueError" p2] [] pos) (mIsX cs (fun _=>true) fa) :=
 jAj (v:=.ty "ValueError") (u:=.type "ValueError") T (jwa hg hvm jml rfl) (fun w r=>by cases r;rfl) (fun c hc C hC=>T.val c hc C hC) ha hG hm he rfl rfl
end
def joy{K:W.Frag}{mg:qa}{h:Heap}{c q:Str}{st:Stmt}{ps:List Str}{C f:Addr}{oc:Value}{od an:Option Addr}{osl:qf}{kV doc pm cdv ct:Value}(X:K.In h)(G:h.Ns mainGlobals mg)
  (hb:∀ (kV doc pm:Value) (an:Option Addr) (cdv ct:Value) (us:List Value),us.length=ps.length->bindArgs (W.fnOf "__init__" q (jbx st) (jar st) (jad st) .none kV doc pm an cdv ct) ⟨us,[]⟩=pure (ps.zip us))
  (a:mg c=some (.ref C)) (xc:XCls K C) (i2:W.findIn K (.ref C) "__init__"=some (some (.ref f))) (i3:W.isFn K (.ref f)=true)
  (l:K.lookup f=some ⟨oc,od,.func (W.fnOf "__init__" q (jbx st) (jar st) (jad st) .none kV doc pm an cdv ct),osl⟩)
  (cd:W.codeIn K cdv q=true) (k:W.keepIn K (.ref f)=true):IniXAt K mg c q st ps:=by
 have F:=jrz (st:=st) l cd k;exact⟨C,f,_,a,⟨xc,i2,i3⟩,F,F.binds hb⟩
end DL
namespace L2
open PyProof.Rows
open PySem.W (Frag InstAt Looks findIn mroIn clsIn)
section
variable {M:Model}{A:Around}{E:qd}{s:Shared}{K:Frag}{C:Addr}{env:Env}
def jEo{x:Sem Value}{Q:Flow->Shared->Prop}(hh:A.handled=none)
  (h:wpAny M A x (fun v s₁=>∃ e C od vs sl,v=.ref e/\K.In s₁.heap/\xIn K C=true/\s₁.heap.get? e=some (xOb C od vs sl)/\vs[1]? = some .none/\E (.ref e) s₁) E s) :
  wpAny M A (raiseStmt env (some x) none) Q E s:=by
 unfold raiseStmt;refine zay (thn h fun v s₁ hzz=>?_);obtain⟨e,C,od,vs,sl,ev,X,hx,he,h1,hE⟩:=hzz;subst ev;obtain⟨bm,N,nm,q,bs,sn,sub,ab,col,dd,k0,k1,k2,k3,k5,cd,hC,T,hk,hm,hd,hN⟩:=x_at X hx;have hcB:(Value.ref C::bm).contains (.type "BaseException")=true:=by rw[List.contains_cons,T.hasType (show bmV.contains (.type "BaseException")=true by decide),Bool.or_true]
 obtain⟨hp,g,d,tk,os⟩:=s₁
 repeat (first|with_reducible refine wpAny_loadPart_at he ?_|with_reducible refine wpAny_loadPart_at hC ?_|(with_reducible refine wpAny_isSubtype_exc hC ?_;rw[hcB])|wp_step)
 rw[h1];exact zab (by rw[if_neg (by decide)];exact zab (wpAny_raiseNew_none hh hE))
abbrev frL(l:List Env):List Addr:=l.filterMap (·.frame)
inductive TbAt(h:Heap)(vs:Array Value):Prop
 | no (h1:vs[1]? = some .none)
 | yes (T:Addr) (oT:Obj) (ts:Array Value) (h1:vs[1]? = some (.ref T)) (h2:h.get? T=some oT) (h3:oT.data=.fields ts) (h4:ts[3]? = some .none)
inductive Note(l:List Env)(e C:Addr)(od:Option Addr)(vs:Array Value)(sl:qf)(h h':Heap):Prop
 | mk (vs':Array Value) (T:Addr) (oT:Obj) (ts:Array Value) (h1:h'.get? e=some (xOb C od vs' sl)) (h2:vs'[1]? = some (.ref T)) (h3:h.get? T=none) (h4:h'.get? T=some oT) (h5:oT.data=.fields ts) (h6:ts[3]? = some .none)
   (h7:∀ b o,h.get? b=some o->b∉frL l->b≠e->vs[1]?≠some (.ref b)->h'.get? b=some o) (h8:∀ b o,h.get? b=some o->b∈frL l->∃ sl',h'.get? b=some { o with slots:=sl' }) (h9:∀ T,vs[1]? = some (.ref T)->∃ oT ts,h'.get? T=some oT/\oT.data=.fields ts/\ts[3]? = some .none)
def jxn{base:Heap}{env:Env}{outer:List Env}{L e:Addr}{od:Option Addr}{vs:Array Value}{sl:qf}{head:Value}{hadNext:Bool}{Q:Unit->Shared->Prop}
  (hfr:A.frames=some (env::outer)) (hl:s.heap.FunFrames base (env::outer)) (hf:env.frame=some L) (he:s.heap.get? e=some (xOb C od vs sl)) (hsz:1<vs.size)
  (h:∀ h' vs' T oT ts,h'.get? e=some (xOb C od vs' sl)->vs'[1]? = some (.ref T)->s.heap.get? T=none->h'.get? T=some oT->oT.data=.fields ts->ts[3]? = some .none->(∀ b o,s.heap.get? b=some o->b∉frL (env::outer)->b≠e->h'.get? b=some o) ->
   (∀ b o,s.heap.get? b=some o->b∈frL (env::outer)->∃ sl',h'.get? b=some { o with slots:=sl' })->Q () { s with heap:=h' }) :
  wpAny M A (do let a <- frameOf env;let pl <- entryPlaceOf L hadNext;let b <- EntryCells.newEntry head a .none (rawInt L) .none pl;setField (.ref e) 1 b) (fun _ s'=>wpAny M A (setFlight (.ref e) none) Q E s') E s:=by
 have nfe:∀ b,b∈frL (env::outer)->b≠e:=fun b hb z=>by
  obtain⟨_,o,ho,hnf⟩:=hl.mem hb;rw[z,he] at ho;cases ho;exact hnf vs rfl
 refine zay (wpAny_frameOf_fun hfr hl hf fun g hs=>zay (wpAny_entryPlaceOf fun pl hpl=>?_));unfold EntryCells.newEntry newFields;refine zay (wpAny_newObj_type ?_ (hpl.sizeOk5 _ _ _ _ _));have e1:g.get? e=some (xOb C od vs sl):=(hs.2.1 e fun hb=>nfe e hb rfl).trans he;generalize hob:({ cls:=.type "traceback",dict:=none,data:=.fields ([head,.ref L,.none,rawInt L,.none]++(if pl.isEmpty then List.replicate 6 Value.none else pl)).toArray }:Obj)=ob;have hdat:ob.data=.fields ([head,.ref L,.none,rawInt L,.none]++(if pl.isEmpty then List.replicate 6 Value.none else pl)).toArray:=by rw[<- hob]
 have hsz3:3<([head,.ref L,.none,rawInt L,.none]++(if pl.isEmpty then List.replicate 6 Value.none else pl)).toArray.size:=by
  rw[zbx,zcb];show 3<5+_;omega
 generalize ([head,.ref L,.none,rawInt L,.none]++(if pl.isEmpty then List.replicate 6 Value.none else pl)).toArray=ts at hdat hsz3;have e2:=zaz ob e1;refine wpAny_setField e2 rfl hsz ?_;have ne:g.objs.size≠e:=Nat.ne_of_gt (zbv e1);have e3:((g.push ob).update e (Obj.mapFields (·.setIfInBounds 1 (Value.ref g.objs.size)))).get? e=some (xOb C od (vs.setIfInBounds 1 (.ref g.objs.size)) sl):=Heap.get?_update_self _ e2 rfl;have t3:((g.push ob).update e (Obj.mapFields (·.setIfInBounds 1 (Value.ref g.objs.size)))).get? g.objs.size=some ob:=by
  rw[Heap.get?_update_other _ _ (Ne.symm ne)];exact zbz _ (Obj.isFreed_of_fields hdat)
 have v1:(vs.setIfInBounds 1 (Value.ref g.objs.size))[1]? = some (.ref g.objs.size):=by simp[hsz]
 unfold setFlight;refine zay (wpAny_field e3 rfl v1 ?_);rw[if_pos (show (Value.ref g.objs.size != Value.none)=true from by simp)];refine wpAny_setField t3 hdat hsz3 ?_;have dT:=Obj.data_mapFields hdat (·.setIfInBounds 3 ((none:Option Addr).elim Value.none fun f=>rawInt f));have t4:=Heap.get?_update_self (Obj.mapFields (·.setIfInBounds 3 ((none:Option Addr).elim Value.none fun f=>rawInt f))) t3 (Obj.isFreed_of_fields dT);have fresh:s.heap.get? g.objs.size=none:=Heap.get?_none_of_le (by rw[hs.1];exact zac _);have keep:∀ b o,b≠e->g.get? b=some o->(((g.push ob).update e (Obj.mapFields (·.setIfInBounds 1 (Value.ref g.objs.size)))).update g.objs.size (Obj.mapFields (·.setIfInBounds 3 ((none:Option Addr).elim Value.none fun f=>rawInt f)))).get? b=some o:=fun b o hb q=>by
  rw[Heap.get?_update_other _ _ (Nat.ne_of_gt (zbv q)),Heap.get?_update_other _ _ (Ne.symm hb)];exact zaz _ q
 refine h _ _ g.objs.size _ _ ?_ v1 fresh t4 dT (by simp[hsz3]) (fun b o q hb hbe=>keep b o hbe ((hs.2.1 b hb).trans q)) fun b o q hb=>?_
 ·rw[Heap.get?_update_other _ _ ne];exact e3
 ·obtain⟨sl',q'⟩:=hs.2.2 b o q;exact⟨sl',keep b _ (nfe b hb) q'⟩
def jEm{base:Heap}{env:Env}{outer:List Env}{L e:Addr}{od:Option Addr}{vs:Array Value}{sl:qf}{Q:Unit->Shared->Prop}
  (hfr:A.frames=some (env::outer)) (hl:s.heap.FunFrames base (env::outer)) (hf:env.frame=some L) (he:s.heap.get? e=some (xOb C od vs sl)) (tb:TbAt s.heap vs) (hne:vs[1]?≠some (.ref e))
  (h:∀ h',Note (env::outer) e C od vs sl s.heap h'->Q () { s with heap:=h' }):wpAny M A (noteFrame (.ref e) env) (fun _ s'=>wpAny M A (setFlight (.ref e) none) Q E s') E s:=by
 unfold noteFrame;simp only[hf]
 cases tb with
 | no h1 =>
  refine zay (wpAny_field he rfl h1 ?_);rw[if_neg (by decide)];refine jxn hfr hl hf he (Array.getElem?_eq_some_iff.mp h1).1 fun h' vs' T oT ts a1 a2 a3 a4 a5 a6 a7 a8=>h h' ⟨vs',T,oT,ts,a1,a2,a3,a4,a5,a6,fun b o q hb hbe _=>a7 b o q hb hbe,a8,fun T z=>by rw[h1] at z;cases z⟩
 | yes T oT ts h1 h2 h3 h4 =>
  have hTe:T≠e:=fun z=>hne (by rw[h1,z])
  have nT:T∉frL (env::outer):=fun hb=>by
   obtain⟨_,o,ho,hnf⟩:=hl.mem hb;rw[h2] at ho;cases ho;exact hnf ts h3
  refine zay (wpAny_field he rfl h1 ?_);rw[if_pos (show (Value.ref T != Value.none)=true from by simp)];refine zay (wpAny_field h2 h3 h4 ?_);rw[if_neg (show ¬ ((Value.none == rawInt L)=true) from by simp[rawInt])];refine zay (wpAny_setField h2 h3 (Array.getElem?_eq_some_iff.mp h4).1 ?_);have other:∀ b,b≠T->(s.heap.update T (Obj.mapFields (·.setIfInBounds 3 Value.none))).get? b=s.heap.get? b:=fun b hb=>Heap.get?_update_other _ _ (Ne.symm hb)
  refine jxn (s:={ s with heap:=s.heap.update T (Obj.mapFields (·.setIfInBounds 3 Value.none)) }) hfr (hl.of_keeps fun b o q nf=>⟨o,(other b fun z=>nf ts (by rw[z,h2] at q;cases q;exact h3)).trans q,rfl⟩) hf ((other e (Ne.symm hTe)).trans he) (Array.getElem?_eq_some_iff.mp h1).1
   fun h' vs' T' oT' ts' a1 a2 a3 a4 a5 a6 a7 a8=>h h' ⟨vs',T',oT',ts',a1,a2,?_,a4,a5,a6,fun b o q hb hbe hbT=>a7 b o ((other b fun z=>hbT (by rw[z];exact h1)).trans q) hb hbe,fun b o q hb=>a8 b o ((other b fun z=>nT (by rw[<- z];exact hb)).trans q) hb,fun T2 z=>?_⟩
  rotate_left
  ·rw[h1] at z;cases z;exact⟨_,_,a7 T _ (Heap.get?_update_self _ h2 (Obj.isFreed_of_fields (Obj.data_mapFields h3 _))) nT hTe,Obj.data_mapFields h3 _,by simp[(Array.getElem?_eq_some_iff.mp h4).1]⟩
  by_cases z:T'=T
  ·subst z;exact absurd a3 (by rw[Heap.get?_update_self _ h2 (Obj.isFreed_of_fields (Obj.data_mapFields h3 _))];exact fun z=>nomatch z)
  ·exact (other T' z).symm.trans a3
end
end L2
namespace L2
open PyProof.Rows
open PySem.W (Frag InstAt Looks findIn mroIn clsIn)
def XT(T:Addr):HO:=.ext fun h=>∃ oT ts,h.get? T=some oT/\oT.data=.fields ts/\ts[3]? = some .none
inductive Fly(H:Hp)(a C:Addr)(od:Option Addr)(s:Shared):Prop
 | mk (e1:H a=some (XO a C od false)) (vs:Array Value) (sl:qf) (e2:s.heap.get? a=some (xOb C od vs sl)) (tb:TbAt s.heap vs) (ne:vs[1]?≠some (.ref a)) (tr:∀ T,vs[1]? = some (.ref T)->H T=some (XT T))
def jxo{P:Program}{w:World}{H:Hp}{h:Heap}{T:Addr}{oT:Obj}{ts:Array Value}(h1:h.get? T=some oT)(h2:oT.data=.fields ts)(h3:ts[3]? = some .none):ObjOk P w H h T (XT T) :=
 jqb ⟨oT,ts,h1,h2,h3⟩ ⟨_,h1⟩ fun _ _ ⟨oT,ts,h1,h2,h3⟩ k=>⟨oT,ts,k _ h1,h2,h3⟩
section
variable {X:Cx}{U:qc}{Z:St}{H:Hp}{s:Shared}{a C:Addr}{od:Option Addr}
def jGe{A':Around}{E':qd}{Q:Unit->Shared->Prop}(I:Inv X U Z H s)(F:Fly H a C od s)(hst:X.stack=X.env::X.outer)(hf:X.env.frame=some X.env.locals)(hA:A'.frames=some X.stack)
  (k:∀ T h',H T=none->Inv X U Z (upd H T (XT T)) { s with heap:=h' }->Fly (upd H T (XT T)) a C od { s with heap:=h' }->Q () { s with heap:=h' }) :
  wpAny (model X.prog X.w) A' (noteFrame (.ref a) X.env) (fun _ s'=>wpAny (model X.prog X.w) A' (setFlight (.ref a) none) Q E' s') E' s:=by
 obtain⟨e1,vs,sl,e2,tb,ne,tr⟩:=F;refine jEm (base:=X.base) (by rw[hA,hst]) (by rw[<- hst];exact I.stack) hf e2 tb ne fun h' N=>?_
 obtain⟨vs',T,oT,ts,n1,n2,n3,n4,n5,n6,n7,n8,n9⟩:=N;have hT:H T=none:=jmz (h:=s.heap) I n3;have nfr:∀ b∈frL (X.env::X.outer),H b=none:=fun b hb=>I.stkFree b (by rw[hst];exact hb)
 have na:∀ b,H b=none->b≠a:=fun b q z=>by rw[z,e1] at q;cases q
 have nTb:∀ b,H b=none->vs[1]?≠some (.ref b):=fun b q z=>by rw[tr b z] at q;cases q
 have nT:∀ b u,s.heap.get? b=some u->b≠T:=fun b u q z=>by rw[z,n3] at q;cases q
 have nT':∀ b u,H b=some u->b≠T:=fun b u q z=>by rw[z,hT] at q;cases q
 have there:∀ b o,s.heap.get? b=some o->∃ o',h'.get? b=some o':=fun b o q=>by
  by_cases z2:b=a
  ·rw[z2];exact⟨_,n1⟩
  ·by_cases z3:vs[1]? = some (.ref b)
   ·obtain⟨oT,ts,q',_⟩:=n9 b z3;exact⟨oT,q'⟩
   ·by_cases z4:b∈frL (X.env::X.outer)
    ·obtain⟨sl',q'⟩:=n8 b o q z4;exact⟨_,q'⟩
    ·exact⟨o,n7 b o q z4 z2 z3⟩
 have hok:HOk X.prog X.w (upd H T (XT T)) h':=fun b u e=>by
  by_cases z:b=T
  ·subst z;rw[jam] at e;cases e;exact jxo n4 n5 n6
  ·rw[jaj z] at e
   by_cases z2:b=a
   ·subst z2;rw[e1] at e;cases e;exact jsz n1 fun z=>nomatch z
   ·by_cases z3:vs[1]? = some (.ref b)
    ·rw[tr b z3] at e;cases e;obtain⟨oT,ts,q1,q2,q3⟩:=n9 b z3;exact jxo q1 q2 q3
    ·refine (I.hok b u e).stay (fun c v hc q=>?_) (fun c q=>by rw[jaj (nT' c _ q)];exact q) fun c xs q=>by rw[jaj (nT' c _ q)];exact q
     have hcn:H c≠none:=by
      rcases hc with r|r
      ·rw[r,e];exact fun z=>nomatch z
      ·rw[r];exact fun z=>nomatch z
     refine n7 c v q (fun z=>hcn (nfr c z)) (fun z=>?_) fun z=>?_
     ·rcases hc with r|r
      ·exact z2 (r.symm.trans z)
      ·rw[z,e1] at r;exact absurd (zby r) (fun z=>by unfold XO at z;cases z)
     ·rcases hc with r|r
      ·exact z3 (by rw[<- r];exact z)
      ·rw[tr c z] at r;exact absurd (zby r) (fun z=>by unfold XT at z;cases z)
 have Jq:Inv X U Z (upd H T (XT T)) { s with heap:=h' }:=I.call (g':=s.gens) (t':=s.toks) (d':=s.drawn) (ch:=[]) ⟨fun b o q n hb _=>n7 b o q (by rw[hst] at hb;exact hb) (na b n) (nTb b n),fun b o q n hb _=>n8 b o q (by rw[hst] at hb;exact hb),
  fun b o q n _=>by rw[jaj (nT b o q)];exact n,fun b o q _=>there b o q,fun b xs q=>by rw[jaj (nT' b _ q)];exact q,fun b u xs q=>by rw[jaj (nT' b _ q)];exact q,fun b ps q=>⟨#[],by rw[jaj (nT' b _ q),q];simp⟩⟩ hok I.bare (fun b z=>nomatch z)
 refine k T h' hT Jq ⟨by rw[jaj (nT' a _ e1)];exact e1,vs',sl,n1,.yes T oT ts n2 n4 n5 n6,fun z=>?_,fun T2 z=>?_⟩
 ·rw[n2] at z;cases z;exact nT' _ _ e1 rfl
 ·rw[n2] at z;cases z;exact jam
inductive CXr(P:Program)(w:World)(outer:List Env)(H:Hp)(s:Shared)(E:XK)(e:Value)(s':Shared):Prop
 | mk (a C:Addr) (od:Option Addr) (H1 H':Hp) (h1:e=.ref a) (h2:s'.os=s.os) (h3:AllBare s'.gens) (h4:Un (frs outer) [] H H' s.heap s'.heap) (h5:HOk P w H' s'.heap) (h6:Fly H' a C od s') (h7:∀ b o,H1 b=some o->H' b=some o) (h8:E (.ref a) od H1)
def CX1(P:Program)(w:World):CXT:=fun outer H s E e s'=>CXr P w outer H s E e s'
inductive Back(X:Cx)(U:qc)(Z:St)(E:XK)(e:Value)(s:Shared):Prop
 | mk (a C:Addr) (od:Option Addr) (H1 H:Hp) (h1:e=.ref a) (I:Inv X U Z H s) (F:Fly H a C od s) (h7:∀ b o,H1 b=some o->H b=some o) (h8:E (.ref a) od H1)
def jp4{E:XK}{e:Value}{s':Shared}(I:Inv X U Z H s)(h:CX1 X.prog X.w X.stack H s E e s'):Back X U Z E e s':=by
 obtain⟨a,C,od,H1,H',h1,h2,h3,h4,h5,h6,h7,h8⟩:=h;exact⟨a,C,od,H1,H',h1,I.call' h2 h4 h5 h3 (fun b z=>nomatch z),h6,h7,h8⟩
def jFv{P:Program}{w:World}{K:Frag}{mg:qa}{base:Heap}{N:List Str}{qual:Str}{scope:Scope}{f:Addr}{cd:Value}{A:Around}{outer:List Env}{s:Shared}{H:Hp}{E:XK}{e:Value}{s2:Shared}
  (B:Back (cxOf (CX1 P w) P w K mg base N qual scope f cd A outer s H E) U Z E e s2):(cxOf (CX1 P w) P w K mg base N qual scope f cd A outer s H E).xe e s2:=by
 obtain⟨a,C,od,H1,H2,rfl,I,F,h7,h8⟩:=B;show wpAny _ _ (leaving _ (.ref a)) _ _ s2;unfold leaving;refine zay (jGe (X:=cxOf (CX1 P w) P w K mg base N qual scope f cd A outer s H E) I F rfl rfl I.ok.frames fun T h' hT Jq F'=>?_);exact⟨a,C,od,H1,_,rfl,Jq.os,Jq.bare,Jq.base,Jq.hok,F',fun b o q=>by rw[jaj (fun z=>by rw[z,] at q;rw[h7 _ _ q] at hT;cases hT)];exact h7 b o q,h8⟩
def jzi{e:Expr}{te:TE}{pos:Pos}(he:PE X e te)(hc:X.calm=true):PS X (.Raise (some e) none pos) (fun D Z H=>te Z H fun v H1=>∃ a C od,v=.ref a/\H1 a=some (XO a C od true)/\XCls X.K C/\∀ U s,Inv X U Z (upd H1 a (XO a C od false)) s->Fly (upd H1 a (XO a C od false)) a C od s->X.xe (.ref a) s):=by
 intro U s Z H D I h;show wpAny _ _ (do standAt pos;raiseStmt X.env (some (do let v <- eval e X.env;standAt pos;pure v)) none) _ _ s;refine zay (wpAny_standAt (jEo (K:=X.K) (I.ok.hd hc) (zay (thn (he U s Z H _ I h) fun u s1 ⟨v,H1,I1,rv,a,C,od,ev,ha,cl,k⟩=>zay (wpAny_standAt (zab ?_))))));subst ev;cases rv;obtain⟨vs,sl,h0,hf0⟩:=jp1 I1 ha;have h1:=hf0 rfl;refine⟨a,C,od,vs,sl,rfl,I1.kIn,cl.x,h0,h1,?_⟩;have Jq:Inv X U Z (upd H1 a (XO a C od false)) { s1 with heap:=s1.heap,toks:=s1.toks }:=I1.write (x:=a) (e:=a) (by rw[ha];exact True.intro) (.inl rfl) (fun b u _ q=>q) ⟨_,h0⟩ (jsz h0 fun z=>nomatch z);exact k U s1 Jq ⟨jam,vs,sl,h0,.no h1,fun z=>by rw[h1] at z;(cases z),fun T z=>by rw[h1] at z;cases z⟩
end
end L2
namespace L2
open PyProof.Rows
open PySem.W (Frag InstAt Looks findIn mroIn clsIn)
section
variable {X:Cx}{U:qc}{Z:St}{H:Hp}{s:Shared}{a C:Addr}{od:Option Addr}
abbrev Cx.mk1(X:Cx)(v:Value)(E:qd):Cx:={ X with A:=X.A.mark (some v),calm:=false,xe:=E }
def Inv.mk1(I:Inv X U Z H s)(v:Value)(E:qd):Inv (X.mk1 v E) U Z H s :=
 ⟨⟨I.ok.mod,I.ok.kind,I.ok.glob,I.ok.blt,I.ok.above,I.ok.inj,I.ok.has,I.ok.cab,(fun z=>nomatch z),I.ok.frames,I.ok.stk,I.ok.exf,I.ok.bs,I.ok.bsz,I.ok.noex,I.ok.exfs,I.ok.funs,I.ok.frf⟩,I.os,I.bare,I.base,I.loc,I.cell,I.free,I.freeC,I.pin,I.hok,I.len⟩
def Inv.un1{v:Value}{E:qd}{Z':St}{H':Hp}{s':Shared}(I:Inv X U Z H s)(Jq:Inv (X.mk1 v E) U Z' H' s'):Inv X U Z' H' s' :=
 ⟨I.ok,Jq.os,Jq.bare,Jq.base,Jq.loc,Jq.cell,Jq.free,Jq.freeC,Jq.pin,Jq.hok,Jq.len⟩
def jxk{M:Model}{A:Around}{E:qd}{i:Nat}{x:Str}{v:V}{pos:Pos}{Q:Unit->Shared->Prop}(I:Inv X U Z H s)(hN:X.N.Nodup)(hi:X.N[i]? = some x)(hk:X.env.scope.names.lookup x=some .local)(hv:Z[i]? = some (some v))
  (h:∀ s',Inv X U (Z.set i none) H s'->Q () s'):wpAny M A (unbindBehindTheSuite X.env x pos) Q E s:=by
 obtain⟨m,hn,hl⟩:=id I.loc;have hcls:(X.env.scope.kind == .class || (X.env.scope.kind == .module&&X.env.locals != X.env.globals))=false:=by rw[I.ok.kind];rfl
 have cne:=I.cne;obtain⟨u,ru,lk⟩:=hl i x v hi hv (.inl hk);have hu:m x=some u:=by
  rcases lk with ⟨_,e⟩|⟨k,_⟩
  ·exact e
  ·have hk':X.env.kindOf x=some .local:=hk;rcases k with k|k
   ·rw[hk'] at k;cases k
   ·rw[hk'] at k;cases k
 unfold unbindBehindTheSuite;refine wpAny_onRaise (wpAny_unbindName_local hk hn hu hcls fun h' u' hn' hs=>?_);obtain⟨oL,_,_,hoL,_⟩:=id hn;have low:∀ {b:Addr} {o:Obj},X.s₀.heap.get? b=some o->b≠X.env.locals:=fun e=>zcv (zcx (zbv e) I.ok.above)
 refine h _ ⟨I.ok,I.os,I.bare,⟨fun b o e n hb hx=>(hs.2 b (low e)).trans (I.base.keep b o e n hb hx),fun b o e n hb hx=>?_,I.base.free,fun b o e hx=>?_,I.base.tups,I.base.frzs,I.base.tbls⟩,⟨_,hn',fun j y v' e1 e2 e3=>?_⟩,fun y c e=>?_,I.free,I.freeC,fun p hp=>?_,fun b ob e=>?_,by simpa using I.len⟩
 ·obtain⟨sl,e1⟩:=I.base.slot b o e n hb hx;exact⟨sl,(hs.2 b (low e)).trans e1⟩
 ·obtain⟨o',e1⟩:=I.base.there b o e hx;exact⟨o',(hs.2 b (low e)).trans e1⟩
 ·have hj:j≠i:=fun z=>by
   rw[z,zcz (zbb.mp hv).1] at e2;cases e2
  rw[zbw (Ne.symm hj)] at e2;obtain⟨w,r',q⟩:=hl j y v' e1 e2 e3;refine⟨w,r',?_⟩;rcases q with ⟨k,e⟩|⟨k,c,e,z⟩
  ·refine .inl ⟨k,?_⟩;have:y≠x:=fun e=>hj (jnj hN e1 (e ▸ hi))
   simp[this,e]
  ·exact .inr ⟨k,c,e,z.sameBut hs (cne y c e)⟩
 ·obtain⟨w,z⟩:=I.cell y c e;exact⟨w,z.sameBut hs (cne y c e)⟩
 ·obtain⟨e,n,ne,nf,d⟩:=I.pin p hp;exact⟨(hs.2 p.1 ne).trans e,n,ne,nf,d⟩
 ·refine (I.hok b ob e).stay (fun c w hc q=>(hs.2 c ?_).trans q) (fun _ q=>q) fun _ _ q=>q
  rintro rfl;rcases hc with z|hc
  ·rw[<- z,I.free] at e;cases e
  ·rw[I.free] at hc;cases hc
def jI3{A':Around}{E':qd}{Q:Unit->Shared->Prop}(I:Inv X U Z H s)(F:Fly H a C od s)(k:∀ s',Inv X U Z H s'->Q () s'):wpAny (model X.prog X.w) A' (setFlight (.ref a) none) Q E' s:=by
 obtain⟨e1,vs,sl,e2,tb,ne,tr⟩:=F;unfold setFlight
 cases tb with
 | no h1 =>
  refine zay (wpAny_field e2 rfl h1 ?_);rw[if_neg (by decide)];exact zab (k s I)
 | yes T oT ts h1 h2 h3 h4 =>
  refine zay (wpAny_field e2 rfl h1 ?_);rw[if_pos (show (Value.ref T != Value.none)=true from by simp)];have hs:=(Array.getElem?_eq_some_iff.mp h4).1;refine wpAny_setField h2 h3 hs (k _ ?_);have dT:=Obj.data_mapFields h3 (·.setIfInBounds 3 ((none:Option Addr).elim Value.none fun f=>rawInt f));have q:=Heap.get?_update_self (Obj.mapFields (·.setIfInBounds 3 ((none:Option Addr).elim Value.none fun f=>rawInt f))) h2 (Obj.isFreed_of_fields dT);have hT:=tr T h1;have Jq:Inv X U Z (upd H T (XT T)) { s with heap:=s.heap.update T (Obj.mapFields (·.setIfInBounds 3 ((none:Option Addr).elim Value.none fun f=>rawInt f))),toks:=s.toks } :=
   I.write (x:=T) (e:=T) (by rw[hT];exact True.intro) (.inl rfl) (fun b u hb z=>(Heap.get?_update_other _ _ (Ne.symm hb)).trans z) ⟨_,q⟩ (jxo q dT (by simp[hs]))
  have eH:upd H T (XT T)=H:=by
   funext b
   by_cases z:b=T
   ·rw[z,jam,hT]
   ·rw[jaj z]
  rw[eH] at Jq;exact Jq
def jCj{B n y:Str}{Bc:Addr}{j l:Nat}{np hpos py pn ypos:Pos}{Q:Flow->Shared->Prop}{E':qd}(I:Inv X U Z H s)(F:Fly H a C od s)(hex:W.exmOne X.K (.ref C) (.ref Bc)=some true)(hg:Gl X B)(hm:X.mg B=some (.ref Bc))(hdb:(B == ("__debug__":Str))=false)
  (hN:X.N.Nodup) (hj:X.N[j]? = some n) (hn:X.env.scope.names.lookup n=some .local) (hl:X.N[l]? = some y) (hy:X.env.scope.names.lookup y=some .local) (hjl:j≠l)
  (hnd:(n == ("__debug__":Str))=false) (hncd:(n == ("__classdict__":Str))=false) (hs:swapsWith (.Name n pn) (some (.Name y py)) ypos.line X.env=pure false)
  (k:∀ s',Inv X U (((Z.set j (some (.ref a))).set l (some (.ref a))).set j none) H s'->Q .next s') :
  wpAny (model X.prog X.w) X.A (handleBy (.ref a) X.env [.ExceptHandler (some (.Name B np)) (some n) [.Assign [.Name y py] (.Name n pn) ypos] hpos]) Q E' s:=by
 have e2:∃ vs sl,s.heap.get? a=some (xOb C od vs sl):=by obtain⟨_,vs,sl,e2,_⟩:=F;exact⟨vs,sl,e2⟩
 obtain⟨vs,sl,e2⟩:=e2;have jl:j<Z.length:=by rw[I.len];exact (zbb.mp hj).1
 have I':=I.mk1 (.ref a) fun _ _=>False
 have LT:Looks (model X.prog X.w) s.heap (typeOf (.ref a)) (.ref C):=by
  intro A' Q' E' s' k z;unfold typeOf;exact zay (wpAny_loadPart (k _ _ e2) (zab z))
 refine wpAny_handleBy_cons (codeAny_handlers_test (jjk (X:=X.mk1 (.ref a) fun _ _=>False) I' hg hm ?_ hdb)) (by intro q;cases q);refine (W.exm_one I.kIn LT hex).here ?_;show codeAny _ _ (.handlers (.ref a) [.ExceptHandler none (some n) [.Assign [.Name y py] (.Name n pn) ypos] hpos] X.env) _ s;refine codeAny_handlers_suite_as (jI3 (X:=X.mk1 (.ref a) fun _ _=>False) I' F fun s1 I1=>?_);refine jh1 (X:=X.mk1 (.ref a) fun _ _=>False) I1 hN hj (.inl hn) (v:=.ref a) rfl (fun s2 I2=>?_) (.inr hn);have hv:(Z.set j (some (V.ref a)))[j]? = some (some (.ref a)):=zcz jl;have PSx:=jnt (jma (X:=X.mk1 (.ref a) fun _ _=>False) (pos:=ypos) (pos':=py) hN hl (.inl hy) (jl9 (pos:=pn) hj (.inl hn) hnd hncd) hs (.inr hy));refine wpAny_mono (PSx U s2 _ H ⟨fun Z' H'=>Z'=(Z.set j (some (.ref a))).set l (some (.ref a))/\H'=H,fun _ _=>False,fun _ _=>False,fun _ _=>False⟩ I2 ⟨_,hv,rfl,rfl⟩) (fun f s3 q=>?_) fun _ _ z=>z.elim
 cases f with
 | brk=>obtain⟨_,_,_,z⟩:=q;exact z.elim
 | cont=>obtain⟨_,_,_,z⟩:=q;exact z.elim
 | ret u=>obtain⟨_,_,_,_,_,z⟩:=q;exact z.elim
 | next =>
  obtain⟨Z3,H3,I3,rfl,rfl⟩:=q;show wpAny _ X.A (do bindName X.env n .none;unbindBehindTheSuite X.env n hpos) (fun _ s₃=>Q .next s₃) E' s3;refine zay (wpAny_bindName (jh1 (I.un1 I3) hN hj (.inl hn) (v:=.non) rfl (fun s4 I4=>?_) (.inr hn)));refine jxk I4 hN hj hn (zcz (by simpa using jl)) fun s5 I5=>k s5 ?_
  rw[List.set_set] at I5;exact I5
end
end L2
namespace L2
open PyProof.Rows
open PySem.W (Frag InstAt Looks findIn mroIn clsIn)
def EX(Er:Addr->Addr->Option Addr->Hp->Prop):XK:=fun v od H=>∃ a C,v=.ref a/\H a=some (XO a C od false)/\Er a C od H
def jBh{X:Cx}{U:qc}{Z:St}{H:Hp}{s:Shared}{a C C':Addr}{od od':Option Addr}{f f':Bool}(I:Inv X U Z H s)(h:H a=some (XO a C od f))(h':H a=some (XO a C' od' f')):C=C':=by
 obtain⟨vs,sl,e,_⟩:=jp1 I h;obtain⟨vs',sl',e',_⟩:=jp1 I h';rw[e] at e';have:=congrArg Obj.cls (zby e');exact Value.ref.inj this
section
variable {X:Cx}{CX:CXT}{k:Nat}{f:Addr}{fd:FuncData}{ps:List Str}{sp:Sp}{E:XK}{e:Expr}
def jG2{U:qc}{Z:St}{H:Hp}{s:Shared}{Q:VK}{us:List Value}{vs:List V}(F:FnOk X.prog X.w X.K X.mg X.base CX k f fd ps sp)(hr:Room k X.A)(hb:Binds X.K fd ps [])(hx:∀ H1 s1 e s',Inv X U Z H1 s1->CX X.stack H1 s1 E e s'->X.xe e s')
  (I:Inv X U Z H s) (r:Vals vs us) (h:sp vs H Q E):wpAny (model X.prog X.w) X.A (call (.ref f) us) (EP X U Z Q) X.xe s:=by
 have hl:(us++[]).length=ps.length:=by rw[List.append_nil,<- r.length];exact F.len _ _ _ _ h
 refine wpAny_call (codeAny_mono (F.run X.A X.stack s H ⟨us,[]⟩ (us++[]) vs Q E hr I.env0 (hb s us I.kIn hl) (by rw[List.append_nil];exact r) h) fun r s' hq=>?_)
 cases r with
 | error e=>exact hx H s e s' I hq
 | ok fl =>
  cases fl with
  | ret u=>exact I.after hq
  | next=>exact False.elim hq
  | brk=>exact False.elim hq
  | cont=>exact False.elim hq
end
end L2
namespace DL
open L2
def xdO(i:Nat):XD:=⟨"",[("",.obj i)]⟩
def errI(x:XD):Option Nat:=match x.fs with
 | [(_,.obj i)]=>some i
 | _=>none
def ErrK(K:W.Frag)(mg:qa)(Jz:Rho)(Sz:qe)(Hz:Hp)(F:qe)(Ω':Sto)(x:XD)(E:XK):Prop :=
 ∀ i a C od J' S' H',errI x=some i->RT Jz Sz Hz F K mg J' S' H' Ω'->J' i=some a->H' a=some (XO a C od false)->E (.ref a) od H'
def OkR(K:W.Frag)(mg:qa)(O' B:List Nat)(Jz:Rho)(Sz:qe)(Hz:Hp)(F:qe)(J:Rho)(Hv:Hp)(Dn:Ends)(E:XK)(r:Except XD Out)(Ω':Sto):Prop:=match r with
 | .ok o=>OkE K mg O' B Jz Sz Hz F J Hv Dn (.ok o) Ω'
 | .error x=>ErrK K mg Jz Sz Hz F Ω' x E
theorem OkR.back{K:W.Frag}{mg:qa}{O' B:List Nat}{Jz J J':Rho}{Sz:qe}{Hz:Hp}{F:qe}{Hv Hv':Hp}{Dn:Ends}{E:XK}{r:Except XD Out}{Ω':Sto}(l:RLe J J')(e:Same Hv Hv')(h:OkR K mg O' B Jz Sz Hz F J Hv Dn E r Ω') :
  OkR K mg O' B Jz Sz Hz F J' Hv' Dn E r Ω':=by
 cases r with
 | error x=>exact h
 | ok o=>exact OkE.back l e h
inductive sR(K:W.Frag)(mg:qa)(O O' B:List Nat)(g:DSt->MS Out)(E:XK)(Dn:Ends)(Z:St)(H:Hp):Prop
 | mk (Jz:Rho) (Sz:qe) (Hz:Hp) (F:qe) (J:Rho) (S:qe) (Y:DSt) (Ω:Sto) (R:RM Jz Sz Hz F K mg O J S H Z Y Ω) (r:Except XD Out) (Ω':Sto) (hf:g Y Ω=some (r,Ω')) (k:OkR K mg O' B Jz Sz Hz F J (hid H (fob (un F S) Z O)) Dn E r Ω')
def MSr(X:Cx)(O O' B:List Nat)(E:XK)(st:Stmt)(g:DSt->MS Out):Prop:=PS X st (sR X.K X.mg O O' B g E)
def MSsr(X:Cx)(O O' B:List Nat)(E:XK)(st:List Stmt)(g:DSt->MS Out):Prop:=PSs X st (sR X.K X.mg O O' B g E)
def Wx(X:Cx)(E:XK):Prop:=∀ U Z e s,Back X U Z E e s->X.xe e s
def jsn(cs:List Str)(i:Nat):MS Out:=fun Ω=>match Ω[i]? with
 | some (.exc c (j,true))=>if cs.contains c then some (.error (xdO i),Ω.set i (.exc c (j,false))) else none
 | _=>none
def jot(cs:List Str)(fa:DSt->MS D):DSt->MS Out:=fun Y=>(fa Y).b fun d=>match d with
 | .obj i=>jsn cs i
 | _=>fun _=>none
inductive RaiseI(cs:List Str)(d:D)(Ω Ω':Sto)(r:Except XD Out):Prop
 | mk (i:Nat) (c:Str) (j:Option Nat) (h1:d=.obj i) (h2:Ω[i]? = some (.exc c (j,true))) (h3:c∈cs) (h4:r=.error (xdO i)) (h5:Ω'=Ω.set i (.exc c (j,false)))
def jws{cs:List Str}{d:D}{Ω Ω':Sto}{r:Except XD Out}(h:(match d with
 | .obj i=>jsn cs i
 | _=>fun _=>none:MS Out) Ω=some (r,Ω')):RaiseI cs d Ω Ω' r:=by
 split at h
 ·rename_i i;unfold jsn at h
  split at h
  ·rename_i c j hi
   split at h
   ·rename_i hc;cases h;exact⟨i,c,j,rfl,hi,zbc.mp hc,rfl,rfl⟩
   ·cases h
  ·cases h
 ·cases h
section
variable {X:Cx}{O O' O'' B:List Nat}{E:XK}{a c e o iter tg:Expr}{fa:DSt->MS D}{fi:DSt->MS (List D)}{pos:Pos}{st:Stmt}{rest:List Stmt}{g g1 g2:DSt->MS Out}{tc:DSt->MS Bool}{cs fs:List Str}{bn:Str}
def ji2(h:MSt X O O' B st g):MSr X O O' B E st g:=by
 rintro U s Z H Dn I ⟨Jz,Sz,Hz,F,J,S,Y,Ω,R,r,Ω',hf,k⟩;refine h U s Z H Dn I ⟨Jz,Sz,Hz,F,J,S,Y,Ω,R,r,Ω',hf,?_⟩
 cases r with
 | ok o=>exact k
 | error x=>trivial
def jC2(h:MSs X O O' B rest g):MSsr X O O' B E rest g:=by
 rintro U s Z H Dn I ⟨Jz,Sz,Hz,F,J,S,Y,Ω,R,r,Ω',hf,k⟩;refine h U s Z H Dn I ⟨Jz,Sz,Hz,F,J,S,Y,Ω,R,r,Ω',hf,?_⟩
 cases r with
 | ok o=>exact k
 | error x=>trivial
def je7(h1:MSr X O O' B E st g1)(h2:MSsr X O' O'' B E rest g2):MSsr X O O'' B E (st::rest) (eSeq g1 g2):=by
 rintro U s Z H Dn I ⟨Jz,Sz,Hz,F,J,S,Y,Ω,R,r,Ω',hf,k⟩;refine jns h1 h2 U s Z H Dn I ?_;rcases MS.b_inv hf with ⟨o,Ω1,e1,hf⟩|⟨x,e1,rfl⟩
 ·refine⟨Jz,Sz,Hz,F,J,S,Y,Ω,R,.ok o,Ω1,e1,?_⟩
  cases o with
  | nx Y'=>exact fun ρ1 S1 Z1 H1 R1 l1 v1=>⟨Jz,Sz,Hz,F,ρ1,S1,Y',Ω1,R1,r,Ω',hf,k.back l1 v1⟩
  | rt d=>cases hf;exact k
  | bk Y'=>cases hf;exact k
  | ct Y'=>cases hf;exact k
 ·exact⟨Jz,Sz,Hz,F,J,S,Y,Ω,R,.error x,_,e1,k⟩
def jcm(h1:MSr X O O' B E st g):MSsr X O O' B E [st] g:=fun U s Z H Dn I h=>jnt h1 U s Z H Dn I h
def jo4{s1 s2:List Stmt}(hc:MT X O c tc)(h1:MSsr X O O' B E s1 g1)(h2:MSsr X O O' B E s2 g2):MSr X O O' B E (.If c s1 s2 pos) (eIf tc g1 g2):=by
 rintro U s Z H Dn I ⟨Jz,Sz,Hz,F,J,S,Y,Ω,R,r,Ω',hg,k⟩;refine jDp hc h1 h2 U s Z H Dn I ?_;rcases MS.b_inv hg with ⟨z,Ω1,e1,hg⟩|⟨x,e1,rfl⟩
 ·refine⟨Jz,Sz,Hz,F,J,S,Y,Ω,R,.ok z,_,e1,fun ρ1 S1 H1 R1 l1 v1=>?_⟩
  cases z with
  | true=>exact iteT ⟨Jz,Sz,Hz,F,ρ1,S1,Y,Ω1,R1,r,Ω',hg,k.back l1 v1⟩
  | false=>exact iteF ⟨Jz,Sz,Hz,F,ρ1,S1,Y,Ω1,R1,r,Ω',hg,k.back l1 v1⟩
 ·exact⟨Jz,Sz,Hz,F,J,S,Y,Ω,R,.error x,_,e1,trivial⟩
def jvq{body:List Stmt}{h:D->DSt->Option DSt}(hp:PassesOwn (model X.prog X.w) X.A X.env X.xe)(hc:X.calm=true)(hi:MI X O tg iter fi)(hg:DG X O tg h)(hb:MSsr X O O O E body g)
  (hs:∀ x,foldedSetIterable iter X.env x=pure x:=by intro _;rfl):MSr X O O B E (.For tg iter body [] pos) (eFor fi h g):=by
 rintro U s Z H Dn I ⟨Jz,Sz,Hz,F,J,S,Y,Ω,R,r,Ω',hgf,k⟩;refine jwl hp hc hi hg hb hs U s Z H Dn I ?_;rcases MS.b_inv hgf with ⟨ds,Ω1,e1,hgf⟩|⟨y,e1,rfl⟩
 ·refine⟨Jz,Sz,Hz,F,J,S,Y,Ω,R,.ok ds,Ω1,e1,fun Jq ρ1 S1 H1 R1 l1 v1 it=>?_⟩;refine⟨fun i m Z' H'=>m=ds.length-i/\i<=ds.length/\∃ J' S' Y' Ω2,RM Jz Sz Hz F X.K X.mg O J' S' H' Z' Y' Ω2/\RLe ρ1 J'/\Same (hid H1 (fob (un F S1) Z O)) (hid H' (fob (un F S') Z' O))/\forE g h (ds.drop i) Y' Ω2=some (r,Ω'),
   ⟨ds.length,by simp,Nat.zero_le _,ρ1,S1,Y,Ω1,R1,RLe.refl _,Same.refl _,hgf⟩,?_⟩
  rintro i m Z' H' ⟨rfl,hil,J',S',Y',Ω2,R',l',f',hr⟩;obtain⟨j1,j2⟩:=it H' (fob (un F S') Z' O) i f' (fun p hp=>R'.fresh hp)
  by_cases hlt:i<ds.length
  ·obtain⟨go,yld⟩:=j1 hlt;refine .inr ⟨go,fun Z2 H2=>∃ ρ2 S2 Y2 Ω3,RM Jz Sz Hz F X.K X.mg O ρ2 S2 H2 Z2 Y2 Ω3/\RLe ρ1 ρ2/\Same (hid H1 (fob (un F S1) Z O)) (hid H2 (fob (un F S2) Z2 O))/\forE g h (ds.drop (i+1)) Y2 Ω3=some (r,Ω'),fun Z2 H2 ⟨ρ2,S2,Y2,Ω3,a1,a2,a3,a4⟩=>⟨ds.length-(i+1),by omega,rfl,hlt,ρ2,S2,Y2,Ω3,a1,a2,a3,a4⟩,fun x H2 y=>?_⟩;obtain⟨s2,d,hd,rd⟩:=yld x H2 y;have hdr:ds.drop i=d::ds.drop (i+1):=by
    rw[List.drop_eq_getElem_cons hlt];have:ds[i]=d:=by rw[zax hlt] at hd;exact zby hd
    rw[this]
   rw[hdr] at hr;unfold forE at hr
   cases e2:h d Y' with
   | none=>rw[e2] at hr;cases hr
   | some Y1 =>
    rw[e2] at hr;dsimp only at hr;have R2:=R'.mono s2;have f2:Same (hid H1 (fob (un F S1) Z O)) (hid H2 (fob (un F S') Z' O)):=f'.trans (jaq s2);refine⟨J',_,un F S',Y',d,Y1,R2.rs,rd.rho l',e2,fun Z3 ef R3=>?_⟩;have R3':RM Jz Sz Hz F X.K X.mg O J' S' H2 Z3 Y1 Ω2:=R2.next R3 (by rw[ef];exact Same.refl _);rcases MS.b_inv hr with ⟨o,Ω3,e3,hr⟩|⟨y,e3,rfl⟩
    ·refine⟨Jz,Sz,Hz,F,J',S',Y1,Ω2,R3',.ok o,Ω3,e3,?_⟩;rw[ef]
     cases o with
     | nx Y4=>exact fun J4 S4 Z4 H4 R4 l4 v4=>⟨J4,S4,Y4,Ω3,R4,l'.trans l4,f2.trans v4,hr⟩
     | ct Y4=>exact fun J4 S4 Z4 H4 R4 l4 v4=>⟨J4,S4,Y4,Ω3,R4,l'.trans l4,f2.trans v4,hr⟩
     | bk Y4=>cases hr;exact fun J4 S4 Z4 H4 R4 l4 v4=>k J4 S4 Z4 H4 R4 (l1.trans (l'.trans l4)) (v1.trans (f2.trans v4))
     | rt v=>cases hr;exact k
    ·exact⟨Jz,Sz,Hz,F,J',S',Y1,Ω2,R3',.error y,_,e3,k⟩
  ·have ei:i=ds.length:=by omega
   subst ei;rw[List.drop_length] at hr;cases hr;exact .inl ⟨j2 rfl,k J' S' Z' H' R' (l1.trans l') (v1.trans f')⟩
 ·exact⟨Jz,Sz,Hz,F,J,S,Y,Ω,R,.error y,_,e1,trivial⟩
def jo5(T:ErrT X.K X.mg cs fs bn)(hc:X.calm=true)(hx:Wx X E)(ha:ME X O e fa):MSr X O O' B E (.Raise (some e) none pos) (jot cs fa):=by
 rintro U s Z H Dn I ⟨Jz,Sz,Hz,F,J,S,Y,Ω,R,r,Ω',hg,k⟩;refine jzi ha hc U s Z H Dn I ?_;rcases MS.b_inv hg with ⟨d,Ω1,e1,hg⟩|⟨x,e1,rfl⟩
 ·refine⟨Jz,Sz,Hz,F,J,S,Y,Ω,R,.ok d,Ω1,e1,fun v ρ1 S1 H1 R1 l1 v1 r1=>?_⟩;obtain⟨i,c,j,rfl,hi,hcs,rfl,rfl⟩:=jws hg;obtain⟨ad,q1,q2⟩:=rep_obj.mp r1;obtain⟨ad',p1,p2,p3⟩:=R1.sto.ats i _ hi;rw[q1] at p1;cases p1
  have fin:∀ C od,X.mg c=some (.ref C)->H1 ad=some (XO ad C od true)->SOk ρ1 S1 X.K X.mg (upd H1 ad (XO ad C od false)) (hid H1 (fob (un F S1) Z O)) ad (.exc c (j,false)) ->
    ∃ a C od,v=.ref a/\H1 a=some (XO a C od true)/\XCls X.K C/\∀ U s,Inv X U Z (upd H1 a (XO a C od false)) s->Fly (upd H1 a (XO a C od false)) a C od s->X.xe (.ref a) s:=fun C od g1 g2 g3=>by
   refine⟨ad,C,od,q2,g2,T.cls c hcs C g1,fun pins' s' Jq Fl=>?_⟩;obtain⟨w1,w2⟩:=R1.putS (so':=.exc c (j,false)) (o':=XO ad C od false) hi q1 p2 g2 jBi g3;exact hx pins' Z _ s' ⟨ad,C,od,_,_,rfl,Jq,Fl,fun _ _ z=>z,k i ad C od ρ1 S1 _ rfl w1.rt q1 jam⟩
  cases p3 with
  | no f C g1 g2=>exact fin C none g1 g2 (ExcOk.no false C g1 jam)
  | yes f j C dx g1 g2 g3=>exact fin C (some dx) g1 g3 (ExcOk.yes false j C dx g1 g2 jam)
 ·exact⟨Jz,Sz,Hz,F,J,S,Y,Ω,R,.error x,_,e1,trivial⟩
end
inductive spR(K:W.Frag)(mg:qa)(n:Nat)(m:List D->MS D)(vs:List V)(H:Hp)(Q:VK)(E:XK):Prop
 | mk (hn:vs.length=n) (J:Rho) (S F:qe) (ds:List D) (Ω:Sto) (hF:∀ b,F b=true->H b≠none) (hS:∀ b,F b=true->S b=false) (hr:Reps J K (hid H (un F S)) ds vs) (hs:StoOk J S K mg H (hid H (un F S)) Ω) (r:Except XD D) (Ω':Sto) (hf:m ds Ω=some (r,Ω')) (k:match (generalizing:=false) r with
  | .ok d=>∀ v J' S' H',RT J S H F K mg J' S' H' Ω'->Rep J' K (hid H' (un F S')) d v->Q v H'
  | .error x=>ErrK K mg J S H F Ω' x E)
inductive CalY(P:Program)(w:World)(K:W.Frag)(mg:qa)(base:Heap)(k:Nat)(x:Str)(n:Nat)(sp:Sp):Prop
 | mk (f:Addr) (fd:FuncData) (ps:List Str) (h1:ps.length=n) (h2:mg x=some (.ref f)) (h3:W.keepIn K (.ref f)=true) (h4:Binds K fd ps []) (h5:FnOk P w K mg base (CX1 P w) k f fd ps sp)
inductive MetY(P:Program)(w:World)(K:W.Frag)(mg:qa)(base:Heap)(k:Nat)(c x:Str)(n:Nat)(sp:Sp):Prop
 | mk (C f:Addr) (fd:FuncData) (ps:List Str) (h1:ps.length=n) (h2:mg c=some (.ref C)) (h3:Cls K C) (h4:Meth K C x f) (h5:Binds K fd ps []) (h6:FnOk P w K mg base (CX1 P w) k f fd ps sp)
structure CalR(P:Program)(w:World)(K:W.Frag)(mg:qa)(base:Heap)(k:Nat)(x:Str)(n:Nat)(m:List D->MS D):Prop where
 ex:CalY P w K mg base k x n (spR K mg n m)
 ar:∀ ds Ω r,m ds Ω=some r->ds.length=n
structure MetR(P:Program)(w:World)(K:W.Frag)(mg:qa)(base:Heap)(k:Nat)(c x:Str)(n:Nat)(m:List D->MS D):Prop where
 ex:MetY P w K mg base k c x n (spR K mg n m)
 ar:∀ ds Ω r,m ds Ω=some r->ds.length=n
section
variable {P:Program}{w:World}{K:W.Frag}{mg:qa}{base:Heap}
def jt6{N:List Str}{qual:Str}{scope:Scope}{f:Addr}{cd:Value}{A:Around}{outer:List Env}{s:Shared}{H:Hp}{E:XK}:Wx (cxOf (CX1 P w) P w K mg base N qual scope f cd A outer s H E) E:=fun _ _ _ _ B=>jFv B
def fn_R{x q:Str}{st:Stmt}{N ps:List Str}{k:Nat}{O':List Nat}{g:DSt->MS Out}{f:Addr}{fd:FuncData}(F:Fun K x q st f fd)(Sc:FnScope N ps (jad st))
  (hbody:∀ (f:Addr) (cdv:Value) (A:Around) (outer:List Env) (s:Shared) (H:Hp) (E:XK),Room k (A.deeper (PyProof.Rows.envOfC q (jad st) s.heap.objs.size f cdv)) ->
   MSsr (cxOf (CX1 P w) P w K mg base N q (jad st) f cdv A outer s H E) [] O' [] E (jar st) g):FnOk P w K mg base (CX1 P w) (k+1) f fd ps (spR K mg ps.length (mirE ps.length N.length g)):=by
 obtain⟨oc,od,kV,doc,pm,an,cdv,ct,osl,rfl,lk,hcd⟩:=F.ex;refine jFh lk hcd Sc (fun vs H Q E h=>h.1) fun A outer s H vs Q E hr h=>?_
 obtain⟨hl,J,S,F',ds,Ω,fin,ff,rp,sto,r,Ω',hmr,k0⟩:=h;refine⟨_,hbody f cdv A outer s H E hr,?_⟩;have hpl:ps.length<=N.length:=by have:=congrArg List.length Sc.pre;rw[List.length_take] at this;omega
 have hdl:ds.length=ps.length:=by rw[<- rp.length];exact hl
 unfold mirE at hmr;rw[if_pos hdl] at hmr;have R:RM J S H F' K mg [] J S H (L2.start N vs) (startD N.length ds) Ω:=by
  refine⟨⟨?_,jao,fun b hb=>?_,fun i d hd _=>?_,fun i hi=>absurd hi (by simp),fun i hi=>absurd hi (by simp)⟩,RLe.refl _,fun b o _ h=>h,fun b h=>h,fun b h=>.inl h,fun i hi=>absurd hi (by simp),ff,by rw[jgd];exact sto⟩
  ·simp[L2.start,startD,rp.length]
  ·rcases un_t.mp hb with z|z
   ·exact fin b z
   ·exact sto.fin b z
  ·obtain⟨v,e,rv⟩:=rp.get (jjw hd);exact⟨v,jli e,by rw[jgd];exact rv⟩
 rcases MS.b_inv hmr with ⟨o,Ω1,e1,hmr⟩|⟨y,e1,rfl⟩
 ·refine⟨J,S,H,F',J,S,_,Ω,R,.ok o,Ω1,e1,?_⟩
  cases o with
  | rt d =>
   cases hmr;exact fun v J' S' H' T rv=>k0 v J' S' H' T rv
  | nx Y =>
   cases hmr;exact fun J' S' Z' H' R' _ _=>k0 .non J' S' H' R'.rt (rep_non.mpr rfl)
  | bk Y=>cases hmr
  | ct Y=>cases hmr
 ·exact⟨J,S,H,F',J,S,_,Ω,R,.error y,_,e1,k0⟩
def jp6{x:Str}{st:Stmt}{N ps:List Str}{k:Nat}{O':List Nat}{g:DSt->MS Out}(hf:jcw K mg x st ps)(S:FnScope N ps (jad st))
  (hbody:∀ (f:Addr) (cdv:Value) (A:Around) (outer:List Env) (s:Shared) (H:Hp) (E:XK),Room k (A.deeper (PyProof.Rows.envOfC x (jad st) s.heap.objs.size f cdv)) ->
   MSsr (cxOf (CX1 P w) P w K mg base N x (jad st) f cdv A outer s H E) [] O' [] E (jar st) g):CalR P w K mg base (k+1) x ps.length (mirE ps.length N.length g):=by
 obtain⟨f,fd,hm,F,hb⟩:=hf;exact⟨⟨f,fd,ps,rfl,hm,F.kp,hb,fn_R F S hbody⟩,jjp⟩
def jCy{c x q:Str}{st:Stmt}{N ps:List Str}{k:Nat}{O':List Nat}{g:DSt->MS Out}(hf:MetAt K mg c x q st ps)(S:FnScope N ps (jad st))
  (hbody:∀ (f:Addr) (cdv:Value) (A:Around) (outer:List Env) (s:Shared) (H:Hp) (E:XK),Room k (A.deeper (PyProof.Rows.envOfC q (jad st) s.heap.objs.size f cdv)) ->
   MSsr (cxOf (CX1 P w) P w K mg base N q (jad st) f cdv A outer s H E) [] O' [] E (jar st) g):MetR P w K mg base (k+1) c x ps.length (mirE ps.length N.length g):=by
 obtain⟨C,f,fd,hm,hc,hM,F,hb⟩:=hf.ex;exact⟨⟨C,f,fd,ps,rfl,hm,hc,hM,hb,fn_R F S hbody⟩,jjp⟩
end
section
variable {X:Cx}{O:List Nat}{E:XK}{a b e:Expr}{x:Str}{k n:Nat}
variable {Jz J:Rho}{Sz S F:qe}{Hz H:Hp}{Z:St}{Y:DSt}{Ω Ω':Sto}
def jBc{m:List D->MS D}{ds:List D}{vs:List V}{r:Except XD D}{Q:VK}(R:RM Jz Sz Hz F X.K X.mg O J S H Z Y Ω)(hl:ds.length=n)(hr:Reps J X.K (hid H (fob (un F S) Z O)) ds vs)(hm:m ds Ω=some (r,Ω'))
  (k:match (generalizing:=false) r with
   | .ok d=>∀ v J' S' H',RM Jz Sz Hz F X.K X.mg O J' S' H' Z Y Ω'->RLe J J'->Same (hid H (fob (un F S) Z O)) (hid H' (fob (un F S') Z O))->Rep J' X.K (hid H' (fob (un F S') Z O)) d v->Q v H'
   | .error x=>∀ i a C od J' S' H',errI x=some i->RM Jz Sz Hz F X.K X.mg O J' S' H' Z Y Ω'->RLe J J'->Same (hid H (fob (un F S) Z O)) (hid H' (fob (un F S') Z O))->J' i=some a->H' a=some (XO a C od false)->E (.ref a) od H'):spR X.K X.mg n m vs H Q E:=by
 refine⟨by rw[hr.length];exact hl,J,S,fob F Z O,ds,Ω,fun b hb=>?_,fun b hb=>?_,by rw[jf3];exact hr,by rw[jf3];exact R.sto,r,Ω',hm,?_⟩
 ·intro z;have:=R.fresh z;rw[<- jf3,un_t.mpr (.inl hb)] at this;cases this
 ·rcases fob_t.mp hb with z|z
  ·exact R.ff b z
  ·cases e:S b with
   | false=>rfl
   | true=>exact absurd z (R.base_S e)
 ·cases r with
  | error x =>
   intro i a C od J' S' H' hx T hρ hH;obtain⟨t1,t2⟩:=R.call T.rho T.same T.old T.new T.ff T.sto;exact k i a C od J' S' H' hx t1 T.rho t2 hρ hH
  | ok d =>
   intro v J' S' H' T rv;obtain⟨t1,t2⟩:=R.call T.rho T.same T.old T.new T.ff T.sto;rw[jf3] at rv;exact k v J' S' H' t1 T.rho t2 rv
end
structure ErrM(K:W.Frag)(mg:qa)(cs:List Str)(b:Str):Prop where
 atb:∃ C,mg b=some (.ref C)
 ex:∀ c∈cs,∀ C,mg c=some (.ref C)->∀ D,mg b=some (.ref D)->W.exmOne K (.ref C) (.ref D)=some true
def jH3(K:W.Frag)(es:List (Str×Addr))(B:Addr):Bool:=es.all fun p=>W.exmOne K (.ref p.2) (.ref B) == some true
def jCc{K:W.Frag}{mg:qa}{es:List (Str×Addr)}{B:Addr}{b:Str}(hm:∀ p∈es,mg p.1=some (.ref p.2))(hb:mg b=some (.ref B))(h:jH3 K es B=true):ErrM K mg (es.map (·.1)) b:=by
 refine⟨⟨B,hb⟩,fun c hc C hC D hD=>?_⟩;rw[hb] at hD;cases hD;obtain⟨p,hp,rfl⟩:=List.mem_map.mp hc;rw[hm p hp] at hC;cases hC;exact beq_iff_eq.mp (List.all_eq_true.mp h p hp)
def jrf(cs:List Str)(j l:Nat)(Y:DSt)(y:XD)(Ω':Sto):Option (Except XD Out×Sto):=match errI y with
 | some q=>match Ω'[q]? with
  | some (.exc c (_,false))=>if cs.contains c then some (.ok (.nx (((Y.set j (some (.obj q))).set l (some (.obj q))).set j none)),Ω') else none
  | _=>none
 | none=>none
inductive CaughtI(cs:List Str)(j l:Nat)(Y:DSt)(y:XD)(Ω Ω':Sto)(r:Except XD Out):Prop
 | mk (q:Nat) (c:Str) (jj:Option Nat) (h1:errI y=some q) (h2:Ω[q]? = some (.exc c (jj,false))) (h3:c∈cs) (h4:r=.ok (.nx (((Y.set j (some (.obj q))).set l (some (.obj q))).set j none))) (h5:Ω'=Ω)
def js7{cs:List Str}{j l:Nat}{Y:DSt}{y:XD}{Ω Ω':Sto}{r:Except XD Out}(h:jrf cs j l Y y Ω=some (r,Ω')):CaughtI cs j l Y y Ω Ω' r:=by
 unfold jrf at h
 split at h
 ·rename_i q hq
  split at h
  ·rename_i c jj hi
   split at h
   ·rename_i hc;cases h;exact⟨q,c,jj,hq,hi,zbc.mp hc,rfl,rfl⟩
   ·cases h
  ·cases h
 ·cases h
section
variable {Jz J:Rho}{Sz S F:qe}{Hz H:Hp}{K:W.Frag}{mg:qa}{O:List Nat}{Z:St}{Y:DSt}{Ω:Sto}
def jfs{F:qe}{j:Nat}(h:j∉O):fob F (Z.set j none) O=fob F Z O:=by
 funext b
 rw[Bool.eq_iff_iff,fob_t,fob_t];refine or_congr Iff.rfl ⟨?_,?_⟩
 ·rintro⟨i,hi,q⟩;rw[zbw (by rintro rfl;exact h hi)] at q;exact⟨i,hi,q⟩
 ·rintro⟨i,hi,q⟩;exact⟨i,hi,by rw[zbw (by rintro rfl;exact h hi)];exact q⟩
def RM.unset(R:RM Jz Sz Hz F K mg O J S H Z Y Ω){j:Nat}(ho:j∉O):RM Jz Sz Hz F K mg O J S H (Z.set j none) (Y.set j none) Ω:=by
 have ne:∀ i∈O,j≠i:=fun i hi e=>ho (e ▸ hi)
 refine⟨⟨by simp[R.rs.len],?_,R.rs.fin,fun i d hd hi=>?_,fun i hi=>?_,fun i hi k hk a q1 q2=>?_⟩,R.rho,R.same,R.old,R.new,fun i hi a q=>?_,R.ff,by rw[jfs ho];exact R.sto⟩
 ·rw[jfs ho];exact R.rs.same
 ·rw[jfs ho];have hij:j≠i:=fun z=>by
   subst z
   by_cases q:j<Y.length
   ·rw[zcz q] at hd;cases hd
   ·rw[List.getElem?_eq_none (by simpa using q)] at hd;cases hd
  rw[zbw hij] at hd |-
  exact R.rs.val i d hd hi
 ·rw[zbw (ne i hi),zbw (ne i hi),jfs ho,jfs ho];exact R.rs.own i hi
 ·rw[zbw (ne i hi)] at q1;rw[zbw (ne k hk)] at q2;exact R.rs.nd i hi k hk a q1 q2
 ·rw[zbw (ne i hi)] at q;exact R.own0 i hi a q
end
section
variable {X:Cx}{O:List Nat}{E:XK}{fo:DSt->MS D}{fl:DSt->MS (List D)}{x c:Str}{k n:Nat}
variable {Jz J:Rho}{Sz S F:qe}{Hz H:Hp}{Z:St}{Y:DSt}{Ω Ω':Sto}
def jyu{m:List D->MS D}{Ca:Addr}{r:Except XD D}{Q:VK}(hm:X.mg c=some (.ref Ca))(ar:∀ ds Ω r,m ds Ω=some r->ds.length=n)(R:RM Jz Sz Hz F X.K X.mg O J S H Z Y Ω)(hf:jj7 c x m fo fl Y Ω=some (r,Ω'))
  (k:match (generalizing:=false) r with
   | .ok d=>∀ v J' S' H',RM Jz Sz Hz F X.K X.mg O J' S' H' Z Y Ω'->RLe J J'->Same (hid H (fob (un F S) Z O)) (hid H' (fob (un F S') Z O))->Rep J' X.K (hid H' (fob (un F S') Z O)) d v->Q v H'
   | .error y=>∀ i a C od J' S' H',errI y=some i->RM Jz Sz Hz F X.K X.mg O J' S' H' Z Y Ω'->RLe J J'->Same (hid H (fob (un F S) Z O)) (hid H' (fob (un F S') Z O))->J' i=some a->H' a=some (XO a C od false)->E (.ref a) od H'):jEc Ca x (spR X.K X.mg n m) [] E (tE X.K X.mg O fo) (tEL X.K X.mg O fl) Z H Q:=by
 rcases MS.b_inv hf with ⟨od,Ω1,e1,hf⟩|⟨y,e1,rfl⟩
 ·refine⟨Jz,Sz,Hz,F,J,S,Y,Ω,R,.ok od,Ω1,e1,fun v ρ1 S1 H1 R1 l1 v1 r1=>?_⟩;obtain⟨i,fs,rfl,hi,hno,hf2⟩:=jne hf;obtain⟨ad,q1,q2⟩:=rep_obj.mp r1;obtain⟨ad',p1,p2,C',dx,vfs,p3,p4,p5,p6,p7⟩:=R1.sto.ats i _ hi;rw[q1] at p1;cases p1
  rw[hm] at p3;cases p3
  refine⟨ad,dx,vfs,q2,p4,p7.none hno,?_⟩;rcases MS.b_inv hf2 with ⟨ds,Ω2,e2,hf3⟩|⟨y,e2,rfl⟩
  ·refine⟨Jz,Sz,Hz,F,ρ1,S1,Y,Ω1,R1,.ok ds,Ω2,e2,fun vs ρ2 S2 H2 R2 l2 v2 r2=>?_⟩;show spR X.K X.mg n m (v::(vs++[])) H2 Q E;rw[List.append_nil];refine jBc R2 (ar _ _ _ hf3) (Reps.cons ((r1.rho l2).mono v2) r2) hf3 ?_
   cases r with
   | error y=>exact fun i a C od J3 S3 H3 he R3 l3 v3 hρ hH=>k i a C od J3 S3 H3 he R3 (l1.trans (l2.trans l3)) (v1.trans (v2.trans v3)) hρ hH
   | ok d=>exact fun v' J3 S3 H3 R3 l3 v3 r3=>k v' J3 S3 H3 R3 (l1.trans (l2.trans l3)) (v1.trans (v2.trans v3)) r3
  ·exact⟨Jz,Sz,Hz,F,ρ1,S1,Y,Ω1,R1,.error y,_,e2,trivial⟩
 ·exact⟨Jz,Sz,Hz,F,J,S,Y,Ω,R,.error y,_,e1,trivial⟩
end
end DL
namespace L2
open PyProof.Rows
open PySem.W (Frag InstAt Looks findIn mroIn clsIn)
section
variable {X:Cx}{CX:CXT}{k:Nat}{f:Addr}{fd:FuncData}{ps:List Str}{sp:Sp}{E:XK}{x:Str}{p pos:Pos}{e:Expr}{es:List Expr}{t:TA}
def jFi{U:qc}{Z:St}{H:Hp}{s:Shared}{Q:VK}(F:FnOk X.prog X.w X.K X.mg X.base CX k f fd ps sp)(hr:Room k X.A)(hg:Gl X x)(hm:X.mg x=some (.ref f))(hk:W.keepIn X.K (.ref f)=true)(hb:Binds X.K fd ps [])
  (hx:∀ H1 s1 e s',Inv X U Z H1 s1->CX X.stack H1 s1 E e s'->X.xe e s') (ha:PA X (e::es) t) (hdb:(x == ("__debug__":Str))=false) (he:zsE e es X.env) (hpl:zbT pos es X.env)
  (I:Inv X U Z H s) (h:jzv sp [] E t Z H Q):wpAny (model X.prog X.w) X.A (eval (.Call (.Name x p) (e::es) [] pos) X.env) (EP X U Z Q) X.xe s:=by
 refine wpAny_Call_Name_kw (jjk I hg hm ?_ hdb);refine W.callWith_K (h₀:=X.base) I.ok.mod.kin hk (thn (ha pos U s Z H _ I h) fun us s1 ⟨vs,H1,I1,r,q⟩=>⟨I1.kIn,?_⟩) he hpl;have q3:sp (vs++[]) H1 Q E:=q;rw[List.append_nil] at q3;exact jG2 F hr hb hx I1 r q3
end
end L2
namespace DL
open L2
section
variable {X:Cx}{O:List Nat}{E:XK}{fl:DSt->MS (List D)}{pos:Pos}{x:Str}{k n:Nat}
variable {Jz J:Rho}{Sz S F:qe}{Hz H:Hp}{Z:St}{Y:DSt}{Ω Ω':Sto}
def jmp{m:List D->MS D}{r:Except XD D}{Q:VK}(ar:∀ ds Ω r,m ds Ω=some r->ds.length=n)(R:RM Jz Sz Hz F X.K X.mg O J S H Z Y Ω)(hf:jgj m fl Y Ω=some (r,Ω'))
  (k:match (generalizing:=false) r with
   | .ok d=>∀ v J' S' H',RM Jz Sz Hz F X.K X.mg O J' S' H' Z Y Ω'->RLe J J'->Same (hid H (fob (un F S) Z O)) (hid H' (fob (un F S') Z O))->Rep J' X.K (hid H' (fob (un F S') Z O)) d v->Q v H'
   | .error y=>∀ i a C od J' S' H',errI y=some i->RM Jz Sz Hz F X.K X.mg O J' S' H' Z Y Ω'->RLe J J'->Same (hid H (fob (un F S) Z O)) (hid H' (fob (un F S') Z O))->J' i=some a->H' a=some (XO a C od false)->E (.ref a) od H'):jzv (spR X.K X.mg n m) [] E (tEL X.K X.mg O fl) Z H Q:=by
 rcases MS.b_inv hf with ⟨ds,Ω2,e2,hf3⟩|⟨y,e2,rfl⟩
 ·refine⟨Jz,Sz,Hz,F,J,S,Y,Ω,R,.ok ds,Ω2,e2,fun vs ρ2 S2 H2 R2 l2 v2 r2=>?_⟩;show spR X.K X.mg n m (vs++[]) H2 Q E;rw[List.append_nil];refine jBc R2 (ar _ _ _ hf3) r2 hf3 ?_
  cases r with
  | error y=>exact fun i a C od J3 S3 H3 he R3 l3 v3 hρ hH=>k i a C od J3 S3 H3 he R3 (l2.trans l3) (v2.trans v3) hρ hH
  | ok d=>exact fun v' J3 S3 H3 R3 l3 v3 r3=>k v' J3 S3 H3 R3 (l2.trans l3) (v2.trans v3) r3
 ·exact⟨Jz,Sz,Hz,F,J,S,Y,Ω,R,.error y,_,e2,trivial⟩
def jCu(fa:DSt->MS D):DSt->MS D:=fun Y=>(fa Y).b fun x=>MS.o (gNot x)
def jF3{a:Expr}{fa:DSt->MS D}(ha:ME X O a fa):ME X O (.UnaryOp .Not a pos) (jCu fa):=by
 rintro U s Z H Q I ⟨Jz,Sz,Hz,F,J,S,Y,Ω,R,r,Ω',hf,k⟩;refine jAu ha U s Z H Q I ?_;rcases MS.b_inv hf with ⟨x,Ω1,e1,hf⟩|⟨x,e1,rfl⟩
 ·refine⟨Jz,Sz,Hz,F,J,S,Y,Ω,R,.ok x,Ω1,e1,fun u ρ1 S1 H1 R1 l1 v1 r1=>?_⟩;obtain⟨z,hz,rfl,rfl⟩:=MS.o_inv hf
  cases x with
  | bl c=>cases hz;exact⟨c,rep_bl.mp r1,k _ ρ1 S1 H1 R1 l1 v1 (rep_bl.mpr rfl)⟩
  | _=>cases hz
 ·exact⟨Jz,Sz,Hz,F,J,S,Y,Ω,R,.error x,_,e1,trivial⟩
end
section
end
def rs1(Ω:Sto):D->Option D
 | .obj i=>match Ω[i]? with
  | some (.lst ds)=>some (.lst ds)
  | _=>none
 | d=>some d
def rsL(Ω:Sto):List D->Option (List D)
 | []=>some []
 | d::ds=>(rs1 Ω d).bind fun x=>(rsL Ω ds).map fun xs=>x::xs
def rsT(Ω:Sto):D->Option D
 | .tup ds=>(rsL Ω ds).map .tup
 | d=>rs1 Ω d
section
variable {Jz J:Rho}{Sz S F:qe}{Hz H Hw:Hp}{K:W.Frag}{mg:qa}{O:List Nat}{Z:St}{Y:DSt}{Ω:Sto}
theorem RM.rs1(R:RM Jz Sz Hz F K mg O J S H Z Y Ω)(hw:Same (hid H (fob (un F S) Z O)) Hw)(hS:∀ b ys,S b=true->H b=some (.lst ys)->Hw b=some (.lst ys)){d x:D}{v:V}(h:rs1 Ω d=some x)(r:Rep J K (hid H (fob (un F S) Z O)) d v):Rep J K Hw x v:=by
 cases d with
 | obj i =>
  unfold DL.rs1 at h;dsimp only at h
  split at h
  ·rename_i ds hi;cases h;obtain⟨ad,q1,q2⟩:=rep_obj.mp r;obtain⟨ad',p1,p2,xs,p3,p4⟩:=R.sto.ats i _ hi;rw[q1] at p1;cases p1
   exact rep_lst.mpr ⟨ad,xs,q2,SqL.of (hS _ _ p2 p3),p4.mono hw⟩
  ·cases h
 | _=>cases h;exact r.mono hw
theorem RM.rsL(R:RM Jz Sz Hz F K mg O J S H Z Y Ω)(hw:Same (hid H (fob (un F S) Z O)) Hw)(hS:∀ b ys,S b=true->H b=some (.lst ys)->Hw b=some (.lst ys)):∀ {ds xs:List D} {vs:List V},rsL Ω ds=some xs->Reps J K (hid H (fob (un F S) Z O)) ds vs->Reps J K Hw xs vs
 | [],xs,vs,h,r=>by
  cases h;rw[reps_nil.mp r];exact Reps.nil
 | d::ds,xs,vs,h,r=>by
  unfold DL.rsL at h;obtain⟨x,f1,h⟩:=Option.bind_eq_some_iff.mp h;obtain⟨xs',f2,rfl⟩:=Option.map_eq_some_iff.mp h;obtain⟨v,r',rfl,q1,q2⟩:=reps_cons.mp r;exact Reps.cons (R.rs1 hw hS f1 q1) (R.rsL hw hS f2 q2)
theorem RM.rsT(R:RM Jz Sz Hz F K mg O J S H Z Y Ω)(hw:Same (hid H (fob (un F S) Z O)) Hw)(hS:∀ b ys,S b=true->H b=some (.lst ys)->Hw b=some (.lst ys)){d x:D}{v:V}(h:rsT Ω d=some x)(r:Rep J K (hid H (fob (un F S) Z O)) d v):Rep J K Hw x v:=by
 cases d with
 | tup ds =>
  unfold DL.rsT at h;obtain⟨xs,f,rfl⟩:=Option.map_eq_some_iff.mp h;obtain⟨a,ys,rfl,q1,q2⟩:=rep_tup.mp r;exact rep_tup.mpr ⟨a,ys,rfl,jde hw q1,R.rsL hw hS f q2⟩
 | _=>unfold DL.rsT at h;exact R.rs1 hw hS h r
end
def jIw:D->Bool
 | .tup ds=>ds.all scalD
 | d=>scalD d
theorem jpt{J:Rho}{K:W.Frag}{H H':Hp}:∀ {ds:List D} {vs:List V},ds.all scalD=true->Reps J K H ds vs->Reps J K H' ds vs
 | [],vs,_,r=>by rw[reps_nil.mp r];exact Reps.nil
 | d::ds,vs,h,r=>by
  rw[List.all_cons,Bool.and_eq_true] at h;obtain⟨v,r',rfl,q1,q2⟩:=reps_cons.mp r;exact Reps.cons (jny h.1 q1) (jpt h.2 q2)
def jyj:Option HO->Bool
 | some (.lst _)=>true
 | _=>false
def unl(F S:qe)(H:Hp):qe:=fun b=>un F S b&&!jyj (H b)
def jEk{F S:qe}{H:Hp}{b:Addr}(h:unl F S H b=true):un F S b=true:=by
 unfold unl at h;rw[Bool.and_eq_true] at h;exact h.1
def jG0{H H':Hp}{q:Addr}{xs:List V}(h:Rd H q (.tup xs))(k:∀ o,(∀ ys,o≠.lst ys)->H q=some o->H' q=some o):Rd H' q (.tup xs):=by
 rcases h with h|⟨o,h⟩
 ·exact .inl (k _ (fun _ z=>nomatch z) h)
 ·exact .inr ⟨o,k _ (fun _ z=>nomatch z) h⟩
def jiz(i:Nat)(f:DSt->M D):DSt->MS D:=fun Y Ω=>match (Y[i]?).join with
 | some d=>match rsT Ω d with
  | some d'=>MS.l ((f (Y.set i (some d'))).b fun x=>if jIw x=true then M.p x else none) Ω
  | none=>none
 | none=>none
section
variable {X:Cx}{O B:List Nat}{a b c e o tg:Expr}{es:List Expr}{fa:DSt->MS D}{pos:Pos}
def jr5{i:Nat}{f:DSt->M D}(ho:O.contains i=false)(h:DE X O E0 e f):ME X O e (jiz i f):=by
 rintro U s Z H Q I ⟨Jz,Sz,Hz,F,J,S,Y,Ω,R,r,Ω',hf,k⟩;have ho':i∉O:=fun z=>by rw[zbc.mpr z] at ho;cases ho
 unfold jiz at hf
 split at hf
 ·rename_i d hn
  split at hf
  ·rename_i d' hds;have hδ:Y[i]? = some (some d):=by
    cases z:Y[i]? with
    | none=>rw[z] at hn;cases hn
    | some y=>rw[z] at hn;exact congrArg some hn
   have le:Same (hid H (fob (un F S) Z O)) (hid H (fob (unl F S H) Z O)):=jfg fun b q=>by
    rcases fob_t.mp q with z|z
    ·exact fob_t.mpr (.inl (jEk z))
    ·exact fob_t.mpr (.inr z)
   have hS:∀ b ys,S b=true->H b=some (.lst ys)->hid H (fob (unl F S H) Z O) b=some (.lst ys):=fun b ys hb q=>hid_some.mpr ⟨by
    cases z:fob (unl F S H) Z O b with
    | false=>rfl
    | true =>
     rcases fob_t.mp z with z|z
     ·unfold unl at z;rw[q] at z;simp[jyj] at z
     ·exact absurd z (R.base_S hb),q⟩
   have hil:i<Y.length:=(zbb.mp hδ).1;obtain⟨v,s1,rv⟩:=R.rs.val i _ hδ ho';have rs:RS J X.K (hid H (fob nof Z O)) H (unl F S H) O Z (Y.set i (some d')):=by
    refine⟨by rw[List.length_set];exact R.rs.len,jao,fun b z=>R.rs.fin b (jEk z),fun j d2 hd hj=>?_,fun j hj=>?_,R.rs.nd⟩
    ·by_cases ej:j=i
     ·subst ej;rw[zcz hil] at hd;cases hd;exact⟨v,s1,R.rsT le hS hds rv⟩
     ·rw[zbw (Ne.symm ej)] at hd;obtain⟨v,t1,t2⟩:=R.rs.val j d2 hd hj;exact⟨v,t1,t2.mono le⟩
    ·obtain⟨a,ys,es,t1,t2,t3,t4,t5⟩:=R.rs.own j hj;exact⟨a,ys,es,by rw[zbw (by rintro rfl;exact ho' hj)];exact t1,t2,t3,⟨t4.1,by cases z:unl F S H a with|false=>rfl|true=>rw[jEk z] at t4;exact absurd t4.2 (by decide)⟩,t5.mono le⟩
   obtain⟨hg,rfl⟩:=MS.l_inv hf;rcases M.b_inv hg with ⟨x,e1,hg⟩|⟨x,e1,rfl⟩
   ·split at hg
    ·rename_i hs;cases hg;refine h U s Z H Q I ⟨J,_,unl F S H,_,.ok x,rs,e1,fun v H' s' rv=>k v J S H' (R.mono s') (RLe.refl _) (jaq s') ?_⟩
     cases x with
     | tup ds =>
      obtain⟨q,xs,rfl,q2,q3⟩:=rep_tup.mp rv;refine rep_tup.mpr ⟨q,xs,rfl,?_,jpt hs q3⟩;refine q2.imp (fun z=>?_) id;refine jG0 z fun o hn h1=>?_
      obtain⟨z1,z2⟩:=hid_some.mp h1;refine hid_some.mpr ⟨?_,z2⟩
      cases w:fob (un F S) Z O q with
      | false=>rfl
      | true =>
       rcases fob_t.mp w with w|w
       ·cases w2:jyj (H q) with
        | false=>rw[fob_t.mpr (.inl (show unl F S H q=true by unfold unl;rw[w,w2];rfl))] at z1;cases z1
        | true =>
         unfold jyj at w2
         split at w2
         ·rename_i ys w3;rw[s' _ _ w3] at z2;cases z2;exact absurd rfl (hn _)
         ·cases w2
       ·rw[fob_t.mpr (.inr w)] at z1;cases z1
     | _=>exact jny hs rv
    ·cases hg
   ·exact h U s Z H Q I ⟨J,_,unl F S H,_,.error x,rs,e1,fun c dx H' _ z=>z.elim⟩
  ·cases hf
 ·cases hf
def eAsg(h:D->DSt->Option DSt)(f:DSt->MS D):DSt->MS Out:=fun Y=>(f Y).b fun d=>match h d Y with
 | some Y'=>MS.p (.nx Y')
 | none=>fun _=>none
def jAl{h:D->DSt->Option DSt}(he:ME X O e fa)(hg:DG X O tg h)(hs:swapsWithSole [tg] e pos.line X.env=pure false:=by rfl)(hw:swappedStores [tg] e X.env=pure none:=by rfl)
  (h1:(assignEach [tg] X.env).map (·.2)=[assign tg X.env]:=by rfl):MSt X O O B (.Assign [tg] e pos) (eAsg h fa):=by
 rintro U s Z H Dn I ⟨Jz,Sz,Hz,F,J,S,Y,Ω,R,r,Ω',hf,k⟩;refine jAw he hg hs hw h1 U s Z H Dn I ?_;rcases MS.b_inv hf with ⟨d,Ω1,e1,hf⟩|⟨y,e1,rfl⟩
 ·refine⟨Jz,Sz,Hz,F,J,S,Y,Ω,R,.ok d,Ω1,e1,fun v ρ1 S1 H1 R1 l1 v1 r1=>?_⟩
  cases e2:h d Y with
  | none=>rw[e2] at hf;cases hf
  | some Y' =>
   rw[e2] at hf;cases hf;refine⟨ρ1,_,un F S1,Y,d,Y',R1.rs,r1,e2,fun Z' ef R'=>?_⟩;exact k ρ1 S1 Z' H1 (R1.next R' (by rw[ef];exact Same.refl _)) l1 (by rw[ef];exact v1)
 ·exact⟨Jz,Sz,Hz,F,J,S,Y,Ω,R,.error y,_,e1,trivial⟩
end
end DL
namespace L2
open PyProof.Rows PySem.W
section
variable {X:Cx}
def js6(hn:specialIn X.K (.builtin "object.__class__") "__get__"=some (some (.builtin "getset_descriptor.__get__")))(htk:takesIn X.K (.builtin "object.__class__")=some true) :
  CallR X (.builtin "isinstance") (fun xs H Q=>∃ a C od fr p,∃ as:List Addr,∃ b,xs=[.ref a,.ref p]/\H a=some (XO a C od fr)/\XCls X.K C/\(∀ dx,od=some dx->∃ fs,H dx=some (XDc dx fs))/\H p=some (.tup (as.map V.ref))/\W.kitAny X.K (.ref C) (as.map Value.ref)=some b/\Q (.bl b) H):=by
 intro U s Z H xs us Q I r h;obtain⟨a,C,od,fr,p,as,b,rfl,ea,cl,hd,hp,hk,q⟩:=h;obtain⟨u,c',rfl,ru,rc⟩:=r.two;cases ru;cases rc;obtain⟨hz,its,vi,o,ho,hc,n,hda⟩:=I.hok p _ hp;have ei:its=as.map Value.ref:=by
  have go:∀ {as:List Addr} {us:List Value},Vals (as.map V.ref) us->us=as.map Value.ref:=by
   intro as
   induction as with
   | nil=>intro us z;rw[List.map_nil] at z;cases z;rfl
   | cons x as ih =>
    intro us z;rw[List.map_cons] at z
    cases z with
    | cons z1 z2=>cases z1;rw[ih z2];rfl
  exact go vi
 subst ei;obtain⟨oc,odd,oda,osl⟩:=o;dsimp only at hc hda;subst hc;subst hda;obtain⟨vs,sl,h0,hf0⟩:=jp1 I ea;have Jq:∃ ox od',InstAt s.heap a ox C od':=by
  cases od with
  | none=>exact⟨_,_,jq9 h0⟩
  | some dx =>
   obtain⟨fs,ed⟩:=hd dx rfl;obtain⟨mA,⟨o,_,_,e,_⟩,_⟩:=jzz I ed;exact⟨_,_,jn7 h0 e⟩
 exact W.kia_tup (jAh cl.x cl.ga cl.gh cl.cl hn htk) I.kIn Jq ho hk (fun z=>nomatch z) fun tk=>⟨.bl b,H,I.tok _,rfl,q⟩
def jJ2(as:List Addr):TA:=fun _ H Q=>Q (as.map V.ref) H
end
end L2
namespace DL
open L2
section
variable {X:Cx}{O:List Nat}{e:Expr}{es:List Expr}{fa:DSt->MS D}{cs fs:List Str}{bn d:Str}{ds:List Str}{p p2 p3 pos:Pos}
inductive ClL(X:Cx)(es:List Expr)(ds:List Str):Prop
 | mk (as:List Addr) (h1:PA X es (jJ2 as)) (h2:Paired (fun (d:Str) (a:Addr)=>X.mg d=some (.ref a)) ds as)
def jz7:ClL X [] []:=⟨[],jk8,.nil⟩
def je0(T:ErrT X.K X.mg cs fs bn)(h:ClL X es ds)(hd:cs.contains d=true:=by rfl)(hg:Gl X d:=by rfl)(hdb:(d == ("__debug__":Str))=false:=by decide)(hs:starEach (.Name d p::es) X.env=(false,eval (.Name d p) X.env)::starEach es X.env:=by rfl):ClL X (.Name d p::es) (d::ds):=by
 obtain⟨as,h1,h2⟩:=h;obtain⟨a,ha⟩:=T.ats d (zbc.mp hd);exact⟨a::as,jfo (jnq (v:=.ref a) hg ha rfl hdb) h1 hs,.cons ha h2⟩
def jAk{x1}(T:ErrT X.K X.mg cs fs bn)(hL:ClL X es ds)(hds:ds.all (cs.contains ·)=true)(hm:X.mg "isinstance"=none)(ha:ME X O e fa)(hl:ds.length<=100)(hG:Gl X "isinstance":=by rfl)
  (he:starEach (e::[.Tuple es x1 p3]) X.env=(false,eval e X.env)::starEach [.Tuple es x1 p3] X.env:=by rfl) (he2:starEach [.Tuple es x1 p3] X.env=(false,eval (.Tuple es x1 p3) X.env)::starEach [] X.env:=by rfl) (hpl:(backTo pos (starEach [.Tuple es x1 p3] X.env)).any (·.1)=false:=by rfl) :
  ME X O (.Call (.Name "isinstance" p) [e,.Tuple es x1 p3] [] pos) (mIsX cs (fun c=>ds.contains c) fa):=by
 obtain⟨as,h1,h2⟩:=hL;rintro U s Z H Q I ⟨Jz,Sz,Hz,F,J,S,Y,Ω,R,r,Ω',hg,k⟩;have kA:∀ c∈cs,∀ C,X.mg c=some (.ref C)->W.kitAny X.K (.ref C) (as.map Value.ref)=some (ds.contains c):=by
  intro c hc C hC
  clear h1 hl he he2 hpl hg k
  induction h2 with
  | nil=>rfl
  | @cons d a ds as z zs ih =>
   rw[List.all_cons,Bool.and_eq_true] at hds;obtain⟨D1,g1,g2⟩:=T.pair c hc d (zbc.mp hds.1) C hC;rw[z] at g1;cases g1
   have ih:=ih hds.2
   show (match W.kitOne X.K (.ref C) (.ref a) with
    | some true=>some true
    | some false=>W.kitAny X.K (.ref C) (as.map Value.ref)
    | none=>none)=_
   rw[g2,List.contains_cons]
   cases hcd:(c == d) with
   | true=>rfl
   | false=>rw[Bool.false_or];exact ih
 have la:(as.map V.ref).length<=sizeLine:=by
  rw[zav,<- h2.length,sizeLine_eq];exact zdy hl (by decide)
 refine jnp (js6 T.sp T.tk) hG hm jc8 (jfo ha (jfo (jwe h1) jk8 he2) he) (by decide) (by decide) he hpl U s Z H Q I ?_;rcases MS.b_inv hg with ⟨x,Ω1,e1,hg⟩|⟨x,e1,rfl⟩
 ·refine⟨Jz,Sz,Hz,F,J,S,Y,Ω,R,.ok x,Ω1,e1,fun w ρ1 S1 H1 R1 l1 v1 r1=>?_⟩;obtain⟨i,c,oj,fr,rfl,hi,hj,hc,rfl,rfl⟩:=ju7 hg;obtain⟨ad,q1,q2⟩:=rep_obj.mp r1;obtain⟨ad',p1,p2,p3⟩:=R1.sto.ats i _ hi;rw[q1] at p1;cases p1
  subst q2;refine⟨la,fun pt hpt=>?_⟩;have sm:Same H1 (upd H1 pt (.tup (as.map V.ref))):=ja7 hpt;have R2:=R1.mono sm;have fin:Q (.bl (ds.contains c)) (upd H1 pt (.tup (as.map V.ref))):=k _ ρ1 S1 _ R2 l1 (v1.trans (jaq sm)) (rep_bl.mpr rfl)
  cases p3 with
  | no fr C h1' h2'=>exact⟨ad,C,none,fr,pt,as,ds.contains c,rfl,sm _ _ h2',T.cls c hc C h1',(fun dx z=>nomatch z),jam,kA c hc C h1',fin⟩
  | yes fr j C dx h1' h2' h3' =>
   obtain⟨fl,hj⟩:=hj j rfl;obtain⟨dx',s1,s2,vfs,s3,s4⟩:=R1.sto.ats j _ hj;rw[h2'] at s1;cases s1
   exact⟨ad,C,some dx,fr,pt,as,ds.contains c,rfl,sm _ _ h3',T.cls c hc C h1',(fun dx' z=>by cases z;exact⟨vfs,sm _ _ s3⟩),jam,kA c hc C h1',fin⟩
 ·exact⟨Jz,Sz,Hz,F,J,S,Y,Ω,R,.error x,_,e1,trivial⟩
end
end DL
namespace DL
open PyProof.Rows L2
section
variable {X:Cx}
def gInS:D->D->Option D
 | .str i,.str j=>some (.bl (!(Builtin.Str.occurrences j i 0 j.length 1).isEmpty))
 | _,_=>none
def jnn:OpD X.K gInS (fun x y H Q=>∃ i j,x=.str i/\y=.str j/\Q (.bl (!(Builtin.Str.occurrences j i 0 j.length 1).isEmpty)) H):=by
 intro x y d hd J H G u v Q hG ru rv k;unfold gInS at hd
 split at hd
 ·rename_i i j;cases hd;exact⟨i,j,rep_str.mp ru,rep_str.mp rv,k _ _ (Same.refl _) (rep_bl.mpr rfl)⟩
 ·cases hd
end
def jsc{s sub:Str}{lo hi limit:Nat}(h:∀ i,i+sub.length<=hi->Builtin.Str.subAt s sub i=false):Builtin.Str.occurrences s sub lo hi limit=[]:=by
 unfold Builtin.Str.occurrences;simp[Id.run];have go:∀ (l:List Nat),(forIn (m:=Id) l ((#[],lo):Array Nat×Nat) fun i r =>
    if ((r.fst.size<limit/\r.snd<=i)/\i+sub.length<=hi)/\Builtin.Str.subAt s sub i=true then
     pure (ForInStep.yield (r.fst.push i,i+sub.length))
    else pure (ForInStep.yield (r.fst,r.snd)))=(((#[],lo):Array Nat×Nat)):=by
  intro l
  induction l with
  | nil=>rfl
  | cons i l ih =>
   rw[List.forIn_cons,if_neg (fun z=>by rw[h i z.1.2] at z;exact absurd z.2 (by decide))];exact ih
 show ((fun a:Array Nat×Nat=>a.fst.toList) <$> (forIn (m:=Id) (List.range' lo (hi+1-lo)) ((#[],lo):Array Nat×Nat) _))=[];rw[go];rfl
end DL
namespace DL
open L2
def popL:D->MS D:=fun x Ω=>match x with
 | .obj i=>match Ω[i]? with
  | some (.lst ds)=>(ds[ds.length-1]?).map fun d=>(.ok d,Ω.set i (.lst ds.dropLast))
  | _=>none
 | _=>none
inductive PopI(x:D)(Ω Ω':Sto)(r:Except XD D):Prop
 | mk (i:Nat) (ds:List D) (d:D) (hx:x=.obj i) (hi:Ω[i]? = some (.lst ds)) (hd:ds[ds.length-1]? = some d) (hr:r=.ok d) (ho:Ω'=Ω.set i (.lst ds.dropLast))
def jze{x:D}{Ω Ω':Sto}{r:Except XD D}(h:popL x Ω=some (r,Ω')):PopI x Ω Ω' r:=by
 unfold popL at h
 cases x with
 | obj i =>
  dsimp only at h
  cases hi:Ω[i]? with
  | none=>rw[hi] at h;cases h
  | some so =>
   rw[hi] at h
   cases so with
   | lst ds =>
    dsimp only at h
    cases hg:ds[ds.length-1]? with
    | none=>rw[hg] at h;cases h
    | some d=>rw[hg] at h;cases h;exact⟨i,ds,d,rfl,hi,hg,rfl,rfl⟩
   | _=>cases h
 | _=>cases h
def jjm(fo:DSt->MS D):DSt->MS D:=fun Y=>(fo Y).b fun x=>popL x
section
variable {X:Cx}{O:List Nat}{o:Expr}{fo:DSt->MS D}{x:Str}{k:Nat}
def jnb{p2 p3:Pos}(ho:ME X O o fo)(hbase:attributeBase o "pop" X.env (eval o X.env)=eval o X.env:=by rfl)(hline:(p2.endLine == p3.line)=true:=by rfl) :
  ME X O (.Call (.Attribute o "pop" p2) [] [] p3) (jjm fo):=by
 rintro U s Z H Q I ⟨Jz,Sz,Hz,F,J,S,Y,Ω,R,r,Ω',hf,k⟩;refine jAt PySem.F.plainAttrs_list PySem.F.slot_list_pop PySem.F.type_list_pop jAn ho hbase hline U s Z H Q I ?_;rcases MS.b_inv hf with ⟨x,Ω1,e1,hf⟩|⟨x,e1,rfl⟩
 ·refine⟨Jz,Sz,Hz,F,J,S,Y,Ω,R,.ok x,Ω1,e1,fun u ρ1 S1 H1 R1 l1 v1 r1=>?_⟩;obtain⟨i,ds,d,rfl,hi,hd,rfl,rfl⟩:=jze hf;obtain⟨ad,q1,q2⟩:=rep_obj.mp r1;obtain⟨ad',p1,p2,xs,p3,p4⟩:=R1.sto.ats i _ hi;rw[q1] at p1;cases p1
  subst q2;obtain⟨v,w1,w2⟩:=p4.get hd;refine⟨.inl ⟨rfl,xs,SqL.of p3⟩,ad,xs,v,rfl,rfl,p3,by rw[p4.length];exact w1,?_⟩;obtain⟨t1,t2⟩:=R1.putL hi q1 p2 p3 p4.dropLast;exact k _ ρ1 S1 _ t1 l1 (by rw[t2];exact v1) (by rw[t2];exact w2)
 ·exact⟨Jz,Sz,Hz,F,J,S,Y,Ω,R,.error x,_,e1,trivial⟩
end
end DL
namespace L2
open PyProof.Rows
open PySem.W (Frag InstAt Looks findIn mroIn clsIn)
section
variable {X:Cx}{k:Nat}{f:Addr}{fd:FuncData}{ps:List Str}{sp:Sp}{x:Str}{p pos:Pos}{e:Expr}{es:List Expr}{t:TA}
inductive tTryA(K:Frag)(sp:Sp)(t:TA)(Bc:Addr)(i j l:Nat)(D:Ends)(Z:St)(H:Hp):Prop
 | mk (Er:Addr->Addr->Option Addr->Hp->Prop) (h1:jzv sp [] (EX Er) t Z H fun v H1=>D.nx (Z.set i (some v)) H1)
  (h2:∀ a C' od H1,H1 a=some (XO a C' od false)->Er a C' od H1->(∃ C2 od2,H1 a=some (XO a C2 od2 false)/\W.exmOne K (.ref C2) (.ref Bc)=some true)/\∀ H2,(∀ b o,H1 b=some o->H2 b=some o)->D.nx (((Z.set j (some (.ref a))).set l (some (.ref a))).set j none) H2)
def jDq{B n y z:Str}{Bc:Addr}{i j l:Nat}{np hpos py pn ypos px spos tpos:Pos}(F:FnOk X.prog X.w X.K X.mg X.base (CX1 X.prog X.w) k f fd ps sp)(hr:Room k X.A)(hgx:Gl X x)(hmx:X.mg x=some (.ref f))(hk:W.keepIn X.K (.ref f)=true)(hb:Binds X.K fd ps [])(ha:∀ W,PA (X.wish W) (e::es) t)
  (hst:X.stack=X.env::X.outer) (hfr:X.env.frame=some X.env.locals) (hg:Gl X B) (hmB:X.mg B=some (.ref Bc)) (hN:X.N.Nodup) (hi:X.N[i]? = some z) (hz:X.env.scope.names.lookup z=some .local) (hj:X.N[j]? = some n) (hn:X.env.scope.names.lookup n=some .local) (hl:X.N[l]? = some y) (hy:X.env.scope.names.lookup y=some .local) (hjl:j≠l)
  (hdx:(x == ("__debug__":Str))=false) (hdb:(B == ("__debug__":Str))=false) (hnd:(n == ("__debug__":Str))=false) (hncd:(n == ("__classdict__":Str))=false) (hs:swapsWith (.Name n pn) (some (.Name y py)) ypos.line X.env=pure false)
  (hs1:swapsWith (.Call (.Name x p) (e::es) [] pos) (some (.Name z px)) spos.line X.env=pure false) (hse:zsE e es X.env) (hpl:zbT pos es X.env) :
  PS X (.Try [.Assign [.Name z px] (.Call (.Name x p) (e::es) [] pos) spos] [.ExceptHandler (some (.Name B np)) (some n) [.Assign [.Name y py] (.Name n pn) ypos] hpos] [] [] tpos) (tTryA X.K sp t Bc i j l):=by
 rintro U s Z H D I ⟨Er,h1,h2⟩;refine wpAny_Try_except ?_;generalize hW:(fun (e:Value) (s₁:Shared)=>wpAny (model X.prog X.w) X.A (noteFrame e X.env) (fun _ s₂=>wpAny (model X.prog X.w) X.A (setFlight e none) (fun _ s₃=>wpAny (model X.prog X.w) X.A (handleBy e X.env [.ExceptHandler (some (.Name B np)) (some n) [.Assign [.Name y py] (.Name n pn) ypos] hpos]) (SP X U D) X.xe s₃) X.xe s₂) X.xe s₁)=W;have hxW:∀ H1 s1 e s',Inv (X.wish W) U Z H1 s1->CX1 X.prog X.w X.stack H1 s1 (EX Er) e s'->W e s':=fun H1 s1 e' s' I1 hc=>by
  obtain⟨a,C',od,Ha,H2,rfl,Jq,Fl,g7,a2,C2,g8,g9,g10⟩:=jp4 (X:=X) I1.unwish hc;cases g8;rw[<- hW];have e1:H2 a=some (XO a C' od false):=by obtain⟨e1,_⟩:=Fl;exact e1
  obtain rfl:C'=C2:=jBh Jq e1 (g7 _ _ g9);obtain⟨⟨C3,od3,g11,q1⟩,q2⟩:=h2 a C' od Ha g9 g10;obtain rfl:C'=C3:=jBh Jq e1 (g7 _ _ g11);refine jGe Jq Fl hst hfr I.ok.frames fun T h' hT J2 F2=>?_
  refine jCj J2 F2 q1 hg hmB hdb hN hj hn hl hy hjl hnd hncd hs fun s5 J5=>?_
  refine⟨_,_,J5,q2 _ fun b ob q=>?_⟩;rw[jaj (fun z=>by rw[z] at q;rw[g7 _ _ q] at hT;cases hT)];exact g7 b ob q
 have I1:Inv (X.wish W) U Z H s:=I.wish W;have body:wpAny (model X.prog X.w) X.A (exec (.Assign [.Name z px] (.Call (.Name x p) (e::es) [] pos) spos) X.env) (SP (X.wish W) U D) W s:=by
  refine wpAny_Assign_Name (thn (jFi (X:=X.wish W) F hr hgx hmx hk hb hxW (ha W) hdx hse hpl I1 h1) fun v s1 hzz=>?_) hs1;obtain⟨zz,H1,J1,rz,q⟩:=hzz;exact jh1 (X:=X.wish W) J1 hN hi (.inl hz) rz (fun s2 J2=>⟨_,H1,J2,q⟩) (.inr hz)
 refine wpAny_execs_cons (thn body fun f s1 q=>?_)
 cases f with
 | next=>exact wpAny_execs_nil (wpAny_execs_nil (SP.unwish q))
 | ret v=>exact SP.unwish q
 | brk=>exact SP.unwish q
 | cont=>exact SP.unwish q
end
end L2
namespace DL
open L2
def juu(m:List D->MS D)(cs:List Str)(i j l:Nat)(fl:DSt->MS (List D)):DSt->MS Out:=fun Y Ω=>match jgj m fl Y Ω with
 | some (.ok d,Ω')=>some (.ok (.nx (Y.set i (some d))),Ω')
 | some (.error y,Ω')=>jrf cs j l Y y Ω'
 | none=>none
section
variable {X:Cx}{O B:List Nat}{e:Expr}{es:List Expr}{fl:DSt->MS (List D)}{pos p:Pos}{x:Str}{k n:Nat}
def jCz{m:List D->MS D}{cs:List Str}{n' y z bn:Str}{i j l:Nat}{np hpos py pn ypos px spos tpos:Pos}(C:CalR X.prog X.w X.K X.mg X.base k x n m)(Em:ErrM X.K X.mg cs bn)(hr:Room k X.A)(ha:∀ W,MA (X.wish W) O (e::es) fl)
  (hst:X.stack=X.env::X.outer) (hfr:X.env.frame=some X.env.locals) (hN:X.N.Nodup) (hio:O.contains i=false) (hjo:O.contains j=false) (hlo:O.contains l=false) (hjl:j≠l)
  (hi:X.N[i]? = some z:=by rfl) (hz:X.env.scope.names.lookup z=some .local:=by rfl) (hj:X.N[j]? = some n':=by rfl) (hn:X.env.scope.names.lookup n'=some .local:=by rfl) (hl:X.N[l]? = some y:=by rfl) (hy:X.env.scope.names.lookup y=some .local:=by rfl) (hgx:Gl X x:=by rfl) (hg:Gl X bn:=by rfl)
  (hdx:(x == ("__debug__":Str))=false:=by decide) (hdb:(bn == ("__debug__":Str))=false:=by decide) (hnd:(n' == ("__debug__":Str))=false:=by decide) (hncd:(n' == ("__classdict__":Str))=false:=by decide) (hs:swapsWith (.Name n' pn) (some (.Name y py)) ypos.line X.env=pure false:=by rfl)
  (hs1:swapsWith (.Call (.Name x p) (e::es) [] pos) (some (.Name z px)) spos.line X.env=pure false:=by rfl) (hse:zsE e es X.env:=by rfl) (hpl:zbT pos es X.env:=by rfl) :
  MSt X O O B (.Try [.Assign [.Name z px] (.Call (.Name x p) (e::es) [] pos) spos] [.ExceptHandler (some (.Name bn np)) (some n') [.Assign [.Name y py] (.Name n' pn) ypos] hpos] [] [] tpos) (juu m cs i j l fl):=by
 have no:∀ {q:Nat},O.contains q=false->q∉O:=fun h z=>by rw[zbc.mpr z] at h;cases h
 obtain⟨f,fd,ps,hln,hm,hk,hb,G⟩:=C.ex;obtain⟨Bc,hB⟩:=Em.atb;rintro U s Z H Dn I ⟨Jz,Sz,Hz,F,J,S,Y,Ω,R,r,Ω',hf,k⟩;refine jDq (X:=X) (t:=tEL X.K X.mg O fl) G hr hgx hm hk hb (fun W=>ha W) hst hfr hg hB hN hi hz hj hn hl hy hjl hdx hdb hnd hncd hs hs1 hse hpl U s Z H Dn I ?_;unfold juu at hf
 cases e0:jgj m fl Y Ω with
 | none=>rw[e0] at hf;cases hf
 | some pr =>
  obtain⟨r0,Ω0⟩:=pr;rw[e0] at hf
  cases r0 with
  | ok d =>
   cases hf;refine⟨fun _ _ _ _=>False,jmp C.ar R e0 fun v ρ1 S1 H1 R1 l1 v1 r1=>?_,fun _ _ _ _ _ z=>z.elim⟩;exact k ρ1 S1 _ H1 (R1.set (no hio) r1) l1 (by rw[jda (no hio)];exact v1)
  | error y0 =>
   obtain⟨q,c',jj,g1,g2,g3,rfl,rfl⟩:=js7 hf;refine⟨fun a C' od H1=>∃ ρ1 S1,RM Jz Sz Hz F X.K X.mg O ρ1 S1 H1 Z Y Ω'/\RLe J ρ1/\Same (hid H (fob (un F S) Z O)) (hid H1 (fob (un F S1) Z O))/\ρ1 q=some a,jmp C.ar R e0 fun i' a C' od ρ1 S1 H1 he R1 l1 v1 hρ hH=>?_,fun a C' od H1 hH ⟨ρ1,S1,R1,l1,v1,hρ⟩=>⟨?_,fun H2 sm=>?_⟩⟩
   ·rw[g1] at he;cases he;exact⟨a,C',rfl,hH,ρ1,S1,R1,l1,v1,hρ⟩
   ·obtain⟨a',p1,p2,p3⟩:=R1.sto.ats q _ g2;rw[hρ] at p1;cases p1
    cases p3 with
    | no f C2 w1 w2=>exact⟨C2,none,w2,Em.ex c' g3 C2 w1 Bc hB⟩
    | yes f j2 C2 dx w1 w2 w3=>exact⟨C2,some dx,w3,Em.ex c' g3 C2 w1 Bc hB⟩
   ·have R2:=R1.mono (H':=H2) sm;have hob:∀ {Hx:Hp},Rep ρ1 X.K Hx (.obj q) (.ref a):=rep_obj.mpr ⟨a,hρ,rfl⟩;have R3:=((R2.set (i:=j) (d:=.obj q) (v:=.ref a) (no hjo) hob).set (i:=l) (d:=.obj q) (v:=.ref a) (no hlo) hob).unset (no hjo);refine k ρ1 S1 _ H2 R3 l1 ?_;rw[jfs (no hjo),jda (no hlo),jda (no hjo)];exact v1.trans (jaq sm)
end
inductive tER(K:W.Frag)(mg:qa)(O:List Nat)(f:DSt->MS D)(E:XK)(Z:St)(H:Hp)(Q:VK):Prop
 | mk (Jz:Rho) (Sz:qe) (Hz:Hp) (F:qe) (J:Rho) (S:qe) (Y:DSt) (Ω:Sto) (R:RM Jz Sz Hz F K mg O J S H Z Y Ω) (r:Except XD D) (Ω':Sto) (hf:f Y Ω=some (r,Ω'))
  (k:match (generalizing:=false) r with
   | .ok d=>∀ v J' S' H',RM Jz Sz Hz F K mg O J' S' H' Z Y Ω'->RLe J J'->Same (hid H (fob (un F S) Z O)) (hid H' (fob (un F S') Z O))->Rep J' K (hid H' (fob (un F S') Z O)) d v->Q v H'
   | .error x=>ErrK K mg Jz Sz Hz F Ω' x E)
def MEr(X:Cx)(O:List Nat)(E:XK)(e:Expr)(f:DSt->MS D):Prop:=PE X e (tER X.K X.mg O f E)
section
variable {X:Cx}{O O' O'' B:List Nat}{E:XK}{a o e:Expr}{es:List Expr}{fa fo fv:DSt->MS D}{fl:DSt->MS (List D)}{pos p apos:Pos}{x c f:Str}{k n:Nat}{cs:List Str}{g:DSt->MS Out}
def jr7{m:List D->MS D}(C:CalR X.prog X.w X.K X.mg X.base k x n m)(hr:Room k X.A)(hx:Wx X E)(ha:MA X O (e::es) fl)(hg:Gl X x:=by rfl)(hdb:(x == ("__debug__":Str))=false:=by decide)(he:zsE e es X.env:=by rfl)
  (hpl:zbT pos es X.env:=by rfl):MEr X O E (.Call (.Name x p) (e::es) [] pos) (jgj m fl):=by
 obtain⟨f,fd,ps,hl,hm,hk,hb,G⟩:=C.ex;rintro U s Z H Q I ⟨Jz,Sz,Hz,F,J,S,Y,Ω,R,r,Ω',hf,k⟩;refine jno G hr hg hm hk hb .nil (fun U Z H s e s' I c=>hx U Z e s' (jp4 I c)) ha hdb he hpl U s Z H Q I (jmp C.ar R hf ?_)
 cases r with
 | ok d=>exact k
 | error y=>exact fun i a C od J' S' H' he R' _ _ hρ hH=>k i a C od J' S' H' he R'.rt hρ hH
def jr8{pl:Sem Bool}{m:List D->MS D}(C:MetR X.prog X.w X.K X.mg X.base k c x n m)(hr:Room k X.A)(hx:Wx X E)(ho:ME X O o fo)(ha:MA X O (e::es) fl)(hst:zsE e es X.env:=by rfl)(hpl:zbT pos es X.env:=by rfl)
  (ht:eval (.Call (.Attribute o x apos) (e::es) [] pos) X.env=(do
   let ov <- eval o X.env
   standAt apos.atName
   let (f,first) <- holding [ov] (getMethod ov x pl)
   callWith pos f first (backTo pos (starEach (e::es) X.env)) (backToKw pos (keywordEach [] X.env))):=by rfl):MEr X O E (.Call (.Attribute o x apos) (e::es) [] pos) (jj7 c x m fo fl):=by
 obtain⟨Ca,f,fd,ps,hl,hm,hc,hM,hb,G⟩:=C.ex;rintro U s Z H Q I ⟨Jz,Sz,Hz,F,J,S,Y,Ω,R,r,Ω',hf,k⟩;refine jwd ho hc hM G hr hb .nil (fun U Z H s e s' I c=>hx U Z e s' (jp4 I c)) ha hst hpl ht U s Z H Q I (jyu hm C.ar R hf ?_)
 cases r with
 | ok d=>exact k
 | error y=>exact fun i a C od J' S' H' he R' _ _ hρ hH=>k i a C od J' S' H' he R'.rt hρ hH
def jC1(he:MEr X O E e fa):MSr X O O' B E (.Return (some e) pos) (eRet fa):=by
 rintro U s Z H Dn I ⟨Jz,Sz,Hz,F,J,S,Y,Ω,R,r,Ω',hg,k⟩;refine jwm he U s Z H Dn I ?_;rcases MS.b_inv hg with ⟨d,Ω1,e1,hg⟩|⟨x,e1,rfl⟩
 ·cases hg;exact⟨Jz,Sz,Hz,F,J,S,Y,Ω,R,.ok d,_,e1,fun v ρ1 S1 H1 R1 l1 v1 r1=>k v ρ1 S1 H1 R1.rt (r1.mono (jfg jg0))⟩
 ·exact⟨Jz,Sz,Hz,F,J,S,Y,Ω,R,.error x,_,e1,k⟩
def jsa(he:MEr X O E e fa)(hs:swapsWith e none pos.line X.env=pure false:=by rfl):MSr X O O B E (.Expr e pos) (je9 fa):=by
 rintro U s Z H Dn I ⟨Jz,Sz,Hz,F,J,S,Y,Ω,R,r,Ω',hg,k⟩;refine jnr he hs U s Z H Dn I ?_;rcases MS.b_inv hg with ⟨d,Ω1,e1,hg⟩|⟨x,e1,rfl⟩
 ·cases hg;exact⟨Jz,Sz,Hz,F,J,S,Y,Ω,R,.ok d,_,e1,fun v ρ1 S1 H1 R1 l1 v1 r1=>k ρ1 S1 Z H1 R1 l1 v1⟩
 ·exact⟨Jz,Sz,Hz,F,J,S,Y,Ω,R,.error x,_,e1,k⟩
def jC0{pos':Pos}(hc:jxq X cs f)(ho:ME X O o fo)(hv:MEr X O E e fv)(hs:swapsWith e (some (.Attribute o f pos')) pos.line X.env=pure false:=by rfl):MSr X O O B E (.Assign [.Attribute o f pos'] e pos) (ePut cs f fo fv):=by
 rintro U s Z H Dn I ⟨Jz,Sz,Hz,F,J,S,Y,Ω,R,r,Ω',hf,k⟩;refine jAx ho hv hs U s Z H Dn I ?_;rcases MS.b_inv hf with ⟨d,Ω1,e1,hf⟩|⟨x,e1,rfl⟩
 ·refine⟨Jz,Sz,Hz,F,J,S,Y,Ω,R,.ok d,Ω1,e1,fun v ρ1 S1 H1 R1 l1 v1 r1=>?_⟩;rcases MS.b_inv hf with ⟨x,Ω2,e2,hf⟩|⟨x,e2,rfl⟩
  ·refine⟨Jz,Sz,Hz,F,ρ1,S1,Y,Ω1,R1,.ok x,Ω2,e2,fun u ρ2 S2 H2 R2 l2 v2 r2=>?_⟩;obtain⟨i,cl,fs,rfl,hi,hcl,hlt,rfl,rfl⟩:=jrs hf;obtain⟨ad,q1,q2⟩:=rep_obj.mp r2;obtain⟨ad',p1,p2,C,dx,vfs,p3,p4,p5,p6,p7⟩:=R2.sto.ats i _ hi;rw[q1] at p1;cases p1
   obtain⟨g1,g2⟩:=hc cl (zbc.mp hcl) C p3;have r1':=(r1.rho l2).mono v2;obtain⟨t1,t2⟩:=R2.put (f:=f) hi q1 p2 p3 p4 p5 p6 p7 r1';exact⟨ad,C,dx,vfs,q2,p4,g1,g2,by rw[p7.length];exact hlt,k ρ2 S2 Z _ t1 (l1.trans l2) (by rw[t2];exact v1.trans v2)⟩
  ·exact⟨Jz,Sz,Hz,F,ρ1,S1,Y,Ω1,R1,.error x,_,e2,trivial⟩
 ·exact⟨Jz,Sz,Hz,F,J,S,Y,Ω,R,.error x,_,e1,k⟩
def jyw{sts:List Stmt}(hO:∀ i∈O',i∈O)(h:MSsr X O' O'' B E sts g):MSsr X O O'' B E sts g:=by
 rintro U s Z H Dn I ⟨Jz,Sz,Hz,F,J,S,Y,Ω,R,r,Ω',hf,k⟩;exact h U s Z H Dn I ⟨Jz,Sz,Hz,F,J,S,Y,Ω,R.thaw hO,r,Ω',hf,k.back (RLe.refl _) (jfg (jvc hO))⟩
end
end DL
namespace MyLaw
open L2 DL
abbrev LL:=List (List Nat)
abbrev oK{α:Type}(a:α):M α:=some (.ok a)
abbrev oL(a:List D):Option D:=some (.lst a)
abbrev oI(i:Int):Option D:=some (.int i)
abbrev oS(i:Str):Option D:=some (.str i)
abbrev cI(i:Int):DSt->M D:=fC (.int i)
abbrev cS(i:Str):DSt->M D:=fC (.str i)
abbrev nX(d:DSt):M Out:=oK (.nx d)
def top(i:Nat):Stmt:=PySem.Challenge.pw_apartbook_k04_names_times_names.main.body.getD i (.Pass ⟨0,0,0,0⟩)
abbrev ji9:Stmt:=top 41
abbrev jki:Stmt:=top 40
abbrev jh0:Stmt:=top 43
abbrev jgs:Stmt:=top 44
abbrev jev:Stmt:=top 47
abbrev jgr:Stmt:=top 46
abbrev jb8:Stmt:=top 49
abbrev jhp:Stmt:=top 50
abbrev jfm:Stmt:=top 48
abbrev jgq:Stmt:=top 18
abbrev jgp:Stmt:=top 19
abbrev jd8:Stmt:=top 28
abbrev jgu:Stmt:=top 29
abbrev jhz:Stmt:=top 30
abbrev jdv:Stmt:=top 31
abbrev jgw:Stmt:=top 27
abbrev jcd:Stmt:=jjg (top 3) 0
abbrev jb5:Stmt:=jjg (top 33) 0
abbrev jla:Stmt:=top 36
abbrev jf1:Stmt:=top 38
abbrev jbv:Stmt:=jjg (top 4) 0
abbrev jf2:Stmt:=top 37
abbrev jas:Stmt:=jjg (top 33) 1
abbrev jk9:Stmt:=top 35
abbrev jce:Stmt:=jjg (top 33) 3
abbrev jbe:Stmt:=jjg (top 33) 2
abbrev jco:Stmt:=top 21
abbrev jgv:Stmt:=top 20
abbrev jdi:Stmt:=top 34
abbrev jey:Stmt:=top 32
abbrev jex:Stmt:=top 26
abbrev jgt:Stmt:=top 42
abbrev jdu:Stmt:=top 45
abbrev jzo:Stmt:=top 51
abbrev xcs:List Str:=["Broken","Folded","NoBook","NoDeed","NoLine","NoName","NoPaper","NoRule","NoText","NotPlain","OutOfRange","ShortShare"]
abbrev xfs:List Str:=["place","name","line","lack"]
abbrev je8(P:Program)(w:World)(K:W.Frag)(mg:qa)(base:Heap)(n:Nat)(x:Str)(t:Stmt)(N:List Str)(g:DSt->M Out):Prop:=∀ (f:Addr) (b8:Value) (A:Around) (outer:List Env) (s:Shared) (H:Hp) (E:XK),Room n (A.deeper (PyProof.Rows.envOfC x (jad t) s.heap.objs.size f b8))->DSs (cxOf CX0 P w K mg base N x (jad t) f b8 A outer s H E).nox [] [] [] E (jar t) g
abbrev jn9(P:Program)(w:World)(K:W.Frag)(mg:qa)(base:Heap)(n:Nat)(x:Str)(t:Stmt)(N:List Str)(g:DSt->MS Out):Prop:=∀ (f:Addr) (b8:Value) (A:Around) (outer:List Env) (s:Shared) (H:Hp) (E:XK),Room n (A.deeper (PyProof.Rows.envOfC x (jad t) s.heap.objs.size f b8))->MSs (cxOf CX0 P w K mg base N x (jad t) f b8 A outer s H E).nox [] [] [] (jar t) g
structure Txt(K:W.Frag)(mg:qa):Prop where
 c_OpenSum:ClsAt K mg "OpenSum" ["star","term","term_sign","total"]
 errs:ErrT K mg xcs xfs "BookError"
 errm:ErrM K mg xcs "BookError"
 f_law_mix:jcw K mg "_law_mix" ji9 ["_law_number","_law_place"]
 f_law_at:jcw K mg "_law_at" jki ["_law_script","_law_k"]
 f_law_name:jcw K mg "_law_name" jh0 ["_law_number"]
 f_law_names:jcw K mg "_law_names" jgs ["_law_number","_law_most"]
 f_law_written:jcw K mg "_law_written" jev ["_law_tokens_here","_law_number"]
 f_law_built:jcw K mg "_law_built" jgr ["_law_script","_law_names_here"]
 f_law_reckon:jcw K mg "_law_reckon" jb8 ["_law_values","_law_marks"]
 f_law_due:jcw K mg "_law_due" jhp ["_law_names_here","_law_tokens_here"]
 f_law_tokens:jcw K mg "_law_tokens" jfm ["_law_written_here"]
 f_is_letter:jcw K mg "is_letter" jgq ["sign"]
 f_is_figure:jcw K mg "is_figure" jgp ["sign"]
 f_end_of_piece:jcw K mg "end_of_piece" jd8 ["text","place"]
 f_may_stand:jcw K mg "may_stand" jgu ["sign","wanted","depth"]
 f_depth_by:jcw K mg "depth_by" jhz ["word"]
 f_wanted_behind:jcw K mg "wanted_behind" jdv ["word"]
 f_pieces_of:jcw K mg "pieces_of" jgw ["text"]
 f_NoName_init__:IniXAt K mg "NoName" "NoName.__init__" jcd ["self","name","place"]
 f_OpenSum_init__:IniAt K mg "OpenSum" "OpenSum.__init__" jb5 ["self","width"]
 f_times:jcw K mg "times" jla ["form","number"]
 f_is_plain:jcw K mg "is_plain" jf1 ["form"]
 f_NotPlain_init__:IniXAt K mg "NotPlain" "NotPlain.__init__" jbv ["self","place"]
 f_product:jcw K mg "product" jf2 ["left","right","place"]
 f_OpenSum_take_factor:MetAt K mg "OpenSum" "take_factor" "OpenSum.take_factor" jas ["self","form"]
 f_added:jcw K mg "added" jk9 ["left","right"]
 f_OpenSum_whole:MetAt K mg "OpenSum" "whole" "OpenSum.whole" jce ["self"]
 f_OpenSum_take_sign:MetAt K mg "OpenSum" "take_sign" "OpenSum.take_sign" jbe ["self","sign","place"]
 f_number_of_figures:jcw K mg "number_of_figures" jco ["word"]
 f_number_of:jcw K mg "number_of" jgv ["word"]
 f_form_of_word:jcw K mg "form_of_word" jdi ["names","word"]
 f_reckoned:jcw K mg "reckoned" jey ["names","pieces"]
 f_read_sum:jcw K mg "read_sum" jex ["names","text"]
 f_law_whole:jcw K mg "_law_whole" jgt ["_law_found"]
 f_law_is_form:jcw K mg "_law_is_form" jdu ["_law_found","_law_due_here"]
 f_law:jcw K mg "law" jzo ["_law_script"]
 g_BEGINNING:∃ t,mg "BEGINNING"=some (.str "beginning" t)
 g_BEHIND:∃ t,mg "BEHIND"=some (.str "behind" t)
 g_FACTOR:∃ t,mg "FACTOR"=some (.str "factor" t)
 g_NAME_LENGTH:∃ t,mg "NAME_LENGTH"=some (.int 10 t)
 g_PART_FIGURES:∃ t,mg "PART_FIGURES"=some (.int 18 t)
 g_PART_SIZE:∃ t,mg "PART_SIZE"=some (.int 1000000000000000000 t)
 b_ValueError:mg "ValueError"=none
 b_all:mg "all"=none
 b_bool:mg "bool"=none
 b_int:mg "int"=none
 b_isinstance:mg "isinstance"=none
 b_len:mg "len"=none
 b_list:mg "list"=none
 b_range:mg "range"=none
 b_str:mg "str"=none
 b_tuple:mg "tuple"=none
 b_zip:mg "zip"=none
section
variable {P:Program}{w:World}{K:W.Frag}{mg:qa}{base:Heap}
def sc_law_mix:FnScope ["_law_number","_law_place","_law_turn","_law_part"] ["_law_number","_law_place"] (jad ji9):=.m rfl rfl rfl rfl (by decide +kernel)
def jhq:DSt->M Out:=(gSet 0 (f2 jhb (vR 0) (cI 2147483648)))
def jkv:DSt->M Out:=(gSeq (gIf (t2 gGe (vR 0) (f2 gPow (cI 10) (cI 12))) (gSeq (gSet 0 (f2 gSub (f2 jhb (vR 0) (f2 gPow (cI 10) (cI 12))) (cI 1)))
  (gSeq (gFor (jih jc6 (jac (f2 gMod (vR 1) (cI 61)) fNil)) (DL.gName 2) jhq)
  (gRet (f2 gMod (vR 0) (cI 2147483648))))) gNx)
  (gSeq (gSet 3 (f2 gMod (f2 jci (f2 gCat (f2 gCat (f2 gMod (vR 0) (cI 2147483629)) (vR 1)) (cI 1)) (f2 gCat (f2 jci (f2 jci (cI 8) (vR 1)) (vR 1)) (cI 48271))) (cI 2147483647)))
  (gSeq (gSet 3 (f2 gMod (f2 jci (vR 3) (vR 3)) (cI 2147483587)))
  (gRet (f2 gMod (f2 jci (vR 3) (f2 gCat (vR 3) (cI 2))) (cI 2147483579))))))
def jcp:List D->M D:=mir 2 4 jkv
def jog(T:Txt K mg):je8 P w K mg base 1 "_law_mix" ji9 ["_law_number","_law_place","_law_turn","_law_part"] jkv:=fun _ _ _ _ _ _ _ hr=>
 (jah (jdp (jap jGf jb4 (jaa 0) (jaw jAq jv9 jaf jaf) (jal _)) (jah (ja3 (i:=0) sc_law_mix.nd (jaw jpf jk7 (jaw jfh jfk (jaa 0) (jaw jAq jv9 jaf jaf)) jaf))
  (jah (jkq PassesOwn.never rfl (jkh rfl T.b_range (jab (jaw jdt jcn (jaa 1) jaf) jae)) (jdg (i:=2) sc_law_mix.nd) (jai (ja3 (i:=0) sc_law_mix.nd (jaw jfh jfk (jaa 0) jaf))))
  (jai (ja8 (jaw jdt jcn (jaa 0) jaf))))) jbi)
  (jah (ja3 (i:=3) sc_law_mix.nd (jaw jdt jcn (jaw jdh jca (jaw jbr jbs (jaw jbr jbs (jaw jdt jcn (jaa 0) jaf) (jaa 1)) jaf) (jaw jbr jbs (jaw jdh jca (jaw jdh jca jaf (jaa 1)) (jaa 1)) jaf)) jaf))
  (jah (ja3 (i:=3) sc_law_mix.nd (jaw jdt jcn (jaw jdh jca (jaa 3) (jaa 3)) jaf))
  (jai (ja8 (jaw jdt jcn (jaw jdh jca (jaa 3) (jaw jbr jbs (jaa 3) jaf)) jaf))))))
def jfz(T:Txt K mg):Cal P w K mg base 2 "_law_mix" 2 jcp:=jdd T.f_law_mix sc_law_mix (jog T)
def jw3:FnScope ["_law_script","_law_k"] ["_law_script","_law_k"] (jad jki):=.m rfl rfl rfl rfl (by decide +kernel)
def jm2:DSt->M Out:=(gSeq (gIf (t2 gLt (vR 1) (fL kLen (jac (vR 0) fNil))) (gRet (f2 gIx (vR 0) (vR 1))) gNx)
  (gRet (f2 gCat (f2 jci (cI 19) (vR 1)) (cI 8))))
def jhx:List D->M D:=mir 2 2 jm2
def jp5(T:Txt K mg):je8 P w K mg base 1 "_law_at" jki ["_law_script","_law_k"] jm2:=fun _ _ _ _ _ _ _ hr=>
 (jah (jdp (jap jj2 jb4 (jaa 1) (ja1 ja2 jb2 rfl T.b_len jdc (jab (jaa 0) jae)) (jal _)) (jai (ja8 (jbw jat jax (jaa 0) (jaa 1)))) jbi)
  (jai (ja8 (jaw jbr jbs (jaw jdh jca jaf (jaa 1)) jaf))))
def jvz(T:Txt K mg):Cal P w K mg base 2 "_law_at" 2 jhx:=jdd T.f_law_at jw3 (jp5 T)
def sc_law_name:FnScope ["_law_number","_law_name_here","_law_k"] ["_law_number"] (jad jh0):=.m rfl rfl rfl rfl (by decide +kernel)
def jf5:DSt->M Out:=(gSet 1 (f2 gCat (vR 1) (f2 gIx (cS "abcdefghijklmnopqrstuvwxyz") (f2 gMod (jbg jcp (jac (vR 0) (jac (vR 2) fNil))) (f2 gIx (fL jbq (jac (cI 26) (jac (cI 2) fNil))) (f2 gMod (f2 jhb (vR 0) (cI 10)) (cI 2)))))))
def jht:DSt->M Out:=(gSeq (gSet 1 (cS ""))
  (gSeq (gFor (jih jc6 (jac (f2 gCat (cI 1) (f2 gMod (vR 0) (cI 10))) fNil)) (DL.gName 2) jf5)
  (gRet (vR 1))))
def jfx:List D->M D:=mir 1 3 jht
def jmi(T:Txt K mg):je8 P w K mg base 2 "_law_name" jh0 ["_law_number","_law_name_here","_law_k"] jht:=fun _ _ _ _ _ _ _ hr=>
 (jah (ja3 (i:=1) sc_law_name.nd jan)
  (jah (jkq PassesOwn.never rfl (jkh rfl T.b_range (jab (jaw jbr jbs jaf (jaw jdt jcn (jaa 0) jaf)) jae)) (jdg (i:=2) sc_law_name.nd) (jai (ja3 (i:=1) sc_law_name.nd (jaw jbr jbs (jaa 1) (jbw jat jax jan (jaw jdt jcn (ja0 (jfz T) (hr.m rfl) (jab (jaa 0) (jab (jaa 2) jae))) (jbw jat jax (jg5 (jab jaf (jab jaf jae))) (jaw jdt jcn (jaw jfh jfk (jaa 0) jaf) jaf))))))))
  (jai (ja8 (jaa 1)))))
def jqt(T:Txt K mg):Cal P w K mg base 3 "_law_name" 1 jfx:=jdd T.f_law_name sc_law_name (jmi T)
def sc_law_names:FnScope ["_law_number","_law_most","_law_names_here","_law_k","_law_name_here"] ["_law_number","_law_most"] (jad jgs):=.m rfl rfl rfl rfl (by decide +kernel)
def jd9:DSt->M Out:=(gSeq (gSet 4 (jbg jfx (jac (jbg jcp (jac (vR 0) (jac (f2 gCat (cI 20) (vR 3)) fNil))) fNil)))
  (gIf (t2 je3 (vR 4) (vR 2)) (gApp 2 (vR 4)) gNx))
def jgf:DSt->M Out:=(gSeq (gSet 2 (fL jbq fNil))
  (gSeq (gFor (jih jc6 (jac (f2 gCat (cI 1) (f2 gMod (vR 0) (vR 1))) fNil)) (DL.gName 3) jd9)
  (gRet (vR 2))))
def jgl:List D->M D:=mir 2 5 jgf
def jlp(T:Txt K mg):je8 P w K mg base 3 "_law_names" jgs ["_law_number","_law_most","_law_names_here","_law_k","_law_name_here"] jgf:=fun _ _ _ _ _ _ _ hr=>
 (jah (jrq (i:=2) sc_law_names.nd jae)
  (jah (jkq PassesOwn.never rfl (jkh rfl T.b_range (jab (jaw jbr jbs jaf (jaw jdt jcn (jaa 0) (jaa 1))) jae)) (jdg (i:=3) sc_law_names.nd) (jah (ja3 (i:=4) sc_law_names.nd (ja0 (jqt T) (hr.m rfl) (jab (ja0 (jfz T) (hr.m rfl) (jab (jaa 0) (jab (jaw jbr jbs jaf (jaa 3)) jae))) jae)))
  (jai (jdp (jkr (O':=[]) (by decide) (jap jfj ji8 (jaa 4) (jaa 2) rfl)) (jai (jir (i:=2) rfl (jaa 4))) jbi))))
  (jmt (O':=[]) (by decide) (jai (ja8 (jaa 2))))))
def jpa(T:Txt K mg):Cal P w K mg base 4 "_law_names" 2 jgl:=jdd T.f_law_names sc_law_names (jlp T)
def sc_law_written:FnScope ["_law_tokens_here","_law_number","_law_written_here","_law_k"] ["_law_tokens_here","_law_number"] (jad jev):=.m rfl rfl rfl rfl (by decide +kernel)
def jd4:DSt->M Out:=(gSet 2 (f2 gCat (f2 gCat (vR 2) (f2 jci (fC (.str " ")) (f2 gIx (fL jbq (jac (cI 0) (jac (cI 0) (jac (cI 1) (jac (cI 0) (jac (cI 2) fNil)))))) (f2 gMod (jbg jcp (jac (vR 1) (jac (vR 3) fNil))) (cI 5))))) (f2 gIx (vR 0) (vR 3))))
def jes:DSt->M Out:=(gSeq (gSet 2 (cS ""))
  (gSeq (gFor (jih jc6 (jac (fL kLen (jac (vR 0) fNil)) fNil)) (DL.gName 3) jd4)
  (gRet (vR 2))))
def jet:List D->M D:=mir 2 4 jes
def jj5(T:Txt K mg):je8 P w K mg base 2 "_law_written" jev ["_law_tokens_here","_law_number","_law_written_here","_law_k"] jes:=fun _ _ _ _ _ _ _ hr=>
 (jah (ja3 (i:=2) sc_law_written.nd jan)
  (jah (jkq PassesOwn.never rfl (jkh rfl T.b_range (jab (ja1 ja2 jb2 rfl T.b_len jdc (jab (jaa 0) jae)) jae)) (jdg (i:=3) sc_law_written.nd) (jai (ja3 (i:=2) sc_law_written.nd (jaw jbr jbs (jaw jbr jbs (jaa 2) (jaw jdh jca jan (jbw jat jax (jg5 (jab jaf (jab jaf (jab jaf (jab jaf (jab jaf jae)))))) (jaw jdt jcn (ja0 (jfz T) (hr.m rfl) (jab (jaa 1) (jab (jaa 3) jae))) jaf)))) (jbw jat jax (jaa 0) (jaa 3))))))
  (jai (ja8 (jaa 2)))))
def jlx(T:Txt K mg):Cal P w K mg base 3 "_law_written" 2 jet:=jdd T.f_law_written sc_law_written (jj5 T)
def sc_law_built:FnScope ["_law_script","_law_names_here","_law_tokens_here","_law_depth","_law_cell","_law_number"] ["_law_script","_law_names_here"] (jad jgr):=.m rfl rfl rfl rfl (by decide +kernel)
def jdm:DSt->M Out:=(gSeq (gSet 5 (jbg jcp (jac (vR 4) (jac (cI 2) fNil))))
  (gSeq (gIf (DL.tAnd (t2 gGt (jqc (fL kLen (jac (vR 2) fNil))) (cI 0)) (t2 je3 (f2 gIx (vR 2) (f1 gNeg (cI 1))) (fL jb3 (jac (fC (.str "(")) (jac (cS "+") (jac (cS "-") (jac (cS "*") fNil))))))) (gSeq (gIf (DL.tAnd (t2 gEq (f2 gMod (vR 5) (cI 6)) (cI 0)) (t2 gGt (vR 3) (cI 0))) (gSeq (gApp 2 (fC (.str ")")))
  (gSeq (gSet 3 (f2 gSub (vR 3) (cI 1)))
  gCnt)) gNx)
  (gApp 2 (f2 gIx (cS "*+*-*-") (f2 gMod (f2 jhb (vR 5) (cI 6)) (cI 6))))) (gIf (DL.tAnd (t2 gEq (f2 gMod (f2 jhb (vR 5) (cI 6)) (cI 8)) (cI 0)) (DL.tAnd (t2 gNe (fSl (vR 2) (jcc (f1 gNeg (cI 1))) jjq) (fL jbq (jac (cS "+") fNil))) (DL.tAnd (t2 gNe (fSl (vR 2) (jcc (f1 gNeg (cI 1))) jjq) (fL jbq (jac (cS "-") fNil))) (t2 gNe (fSl (vR 2) (jcc (f1 gNeg (cI 1))) jjq) (fL jbq (jac (cS "*") fNil)))))) (gApp 2 (cS "-")) gNx))
  (gSeq (gSet 5 (f2 jhb (vR 5) (cI 48)))
  (gIf (DL.tAnd (t2 gEq (f2 gMod (vR 5) (cI 4)) (cI 0)) (t2 gLt (vR 3) (cI 5))) (gSeq (gApp 2 (fC (.str "(")))
  (gSet 3 (f2 gCat (vR 3) (cI 1)))) (gApp 2 (f2 gIx (fL jbq (jac (f2 gIx (vR 1) (f2 gMod (f2 jhb (vR 5) (cI 4)) (fL kLen (jac (vR 1) fNil)))) (jac (fL kStr (jac (f2 gMod (f2 jhb (vR 5) (cI 16)) (cI 4)) fNil)) fNil))) (fL kIntT (jac (f2 gEq (f2 gMod (vR 5) (cI 4)) (cI 1)) fNil))))))))
def jge:DSt->M Out:=(gSeq (gSet 2 (fL jbq fNil))
  (gSeq (gSet 3 (cI 0))
  (gSeq (gFor (jed (fSl (vR 0) (jcc (cI 1)) (jcc (cI 25)))) (DL.gName 4) jdm)
  (gSeq (gIf (DL.tOr (t2 gEq (vR 2) (fL jbq fNil)) (t2 gIn (f2 gIx (vR 2) (f1 gNeg (cI 1))) (fL jb3 (jac (fC (.str "(")) (jac (cS "+") (jac (cS "-") (jac (cS "*") fNil))))))) (gApp 2 (f2 gIx (vR 1) (cI 0))) gNx)
  (gRet (f2 gCat (vR 2) (fRep (jac (fC (.str ")")) fNil) (vR 3))))))))
def jgk:List D->M D:=mir 2 6 jge
def jlo(T:Txt K mg):je8 P w K mg base 2 "_law_built" jgr ["_law_script","_law_names_here","_law_tokens_here","_law_depth","_law_cell","_law_number"] jge:=fun _ _ _ _ _ _ _ hr=>
 (jah (jrq (i:=2) sc_law_built.nd jae)
  (jah (ja3 (i:=3) sc_law_built.nd jaf)
  (jah (jkq PassesOwn.never rfl (jfd (jeq (jaa 0) (jdy jaf) (jdy jaf))) (jdg (i:=4) sc_law_built.nd) (jah (ja3 (i:=5) sc_law_built.nd (ja0 (jfz T) (hr.m rfl) (jab (jaa 4) (jab jaf jae))))
  (jah (jdp (DW.dt (jff (jap ji6 jb4 (jB0 (O':=[]) (by decide) (ja1 ja2 jb2 rfl T.b_len jdc (jab (jaa 2) jae))) jaf (jal _)) (je2 (jap jfj ji8 (joq 2 rfl (jjh jf4 jd2 jaf)) (jc0 (jab jan (jab jan (jab jan (jab jan jae))))) rfl)))) (jah (jdp (DW.dt (jff (jap (jbo (hu30 hr)) jbp (jaw jdt jcn (jaa 5) jaf) jaf (jal _)) (je2 (jap ji6 jb4 (jaa 3) jaf (jal _))))) (jah (jir (i:=2) rfl jan)
  (jah (ja3 (i:=3) sc_law_built.nd (jaw jpf jk7 (jaa 3) jaf))
  (jai jur))) jbi)
  (jai (jir (i:=2) rfl (jbw jat jax jan (jaw jdt jcn (jaw jfh jfk (jaa 5) jaf) jaf))))) (jai (jdp (DW.dt (jff (jap (jbo (hu30 hr)) jbp (jaw jdt jcn (jaw jfh jfk (jaa 5) jaf) jaf) jaf (jal _)) (jff (jkr (O':=[]) (by decide) (jap (jfi (hu30 hr)) jfl (jeq (jaa 2) (jdy (jjh jf4 jd2 jaf)) jkp) (jg5 (jab jan jae)) (jal _))) (jff (jkr (O':=[]) (by decide) (jap (jfi (hu30 hr)) jfl (jeq (jaa 2) (jdy (jjh jf4 jd2 jaf)) jkp) (jg5 (jab jan jae)) (jal _))) (je2 (jkr (O':=[]) (by decide) (jap (jfi (hu30 hr)) jfl (jeq (jaa 2) (jdy (jjh jf4 jd2 jaf)) jkp) (jg5 (jab jan jae)) (jal _)))))))) (jai (jir (i:=2) rfl jan)) jbi)))
  (jah (ja3 (i:=5) sc_law_built.nd (jaw jfh jfk (jaa 5) jaf))
  (jai (jdp (DW.dt (jff (jap (jbo (hu30 hr)) jbp (jaw jdt jcn (jaa 5) jaf) jaf (jal _)) (je2 (jap jj2 jb4 (jaa 3) jaf (jal _))))) (jah (jir (i:=2) rfl jan)
  (jai (ja3 (i:=3) sc_law_built.nd (jaw jbr jbs (jaa 3) jaf)))) (jai (jir (i:=2) rfl (jbw jat jax (jg5 (jab (jbw jat jax (jaa 1) (jaw jdt jcn (jaw jfh jfk (jaa 5) jaf) (ja1 ja2 jb2 rfl T.b_len jdc (jab (jaa 1) jae)))) (jab (jbc jok jBw rfl T.b_str jE2 (jab (jaw jdt jcn (jaw jfh jfk (jaa 5) jaf) jaf) jae)) jae))) (jbc jec jfa rfl T.b_int jio (jab (jfc (jbo (hu30 hr)) jbp (jaw jdt jcn (jaa 5) jaf) jaf (jal _)) jae)))))))))))
  (jah (jdp (DW.dt (jp8 (jkr (O':=[]) (by decide) (jap (jbo (hu30 hr)) jbp (jaa 2) (jg5 jae) (jal _))) (jos (jap jhk jpg (joq 2 rfl (jjh jf4 jd2 jaf)) (jc0 (jab jan (jab jan (jab jan (jab jan jae))))) rfl)))) (jai (jir (i:=2) rfl (jbw jat jax (jaa 1) jaf))) jbi)
  (jmt (O':=[]) (by decide) (jai (ja8 (jaw jbr jbs (jaa 2) (jp7 (jab jan jae) (jaa 3))))))))))
def jo9(T:Txt K mg):Cal P w K mg base 3 "_law_built" 2 jgk:=jdd T.f_law_built sc_law_built (jlo T)
def sc_law_reckon:FnScope ["_law_values","_law_marks","_law_mark","_law_place","_law_other","_law_one","_law_many","_law_both"] ["_law_values","_law_marks"] (jad jb8):=.m rfl rfl rfl rfl (by decide +kernel)
def jf7:DSt->M D:=(vR 0)
def jf8:DSt->M D:=(vR 0)
def jf9:DSt->M D:=(vR 0)
def jep:DSt->M D:=(f2 jci (f2 gIx (vR 1) (cI 1)) (vR 0))
def jga:DSt->M D:=(f2 gCat (vR 0) (f2 jci (vR 2) (vR 1)))
def jdn:DSt->MS Out:=(eSeq (eAsg (je4 2 3) (jjm (lF (vR 1))))
  (eSeq (eSet 4 (jjm (lF (vR 0))))
  (eSeq (eSet 5 (jjm (lF (vR 0))))
  (eSeq (eIf (lF (t2 gEq (vR 2) (cS "*"))) (eSeq (lF (gIf (DL.tAnd (t2 gGt (fL kLen (jac (jha 1 [] (jed (f2 gIx (vR 5) (cI 0))) (DL.gName 0) (t2 gNe (vR 0) (cI 0)) jf8) fNil)) (cI 0)) (t2 gGt (fL kLen (jac (jha 1 [] (jed (f2 gIx (vR 4) (cI 0))) (DL.gName 0) (t2 gNe (vR 0) (cI 0)) jf7) fNil)) (cI 0))) (gRet (vR 3)) gNx))
  (eSeq (lF (gIf (t2 gGt (fL kLen (jac (jha 1 [] (jed (f2 gIx (vR 5) (cI 0))) (DL.gName 0) (t2 gNe (vR 0) (cI 0)) jf9) fNil)) (cI 0)) (gAsg (je4 5 4) (fL jb3 (jac (vR 4) (jac (vR 5) fNil)))) gNx))
  (eSeq (je9 (jjl (lF (vR 0)) (lF (fL jb3 (jac (fL kTuple (jac (jha 1 [("_law_one",5)] (jed (f2 gIx (vR 4) (cI 0))) (DL.gName 0) tYes jep) fNil)) (jac (f2 jci (f2 gIx (vR 5) (cI 1)) (f2 gIx (vR 4) (cI 1))) fNil))))))
  (lF (gRet (fC .non)))))) eNx)
  (eSeq (lF (gSet 6 (f2 gIx (fL jbq (jac (f2 gSub (cI 0) (cI 1)) (jac (cI 1) fNil))) (fL kIntT (jac (f2 gEq (vR 2) (cS "+")) fNil)))))
  (eSeq (lF (gSet 7 (fL kTuple (jac (jha 2 [("_law_many",6)] (jih jfp (jac (f2 gIx (vR 5) (cI 0)) (jac (f2 gIx (vR 4) (cI 0)) fNil))) (je4 0 1) tYes jga) fNil))))
  (eSeq (je9 (jjl (lF (vR 0)) (lF (fL jb3 (jac (vR 7) (jac (f2 gCat (f2 gIx (vR 5) (cI 1)) (f2 jci (vR 6) (f2 gIx (vR 4) (cI 1)))) fNil))))))
  (lF (gRet (fC .non))))))))))
def jb7:List D->MS D:=mirE 2 8 jdn
def jkl(T:Txt K mg):jn9 P w K mg base 1 "_law_reckon" jb8 ["_law_values","_law_marks","_law_mark","_law_place","_law_other","_law_one","_law_many","_law_both"] jdn:=fun _ _ _ _ _ _ _ hr=>
 (jak (jAl (jnb (jag (jaa 1))) (jg7 (i:=2) (j:=3) rfl sc_law_reckon.nd))
  (jak (jo3 (i:=4) sc_law_reckon.nd (jnb (jag (jaa 0))))
  (jak (jo3 (i:=5) sc_law_reckon.nd (jnb (jag (jaa 0))))
  (jak (jnf (jej (jap (jbo (hu30 hr)) jbp (jaa 2) jan (jal _))) (jak (jbd (jdp (DW.dt (jff (jap ji6 jb4 (ja1 ja2 jb2 rfl T.b_len jdc (jab (je1 (own:=["_law_x"]) (caps:=[]) rfl (jez (N:=["_law_values","_law_marks","_law_mark","_law_place","_law_other","_law_one","_law_many","_law_both"]) (osc:=jad jb8) rfl rfl rfl (by decide +kernel)) (jfd (jbw jat jax (jaa 5) jaf)) (fun _ _ _ _=>(jdg (i:=0) (show (["_law_x"]:List Str).Nodup from by decide +kernel))) (fun _ _ _ _=>(jrl (jap (jfi (hu30 hr)) jfl (jaa 0) jaf (jal _)))) (fun _ _ _ _=>(jaa 0))) jae)) jaf (jal _)) (je2 (jap ji6 jb4 (ja1 ja2 jb2 rfl T.b_len jdc (jab (je1 (own:=["_law_x"]) (caps:=[]) rfl (jez (N:=["_law_values","_law_marks","_law_mark","_law_place","_law_other","_law_one","_law_many","_law_both"]) (osc:=jad jb8) rfl rfl rfl (by decide +kernel)) (jfd (jbw jat jax (jaa 4) jaf)) (fun _ _ _ _=>(jdg (i:=0) (show (["_law_x"]:List Str).Nodup from by decide +kernel))) (fun _ _ _ _=>(jrl (jap (jfi (hu30 hr)) jfl (jaa 0) jaf (jal _)))) (fun _ _ _ _=>(jaa 0))) jae)) jaf (jal _))))) (jai (ja8 (jaa 3))) jbi))
  (jak (jbd (jdp (jap ji6 jb4 (ja1 ja2 jb2 rfl T.b_len jdc (jab (je1 (own:=["_law_x"]) (caps:=[]) rfl (jez (N:=["_law_values","_law_marks","_law_mark","_law_place","_law_other","_law_one","_law_many","_law_both"]) (osc:=jad jb8) rfl rfl rfl (by decide +kernel)) (jfd (jbw jat jax (jaa 5) jaf)) (fun _ _ _ _=>(jdg (i:=0) (show (["_law_x"]:List Str).Nodup from by decide +kernel))) (fun _ _ _ _=>(jrl (jap (jfi (hu30 hr)) jfl (jaa 0) jaf (jal _)))) (fun _ _ _ _=>(jaa 0))) jae)) jaf (jal _)) (jai (jE8 (jc0 (jab (jaa 4) (jab (jaa 5) jae))) (jg7 (i:=5) (j:=4) rfl sc_law_reckon.nd))) jbi))
  (jak (jhi (jjo (jag (jaa 0)) (jag (jc0 (jab (jbc jb6 jeb rfl T.b_tuple jd5 (jab (je1 (own:=["_law_x"]) (caps:=[("_law_one",5)]) rfl (jez (N:=["_law_values","_law_marks","_law_mark","_law_place","_law_other","_law_one","_law_many","_law_both"]) (osc:=jad jb8) rfl rfl rfl (by decide +kernel)) (jfd (jbw jat jax (jaa 4) jaf)) (fun _ _ _ _=>(jdg (i:=0) (show (["_law_x","_law_one"]:List Str).Nodup from by decide +kernel))) (fun _ _ _ _=>jic) (fun _ _ _ _=>(jaw jdh jca (jbw jat jax (jaa 1) jaf) (jaa 0)))) jae)) (jab (jaw jdh jca (jbw jat jax (jaa 5) jaf) (jbw jat jax (jaa 4) jaf)) jae))))))
  (jcb (jbd (ja8 jgz)))))) jgo)
  (jak (jbd (ja3 (i:=6) sc_law_reckon.nd (jbw jat jax (jg5 (jab (jaw jpf jk7 jaf jaf) (jab jaf jae))) (jbc jec jfa rfl T.b_int jio (jab (jfc (jbo (hu30 hr)) jbp (jaa 2) jan (jal _)) jae)))))
  (jak (jbd (ja3 (i:=7) sc_law_reckon.nd (jbc jb6 jeb rfl T.b_tuple jd5 (jab (je1 (own:=["_law_x","_law_y"]) (caps:=[("_law_many",6)]) rfl (jez (N:=["_law_values","_law_marks","_law_mark","_law_place","_law_other","_law_one","_law_many","_law_both"]) (osc:=jad jb8) rfl rfl rfl (by decide +kernel)) (jz8 rfl T.b_zip (jab (jbw jat jax (jaa 5) jaf) (jab (jbw jat jax (jaa 4) jaf) jae))) (fun _ _ _ _=>(jg7 (i:=0) (j:=1) rfl (show (["_law_x","_law_y","_law_many"]:List Str).Nodup from by decide +kernel))) (fun _ _ _ _=>jic) (fun _ _ _ _=>(jaw jbr jbs (jaa 0) (jaw jdh jca (jaa 2) (jaa 1))))) jae))))
  (jak (jhi (jjo (jag (jaa 0)) (jag (jc0 (jab (jaa 7) (jab (jaw jbr jbs (jbw jat jax (jaa 5) jaf) (jaw jdh jca (jaa 6) (jbw jat jax (jaa 4) jaf))) jae))))))
  (jcb (jbd (ja8 jgz))))))))))
def jnk(T:Txt K mg):CalE P w K mg base 2 "_law_reckon" 2 jb7:=juf T.f_law_reckon sc_law_reckon (jkl T)
def sc_law_due:FnScope ["_law_names_here","_law_tokens_here","_law_zero","_law_values","_law_marks","_law_begin","_law_token","_law_place","_law_number","_law_low","_law_fault"] ["_law_names_here","_law_tokens_here"] (jad jhp):=.m rfl rfl rfl rfl (by decide +kernel)
def jhr:DSt->M D:=(fL kIntT (jac (f2 gEq (vR 0) (vR 1)) fNil))
def jbb:DSt->MS Bool:=(mAnd (mB (m2 gGt (jiz 4 (fL kLen (jac (vR 4) fNil))) (lF (cI 0)))) (mAnd (mB (m2 gNe (m2 gIx (mIxL (lF (vR 4)) (lF (f1 gNeg (cI 1)))) (lF (cI 0))) (lF (fC (.str "("))))) (mOr (lF (t2 gEq (vR 9) (fC (.str "(")))) (mB (m2 gEq (m2 gIx (mIxL (lF (vR 4)) (lF (f1 gNeg (cI 1)))) (lF (cI 0))) (lF (cS "*")))))))
def ja9:DSt->MS Out:=(eSeq (eSet 10 (jgj jb7 (jfu (lF (vR 3)) (jfu (lF (vR 4)) (lF fNil)))))
  (lF (gIf (t2 jAd (vR 10) (fC .non)) (gRet (fL jb3 (jac (vR 10) (jac (fC .non) fNil)))) gNx)))
def jba:DSt->MS Out:=(eSeq (eIf (lF (DL.tOr (t2 gEq (vR 6) (fC (.str "("))) (DL.tAnd (t2 gEq (vR 6) (cS "-")) (tTru (vR 5))))) (eSeq (eIf (lF (t2 gEq (vR 6) (cS "-"))) (je9 (jjl (lF (vR 3)) (lF (fL jb3 (jac (vR 2) (jac (cI 0) fNil)))))) eNx)
  (eSeq (je9 (jjl (lF (vR 4)) (lF (fL jb3 (jac (vR 6) (jac (vR 7) fNil))))))
  (eSeq (lF (gSet 5 (f2 gEq (vR 6) (fC (.str "(")))))
  (lF gCnt)))) eNx)
  (eSeq (eIf (lF (DL.tOr (t2 gIn (vR 6) (vR 0)) (t2 gInS (f2 gIx (vR 6) (cI 0)) (cS "0123456789")))) (eSeq (lF (gSet 8 (cI 0)))
  (eSeq (lF (gIf (t2 je3 (vR 6) (vR 0)) (gSet 8 (fL kIntT (jac (vR 6) fNil))) gNx))
  (eSeq (je9 (jjl (lF (vR 3)) (lF (fL jb3 (jac (fL kTuple (jac (jha 1 [("_law_token",6)] (jed (vR 0)) (DL.gName 0) tYes jhr) fNil)) (jac (vR 8) fNil))))))
  (eSeq (lF (gSet 5 (fC (.bl false))))
  (lF gCnt))))) eNx)
  (eSeq (lF (gSet 9 (f2 gIx (fL jbq (jac (cS "*") (jac (fC (.str "(")) (jac (fC (.str "(")) fNil)))) (f2 gCat (fL kIntT (jac (f2 gInS (vR 6) (cS "+-")) fNil)) (f2 jci (cI 2) (fL kIntT (jac (f2 gEq (vR 6) (fC (.str ")"))) fNil)))))))
  (eSeq (jcg jbb ja9 FUEL)
  (eSeq (eIf (mAnd (lF (t2 gEq (vR 6) (fC (.str ")")))) (mB (m2 gGt (jiz 4 (fL kLen (jac (vR 4) fNil))) (lF (cI 0))))) (je9 (jjm (lF (vR 4)))) eNx)
  (eIf (lF (t2 gNe (vR 6) (fC (.str ")")))) (je9 (jjl (lF (vR 4)) (lF (fL jb3 (jac (vR 6) (jac (vR 7) fNil)))))) eNx))))))
def jiw:DSt->MS Out:=(eSeq (lF (gSet 2 (f2 jci (fL jb3 (jac (cI 0) fNil)) (fL kLen (jac (vR 0) fNil)))))
  (eSeq (eSet 3 (jCt (lF fNil)))
  (eSeq (eSet 4 (jCt (lF fNil)))
  (eSeq (lF (gSet 5 (fC (.bl true))))
  (eSeq (eFor (lF (jed (f2 gCat (vR 1) (fL jbq (jac (fL jb3 (jac (fC (.str ")")) (jac (f2 gSub (cI 0) (cI 1)) fNil))) fNil))))) (je4 6 7) jba)
  (eRet (mL jb3 (jfu (lF (fC .non)) (jfu (mIxL (lF (vR 3)) (lF (cI 0))) (lF fNil))))))))))
def jhg:List D->MS D:=mirE 2 11 jiw
def jof(T:Txt K mg):jn9 P w K mg base 2 "_law_due" jhp ["_law_names_here","_law_tokens_here","_law_zero","_law_values","_law_marks","_law_begin","_law_token","_law_place","_law_number","_law_low","_law_fault"] jiw:=fun _ _ _ _ _ _ _ hr=>
 (jak (jbd (ja3 (i:=2) sc_law_due.nd (jaw jdh jca (jc0 (jab jaf jae)) (ja1 ja2 jb2 rfl T.b_len jdc (jab (jaa 0) jae)))))
  (jak (jo3 (i:=3) sc_law_due.nd (jvn (jcl jae)))
  (jak (jo3 (i:=4) sc_law_due.nd (jvn (jcl jae)))
  (jak (jbd (ja3 (i:=5) sc_law_due.nd juo))
  (jak (jF7 PassesOwn.never rfl (jqo (jfd (jaw jbr jbs (jaa 1) (jg5 (jab (jc0 (jab jan (jab (jaw jpf jk7 jaf jaf) jae))) jae))))) (jg7 (i:=6) (j:=7) rfl sc_law_due.nd) (jak (jnf (jej (DW.dt (jp8 (jap (jbo (hu30 hr)) jbp (jaa 6) jan (jal _)) (jos (DW.dt (jff (jap (jbo (hu30 hr)) jbp (jaa 6) jan (jal _)) (je2 (jfe (jaa 5))))))))) (jak (jnf (jej (jap (jbo (hu30 hr)) jbp (jaa 6) jan (jal _))) (jcb (jhi (jjo (jag (jaa 3)) (jag (jc0 (jab (jaa 2) (jab jaf jae))))))) jgo)
  (jak (jhi (jjo (jag (jaa 4)) (jag (jc0 (jab (jaa 6) (jab (jaa 7) jae))))))
  (jak (jbd (ja3 (i:=5) sc_law_due.nd (jfc (jbo (hu30 hr)) jbp (jaa 6) jan (jal _))))
  (jcb (jbd jur))))) jgo)
  (jak (jnf (jej (DW.dt (jp8 (jap jhk jpg (jaa 6) (jaa 0) rfl) (jos (jap ji7 jnn (jbw jat jax (jaa 6) jaf) jan rfl))))) (jak (jbd (ja3 (i:=8) sc_law_due.nd jaf))
  (jak (jbd (jdp (jap jfj ji8 (jaa 6) (jaa 0) rfl) (jai (ja3 (i:=8) sc_law_due.nd (jbc jec jfa rfl T.b_int jio (jab (jaa 6) jae)))) jbi))
  (jak (jhi (jjo (jag (jaa 3)) (jag (jc0 (jab (jbc jb6 jeb rfl T.b_tuple jd5 (jab (je1 (own:=["_law_name_here"]) (caps:=[("_law_token",6)]) rfl (jez (N:=["_law_names_here","_law_tokens_here","_law_zero","_law_values","_law_marks","_law_begin","_law_token","_law_place","_law_number","_law_low","_law_fault"]) (osc:=jad jhp) rfl rfl rfl (by decide +kernel)) (jfd (jaa 0)) (fun _ _ _ _=>(jdg (i:=0) (show (["_law_name_here","_law_token"]:List Str).Nodup from by decide +kernel))) (fun _ _ _ _=>jic) (fun _ _ _ _=>(jbc jec jfa rfl T.b_int jio (jab (jfc (jbo (hu30 hr)) jbp (jaa 0) (jaa 1) (jal _)) jae)))) jae)) (jab (jaa 8) jae))))))
  (jak (jbd (ja3 (i:=5) sc_law_due.nd juo))
  (jcb (jbd jur)))))) jgo)
  (jak (jbd (ja3 (i:=9) sc_law_due.nd (jbw jat jax (jg5 (jab jan (jab jan (jab jan jae)))) (jaw jbr jbs (jbc jec jfa rfl T.b_int jio (jab (jfc ji7 jnn (jaa 6) jan rfl) jae)) (jaw jdh jca jaf (jbc jec jfa rfl T.b_int jio (jab (jfc (jbo (hu30 hr)) jbp (jaa 6) jan (jal _)) jae)))))))
  (jak (jyv (fuel:=FUEL) PassesOwn.never (MW.mt (jvt (jo6 ji6 jb4 (jr5 (i:=4) rfl (ja1 ja2 jb2 rfl T.b_len jdc (jab (jaa 4) jae))) (jag jaf) (jal _)) (jvt (jo6 (jfi (hu30 hr)) jfl (jF2 jat jax (jvl (jag (jaa 4)) (jag (jjh jf4 jd2 jaf))) (jag jaf)) (jag jan) (jal _)) (jvu (MW.mt (jGc (jej (jap (jbo (hu30 hr)) jbp (jaa 9) jan (jal _))) (jAo (jo6 (jbo (hu30 hr)) jbp (jF2 jat jax (jvl (jag (jaa 4)) (jag (jjh jf4 jd2 jaf))) (jag jaf)) (jag jan) (jal _))))))))) (jak (jo3 (i:=10) sc_law_due.nd (jvj (jnk T) (hr.m rfl) (jdr (jag (jaa 3)) (jdr (jag (jaa 4)) (jcl jae)))))
  (jcb (jbd (jdp (jap jDb jv8 (jaa 10) jgz (jal _)) (jai (ja8 (jc0 (jab (jaa 10) (jab jgz jae))))) jbi)))))
  (jak (jnf (MW.mt (jvt (jej (jap (jbo (hu30 hr)) jbp (jaa 6) jan (jal _))) (jvu (jo6 ji6 jb4 (jr5 (i:=4) rfl (ja1 ja2 jb2 rfl T.b_len jdc (jab (jaa 4) jae))) (jag jaf) (jal _))))) (jcb (jhi (jnb (jag (jaa 4))))) jgo)
  (jcb (jnf (jej (jap (jfi (hu30 hr)) jfl (jaa 6) jan (jal _))) (jcb (jhi (jjo (jag (jaa 4)) (jag (jc0 (jab (jaa 6) (jab (jaa 7) jae))))))) jgo))))))))
  (jcb (jr9 (jF5 (jdr (jag jgz) (jdr (jvl (jag (jaa 3)) (jag jaf)) (jcl jae)))))))))))
def jtk(T:Txt K mg):CalE P w K mg base 3 "_law_due" 2 jhg:=juf T.f_law_due sc_law_due (jof T)
def sc_law_tokens:FnScope ["_law_written_here","_law_found","_law_k","_law_end","_law_signs"] ["_law_written_here"] (jad jfm):=.m rfl rfl rfl rfl (by decide +kernel)
def jdb:DSt->M Bool:=(DL.tAnd (t2 gLt (vR 3) (fL kLen (jac (vR 0) fNil))) (t2 gInS (f2 gIx (vR 0) (vR 3)) (vR 4)))
def jen:DSt->M Out:=(gSet 3 (f2 gCat (vR 3) (cI 1)))
def jeo:DSt->M Out:=(gIf (t2 gInS (f2 gIx (vR 0) (vR 2)) (vR 4)) (jb0 jdb jen FUEL) gNx)
def jbt:DSt->M Bool:=(t2 gLt (vR 2) (fL kLen (jac (vR 0) fNil)))
def jch:DSt->M Out:=(gSeq (gSet 3 (f2 gCat (vR 2) (cI 1)))
  (gSeq (gFor (jed (fL jbq (jac (cS "0123456789") (jac (cS "abcdefghijklmnopqrstuvwxyz") fNil)))) (DL.gName 4) jeo)
  (gSeq (gIf (t2 gNe (f2 gIx (vR 0) (vR 2)) (fC (.str " "))) (gApp 1 (fL jb3 (jac (fSl (vR 0) (jcc (vR 2)) (jcc (vR 3))) (jac (vR 2) fNil)))) gNx)
  (gSet 2 (vR 3)))))
def jhd:DSt->M Out:=(gSeq (gSet 1 (fL jbq fNil))
  (gSeq (gSet 2 (cI 0))
  (gSeq (jb0 jbt jch FUEL)
  (gRet (vR 1)))))
def jee:List D->M D:=mir 1 5 jhd
def jkm(T:Txt K mg):je8 P w K mg base 1 "_law_tokens" jfm ["_law_written_here","_law_found","_law_k","_law_end","_law_signs"] jhd:=fun _ _ _ _ _ _ _ hr=>
 (jah (jrq (i:=1) sc_law_tokens.nd jae)
  (jah (ja3 (i:=2) sc_law_tokens.nd jaf)
  (jah (jis (fuel:=FUEL) PassesOwn.never (jap jj2 jb4 (jaa 2) (ja1 ja2 jb2 rfl T.b_len jdc (jab (jaa 0) jae)) (jal _)) (jah (ja3 (i:=3) sc_law_tokens.nd (jaw jbr jbs (jaa 2) jaf))
  (jah (jkq PassesOwn.never rfl (jfd (jg5 (jab jan (jab jan jae)))) (jdg (i:=4) sc_law_tokens.nd) (jai (jdp (jap ji7 jnn (jbw jat jax (jaa 0) (jaa 2)) (jaa 4) rfl) (jai (jis (fuel:=FUEL) PassesOwn.never (DW.dt (jff (jap jj2 jb4 (jaa 3) (ja1 ja2 jb2 rfl T.b_len jdc (jab (jaa 0) jae)) (jal _)) (je2 (jap ji7 jnn (jbw jat jax (jaa 0) (jaa 3)) (jaa 4) rfl)))) (jai (ja3 (i:=3) sc_law_tokens.nd (jaw jbr jbs (jaa 3) jaf))))) jbi)))
  (jah (jdp (jap (jfi (hu30 hr)) jfl (jbw jat jax (jaa 0) (jaa 2)) jan (jal _)) (jai (jir (i:=1) rfl (jc0 (jab (jeq (jaa 0) (jdy (jaa 2)) (jdy (jaa 3))) (jab (jaa 2) jae))))) jbi)
  (jai (ja3 (i:=2) sc_law_tokens.nd (jaa 3)))))))
  (jmt (O':=[]) (by decide) (jai (ja8 (jaa 1)))))))
def jnl(T:Txt K mg):Cal P w K mg base 2 "_law_tokens" 1 jee:=jdd T.f_law_tokens sc_law_tokens (jkm T)
def jpp:FnScope ["sign"] ["sign"] (jad jgq):=.m rfl rfl rfl rfl (by decide +kernel)
def jie:DSt->M Out:=(gRet (jou gLe gLe (cS "a") (vR 0) (cS "z")))
def jbn:List D->M D:=mir 1 1 jie
def jln(T:Txt K mg):je8 P w K mg base 1 "is_letter" jgq ["sign"] jie:=fun _ _ _ _ _ _ _ hr=>
 (jai (ja8 (jrm jsd jb4 jsd jb4 jan (jaa 0) jan)))
def jef(T:Txt K mg):Cal P w K mg base 2 "is_letter" 1 jbn:=jdd T.f_is_letter jpp (jln T)
def jpo:FnScope ["sign"] ["sign"] (jad jgp):=.m rfl rfl rfl rfl (by decide +kernel)
def jid:DSt->M Out:=(gRet (jou gLe gLe (cS "0") (vR 0) (cS "9")))
def jc4:List D->M D:=mir 1 1 jid
def jlm(T:Txt K mg):je8 P w K mg base 1 "is_figure" jgp ["sign"] jid:=fun _ _ _ _ _ _ _ hr=>
 (jai (ja8 (jrm jsd jb4 jsd jb4 jan (jaa 0) jan)))
def jhj(T:Txt K mg):Cal P w K mg base 2 "is_figure" 1 jc4:=jdd T.f_is_figure jpo (jlm T)
def sc_end_of_piece:FnScope ["text","place","end"] ["text","place"] (jad jd8):=.m rfl rfl rfl rfl (by decide +kernel)
def jbj:DSt->M Bool:=(DL.tAnd (t2 gLt (vR 2) (fL kLen (jac (vR 0) fNil))) (DL.tAnd (tTru (jbg jbn (jac (f2 gIx (vR 0) (vR 2)) fNil))) (t2 gLt (f2 gSub (vR 2) (vR 1)) (cI 10))))
def jcy:DSt->M Out:=(gAug 2 gAdd (cI 1))
def jbl:DSt->M Bool:=(DL.tAnd (t2 gLt (vR 2) (fL kLen (jac (vR 0) fNil))) (tTru (jbg jc4 (jac (f2 gIx (vR 0) (vR 2)) fNil))))
def jcz:DSt->M Out:=(gAug 2 gAdd (cI 1))
def jd6:DSt->M Out:=(gSeq (gSet 2 (f2 gCat (vR 1) (cI 1)))
  (gSeq (gIf (tTru (jbg jbn (jac (f2 gIx (vR 0) (vR 1)) fNil))) (jb0 jbj jcy FUEL) (gIf (DL.tAnd (tTru (jbg jc4 (jac (f2 gIx (vR 0) (vR 1)) fNil))) (t2 gNe (f2 gIx (vR 0) (vR 1)) (cS "0"))) (jb0 jbl jcz FUEL) gNx))
  (gRet (vR 2))))
def jcr:List D->M D:=mir 2 3 jd6
def jje(T:Txt K mg):je8 P w K mg base 2 "end_of_piece" jd8 ["text","place","end"] jd6:=fun _ _ _ _ _ _ _ hr=>
 (jah (ja3 (i:=2) sc_end_of_piece.nd (jaw jbr jbs (jaa 1) jaf))
  (jah (jdp (jfe (ja0 (jef T) (hr.m rfl) (jab (jbw jat jax (jaa 0) (jaa 1)) jae))) (jai (jis (fuel:=FUEL) PassesOwn.never (DW.dt (jff (jap jj2 jb4 (jaa 2) (ja1 ja2 jb2 rfl T.b_len jdc (jab (jaa 0) jae)) (jal _)) (jff (jfe (ja0 (jef T) (hr.m rfl) (jab (jbw jat jax (jaa 0) (jaa 2)) jae))) (je2 (jap jj2 jb4 (jaw jpf jk7 (jaa 2) (jaa 1)) (jiq rfl T.g_NAME_LENGTH.choose_spec) (jal _)))))) (jai (juq (i:=2) sc_end_of_piece.nd (iop_add.or jii) jqx jaf)))) (jai (jdp (DW.dt (jff (jfe (ja0 (jhj T) (hr.m rfl) (jab (jbw jat jax (jaa 0) (jaa 1)) jae))) (je2 (jap (jfi (hu30 hr)) jfl (jbw jat jax (jaa 0) (jaa 1)) jan (jal _))))) (jai (jis (fuel:=FUEL) PassesOwn.never (DW.dt (jff (jap jj2 jb4 (jaa 2) (ja1 ja2 jb2 rfl T.b_len jdc (jab (jaa 0) jae)) (jal _)) (je2 (jfe (ja0 (jhj T) (hr.m rfl) (jab (jbw jat jax (jaa 0) (jaa 2)) jae)))))) (jai (juq (i:=2) sc_end_of_piece.nd (iop_add.or jii) jqx jaf)))) jbi)))
  (jai (ja8 (jaa 2)))))
def jk3(T:Txt K mg):Cal P w K mg base 3 "end_of_piece" 2 jcr:=jdd T.f_end_of_piece sc_end_of_piece (jje T)
def jpr:FnScope ["sign","wanted","depth"] ["sign","wanted","depth"] (jad jgu):=.m rfl rfl rfl rfl (by decide +kernel)
def jdz:DSt->M Out:=(gSeq (gIf (t2 gEq (vR 1) (cS "behind")) (gRet (fOr (f2 gIn (vR 0) (fL jb3 (jac (cS "+") (jac (cS "-") (jac (cS "*") fNil))))) (fAnd (f2 gEq (vR 0) (fC (.str ")"))) (f2 gGt (vR 2) (cI 0))))) gNx)
  (gSeq (gIf (t2 gEq (vR 0) (cS "-")) (gRet (f2 gEq (vR 1) (cS "beginning"))) gNx)
  (gRet (fOr (f2 gEq (vR 0) (fC (.str "("))) (fOr (jbg jbn (jac (vR 0) fNil)) (jbg jc4 (jac (vR 0) fNil)))))))
def ja5:List D->M D:=mir 3 3 jdz
def jlr(T:Txt K mg):je8 P w K mg base 2 "may_stand" jgu ["sign","wanted","depth"] jdz:=fun _ _ _ _ _ _ _ hr=>
 (jah (jdp (jap (jbo (hu30 hr)) jbp (jaa 1) (jgb rfl T.g_BEHIND.choose_spec) (jal _)) (jai (ja8 (jBz (jfc jhk jpg (jaa 0) (jc0 (jab jan (jab jan (jab jan jae)))) rfl) (jor (jun (jfc (jbo (hu30 hr)) jbp (jaa 0) jan (jal _)) (jor (jfc ji6 jb4 (jaa 2) jaf (jal _)))))))) jbi)
  (jah (jdp (jap (jbo (hu30 hr)) jbp (jaa 0) jan (jal _)) (jai (ja8 (jfc (jbo (hu30 hr)) jbp (jaa 1) (jgb rfl T.g_BEGINNING.choose_spec) (jal _)))) jbi)
  (jai (ja8 (jBz (jfc (jbo (hu30 hr)) jbp (jaa 0) jan (jal _)) (jBz (ja0 (jef T) (hr.m rfl) (jab (jaa 0) jae)) (jor (ja0 (jhj T) (hr.m rfl) (jab (jaa 0) jae)))))))))
def jpb(T:Txt K mg):Cal P w K mg base 3 "may_stand" 3 ja5:=jdd T.f_may_stand jpr (jlr T)
def jq3:FnScope ["word"] ["word"] (jad jhz):=.m rfl rfl rfl rfl (by decide +kernel)
def jji:DSt->M Out:=(gSeq (gIf (t2 gEq (vR 0) (fC (.str "("))) (gRet (cI 1)) gNx)
  (gRet (fIf (t2 gEq (vR 0) (fC (.str ")"))) (f1 gNeg (cI 1)) (cI 0))))
def jfv:List D->M D:=mir 1 1 jji
def jmg(T:Txt K mg):je8 P w K mg base 1 "depth_by" jhz ["word"] jji:=fun _ _ _ _ _ _ _ hr=>
 (jah (jdp (jap (jbo (hu30 hr)) jbp (jaa 0) jan (jal _)) (jai (ja8 jaf)) jbi)
  (jai (ja8 (jop (jap (jbo (hu30 hr)) jbp (jaa 0) jan (jal _)) (jjh jf4 jd2 jaf) jaf))))
def jqs(T:Txt K mg):Cal P w K mg base 2 "depth_by" 1 jfv:=jdd T.f_depth_by jq3 (jmg T)
def jkd:FnScope ["word"] ["word"] (jad jdv):=.m rfl rfl rfl rfl (by decide +kernel)
def je6:DSt->M Out:=(gSeq (gIf (t2 gEq (vR 0) (fC (.str "("))) (gRet (cS "beginning")) gNx)
  (gRet (fIf (t2 gIn (vR 0) (fL jb3 (jac (cS "+") (jac (cS "-") (jac (cS "*") fNil))))) (cS "factor") (cS "behind"))))
def jc5:List D->M D:=mir 1 1 je6
def jin(T:Txt K mg):je8 P w K mg base 1 "wanted_behind" jdv ["word"] je6:=fun _ _ _ _ _ _ _ hr=>
 (jah (jdp (jap (jbo (hu30 hr)) jbp (jaa 0) jan (jal _)) (jai (ja8 (jgb rfl T.g_BEGINNING.choose_spec))) jbi)
  (jai (ja8 (jop (jap jhk jpg (jaa 0) (jc0 (jab jan (jab jan (jab jan jae)))) rfl) (jgb rfl T.g_FACTOR.choose_spec) (jgb rfl T.g_BEHIND.choose_spec)))))
def jka(T:Txt K mg):Cal P w K mg base 2 "wanted_behind" 1 jc5:=jdd T.f_wanted_behind jkd (jin T)
def sc_pieces_of:FnScope ["text","pieces","depth","wanted","place","end","word"] ["text"] (jad jgw):=.m rfl rfl rfl rfl (by decide +kernel)
def jbk:DSt->M Bool:=(t2 gLt (vR 4) (fL kLen (jac (vR 0) fNil)))
def jbh:DSt->M Out:=(gSeq (gSet 5 (jbg jcr (jac (vR 0) (jac (vR 4) fNil))))
  (gSeq (gSet 6 (fSl (vR 0) (jcc (vR 4)) (jcc (vR 5))))
  (gSeq (gIf (t2 gNe (vR 6) (fC (.str " "))) (gSeq (gIf (DL.tNot (tTru (jbg ja5 (jac (f2 gIx (vR 6) (cI 0)) (jac (vR 3) (jac (vR 2) fNil)))))) jow gNx)
  (gSeq (gApp 1 (fL jb3 (jac (vR 6) (jac (vR 4) fNil))))
  (gSeq (gAug 2 gAdd (jbg jfv (jac (vR 6) fNil)))
  (gSet 3 (jbg jc5 (jac (vR 6) fNil)))))) gNx)
  (gSet 4 (vR 5)))))
def jig:DSt->M Out:=(gSeq (gSet 1 (fL jbq fNil))
  (gSeq (gSet 2 (cI 0))
  (gSeq (gSet 3 (cS "beginning"))
  (gSeq (gSet 4 (cI 0))
  (gSeq (jb0 jbk jbh FUEL)
  (gSeq (gIf (DL.tOr (t2 gNe (vR 3) (cS "behind")) (t2 gGt (vR 2) (cI 0))) jow gNx)
  (gRet (vR 1))))))))
def jgn:List D->M D:=mir 1 7 jig
def jlt(T:Txt K mg):je8 P w K mg base 3 "pieces_of" jgw ["text","pieces","depth","wanted","place","end","word"] jig:=fun _ _ _ _ _ _ _ hr=>
 (jah (jrq (i:=1) sc_pieces_of.nd jae)
  (jah (ja3 (i:=2) sc_pieces_of.nd jaf)
  (jah (ja3 (i:=3) sc_pieces_of.nd (jgb rfl T.g_BEGINNING.choose_spec))
  (jah (ja3 (i:=4) sc_pieces_of.nd jaf)
  (jah (jis (fuel:=FUEL) PassesOwn.never (jap jj2 jb4 (jaa 4) (ja1 ja2 jb2 rfl T.b_len jdc (jab (jaa 0) jae)) (jal _)) (jah (ja3 (i:=5) sc_pieces_of.nd (ja0 (jk3 T) (hr.m rfl) (jab (jaa 0) (jab (jaa 4) jae))))
  (jah (ja3 (i:=6) sc_pieces_of.nd (jeq (jaa 0) (jdy (jaa 4)) (jdy (jaa 5))))
  (jah (jdp (jap (jfi (hu30 hr)) jfl (jaa 6) jan (jal _)) (jah (jdp (jrr (jfe (ja0 (jpb T) (hr.m rfl) (jab (jbw jat jax (jaa 6) jaf) (jab (jaa 3) (jab (jaa 2) jae)))))) (jai jrp) jbi)
  (jah (jir (i:=1) rfl (jc0 (jab (jaa 6) (jab (jaa 4) jae))))
  (jah (juq (i:=2) sc_pieces_of.nd (iop_add.or jii) jqx (ja0 (jqs T) (hr.m rfl) (jab (jaa 6) jae)))
  (jai (ja3 (i:=3) sc_pieces_of.nd (ja0 (jka T) (hr.m rfl) (jab (jaa 6) jae))))))) jbi)
  (jai (ja3 (i:=4) sc_pieces_of.nd (jaa 5)))))))
  (jah (jdp (DW.dt (jp8 (jap (jfi (hu30 hr)) jfl (jaa 3) (jgb rfl T.g_BEHIND.choose_spec) (jal _)) (jos (jap ji6 jb4 (jaa 2) jaf (jal _))))) (jai jrp) jbi)
  (jmt (O':=[]) (by decide) (jai (ja8 (jaa 1))))))))))
def jpd(T:Txt K mg):Cal P w K mg base 4 "pieces_of" 1 jgn:=jdd T.f_pieces_of sc_pieces_of (jlt T)
def jkb:FnScope ["self","name","place"] ["self","name","place"] (jad jcd):=.m rfl rfl rfl rfl (by decide +kernel)
def jhc:DSt->MS Out:=(eSeq (jut xcs "name" (lF (vR 0)) (lF (vR 1)))
  (jut xcs "place" (lF (vR 0)) (lF (vR 2))))
def jhf:List D->MS D:=mirE 3 3 jhc
def jil(T:Txt K mg):jn9 P w K mg base 1 "NoName.__init__" jcd ["self","name","place"] jhc:=fun _ _ _ _ _ _ _ hr=>
 (jak (jqq T.errs rfl (jag (jaa 0)) (jag (jaa 1)))
  (jcb (jqq T.errs rfl (jag (jaa 0)) (jag (jaa 2)))))
def jj9(T:Txt K mg):IniXE P w K mg base 2 "NoName" 3 jhf:=jr1 T.f_NoName_init__ jkb (jil T) (by decide)
def jjv:FnScope ["self","width"] ["self","width"] (jad jb5):=.m rfl rfl rfl rfl (by decide +kernel)
def jei:DSt->MS Out:=(eSeq (ePut ["OpenSum"] "total" (lF (vR 0)) (lF (fL jb3 (jac (fL kTuple (jac (fRep (jac (cI 0) fNil) (vR 1)) fNil)) (jac (cI 0) fNil)))))
  (eSeq (ePut ["OpenSum"] "term" (lF (vR 0)) (mGet ["OpenSum"] "total" (lF (vR 0))))
  (eSeq (ePut ["OpenSum"] "term_sign" (lF (vR 0)) (lF (cI 1)))
  (ePut ["OpenSum"] "star" (lF (vR 0)) (lF (fC .non))))))
def jaz:List D->MS D:=mirE 2 2 jei
def jia(T:Txt K mg):jn9 P w K mg base 1 "OpenSum.__init__" jb5 ["self","width"] jei:=fun _ _ _ _ _ _ _ hr=>
 (jak (ji1 (T.c_OpenSum.is (by decide +kernel)) (jag (jaa 0)) (jag (jc0 (jab (jbc jb6 jeb rfl T.b_tuple jd5 (jab (jp7 (jab jaf jae) (jaa 1)) jae)) (jab jaf jae)))))
  (jak (ji1 (T.c_OpenSum.is (by decide +kernel)) (jag (jaa 0)) (jk0 (T.c_OpenSum.is (by decide +kernel)) (jag (jaa 0))))
  (jak (ji1 (T.c_OpenSum.is (by decide +kernel)) (jag (jaa 0)) (jag jaf))
  (jcb (ji1 (T.c_OpenSum.is (by decide +kernel)) (jag (jaa 0)) (jag jgz))))))
def jfy(T:Txt K mg):IniE P w K mg base 2 "OpenSum" 2 jaz:=jCm T.f_OpenSum_init__ jjv (jia T)
def jzs:FnScope ["form","number"] ["form","number"] (jad jla):=.m rfl rfl rfl rfl (by decide +kernel)
def jmn:DSt->M D:=(f2 jci (vR 0) (vR 1))
def jqg:DSt->M Out:=(gRet (fL jb3 (jac (fL kTuple (jac (jha 1 [("number",1)] (jed (f2 gIx (vR 0) (cI 0))) (DL.gName 0) tYes jmn) fNil)) (jac (f2 jci (f2 gIx (vR 0) (cI 1)) (vR 1)) fNil))))
def jjn:List D->M D:=mir 2 2 jqg
def js4(T:Txt K mg):je8 P w K mg base 1 "times" jla ["form","number"] jqg:=fun _ _ _ _ _ _ _ hr=>
 (jai (ja8 (jc0 (jab (jbc jb6 jeb rfl T.b_tuple jd5 (jab (je1 (own:=["coefficient"]) (caps:=[("number",1)]) rfl (jez (N:=["form","number"]) (osc:=jad jla) rfl rfl rfl (by decide +kernel)) (jfd (jbw jat jax (jaa 0) jaf)) (fun _ _ _ _=>(jdg (i:=0) (show (["coefficient","number"]:List Str).Nodup from by decide +kernel))) (fun _ _ _ _=>jic) (fun _ _ _ _=>(jaw jdh jca (jaa 0) (jaa 1)))) jae)) (jab (jaw jdh jca (jbw jat jax (jaa 0) jaf) (jaa 1)) jae)))))
def jnm(T:Txt K mg):Cal P w K mg base 2 "times" 2 jjn:=jdd T.f_times jzs (js4 T)
def jq4:FnScope ["form"] ["form"] (jad jf1):=.m rfl rfl rfl rfl (by decide +kernel)
def jib:DSt->M D:=(f2 gEq (vR 0) (cI 0))
def jjj:DSt->M Out:=(gRet (fL kAll (jac (jha 1 [] (jed (f2 gIx (vR 0) (cI 0))) (DL.gName 0) tYes jib) fNil)))
def jfw:List D->M D:=mir 1 1 jjj
def jmh(T:Txt K mg):je8 P w K mg base 1 "is_plain" jf1 ["form"] jjj:=fun _ _ _ _ _ _ _ hr=>
 (jai (ja8 (ja1 (jug rfl) jBv rfl T.b_all jE0 (jab (je1 (own:=["coefficient"]) (caps:=[]) rfl (jez (N:=["form"]) (osc:=jad jf1) rfl rfl rfl (by decide +kernel)) (jfd (jbw jat jax (jaa 0) jaf)) (fun _ _ _ _=>(jdg (i:=0) (show (["coefficient"]:List Str).Nodup from by decide +kernel))) (fun _ _ _ _=>jic) (fun _ _ _ _=>(jfc (jbo (hu30 hr)) jbp (jaa 0) jaf (jal _)))) jae))))
def jk5(T:Txt K mg):Cal P w K mg base 2 "is_plain" 1 jfw:=jdd T.f_is_plain jq4 (jmh T)
def jja:FnScope ["self","place"] ["self","place"] (jad jbv):=.m rfl rfl rfl rfl (by decide +kernel)
def jc9:DSt->MS Out:=(jut xcs "place" (lF (vR 0)) (lF (vR 1)))
def jbu:List D->MS D:=mirE 2 2 jc9
def jh2(T:Txt K mg):jn9 P w K mg base 1 "NotPlain.__init__" jbv ["self","place"] jc9:=fun _ _ _ _ _ _ _ hr=>
 (jcb (jqq T.errs rfl (jag (jaa 0)) (jag (jaa 1))))
def ji5(T:Txt K mg):IniXE P w K mg base 2 "NotPlain" 2 jbu:=jr1 T.f_NotPlain_init__ jja (jh2 T) (by decide)
def jts:FnScope ["left","right","place"] ["left","right","place"] (jad jf2):=.m rfl rfl rfl rfl (by decide +kernel)
def jix:DSt->MS Out:=(eSeq (lF (gIf (tTru (jbg jfw (jac (vR 1) fNil))) (gRet (jbg jjn (jac (vR 0) (jac (f2 gIx (vR 1) (cI 1)) fNil)))) gNx))
  (eSeq (lF (gIf (tTru (jbg jfw (jac (vR 0) fNil))) (gRet (jbg jjn (jac (vR 1) (jac (f2 gIx (vR 0) (cI 1)) fNil)))) gNx))
  (jot xcs (jl8 "NotPlain" jbu (lF (jac (vR 2) fNil))))))
def jhh:List D->MS D:=mirE 3 3 jix
def joh(T:Txt K mg)(f:Addr)(b8:Value)(A:Around)(outer:List Env)(s:Shared)(H:Hp)(E:XK)(hr:Room 3 (A.deeper (PyProof.Rows.envOfC "product" (jad jf2) s.heap.objs.size f b8))) :
  MSsr (cxOf (CX1 P w) P w K mg base ["left","right","place"] "product" (jad jf2) f b8 A outer s H E) [] [] [] E (jar jf2) jix :=
 (je7 (ji2 (jbd (jdp (jfe (ja0 (jk5 T) (hr.m rfl) (jab (jaa 1) jae))) (jai (ja8 (ja0 (jnm T) (hr.m rfl) (jab (jaa 0) (jab (jbw jat jax (jaa 1) jaf) jae))))) jbi)))
  (je7 (ji2 (jbd (jdp (jfe (ja0 (jk5 T) (hr.m rfl) (jab (jaa 0) jae))) (jai (ja8 (ja0 (jnm T) (hr.m rfl) (jab (jaa 1) (jab (jbw jat jax (jaa 0) jaf) jae))))) jbi)))
  (jcm (jo5 T.errs rfl jt6 (jr6 (ji5 T) (hr.m rfl) (jcl (jab (jaa 2) jae)))))))
def jtl(T:Txt K mg):CalR P w K mg base 4 "product" 3 jhh:=jp6 T.f_product jts (joh T)
def jg3:FnScope ["self","form"] ["self","form"] (jad jas):=.m rfl rfl rfl rfl (by decide +kernel)
def jc2:DSt->MS Out:=(eIf (mB (m2 gIs (mGet ["OpenSum"] "star" (lF (vR 0))) (lF (fC .non)))) (ePut ["OpenSum"] "term" (lF (vR 0)) (jl7 jjn (jfu (lF (vR 1)) (jfu (mGet ["OpenSum"] "term_sign" (lF (vR 0))) (lF fNil))))) (ePut ["OpenSum"] "term" (lF (vR 0)) (jgj jhh (jfu (mGet ["OpenSum"] "term" (lF (vR 0))) (jfu (lF (vR 1)) (jfu (mGet ["OpenSum"] "star" (lF (vR 0))) (lF fNil)))))))
def jay:List D->MS D:=mirE 2 2 jc2
def jfq(T:Txt K mg)(f:Addr)(b8:Value)(A:Around)(outer:List Env)(s:Shared)(H:Hp)(E:XK)(hr:Room 4 (A.deeper (PyProof.Rows.envOfC "OpenSum.take_factor" (jad jas) s.heap.objs.size f b8))) :
  MSsr (cxOf (CX1 P w) P w K mg base ["self","form"] "OpenSum.take_factor" (jad jas) f b8 A outer s H E) [] [] [] E (jar jas) jc2 :=
 (jcm (jo4 (jo6 jv3 jv7 (jk0 (T.c_OpenSum.is (by decide +kernel)) (jag (jaa 0))) (jag jgz) (jal _)) (jcm (ji2 (ji1 (T.c_OpenSum.is (by decide +kernel)) (jag (jaa 0)) (jm9 (jnm T) (hr.m rfl) (jdr (jag (jaa 1)) (jdr (jk0 (T.c_OpenSum.is (by decide +kernel)) (jag (jaa 0))) (jcl jae))))))) (jcm (jC0 (T.c_OpenSum.is (by decide +kernel)) (jag (jaa 0)) (jr7 (jtl T) (hr.m rfl) jt6 (jdr (jk0 (T.c_OpenSum.is (by decide +kernel)) (jag (jaa 0))) (jdr (jag (jaa 1)) (jdr (jk0 (T.c_OpenSum.is (by decide +kernel)) (jag (jaa 0))) (jcl jae)))))))))
def jdw(T:Txt K mg):MetR P w K mg base 5 "OpenSum" "take_factor" 2 jay:=jCy T.f_OpenSum_take_factor jg3 (jfq T)
def jzr:FnScope ["left","right"] ["left","right"] (jad jk9):=.m rfl rfl rfl rfl (by decide +kernel)
def jmm:DSt->M D:=(f2 gCat (vR 0) (vR 1))
def jqf:DSt->M Out:=(gRet (fL jb3 (jac (fL kTuple (jac (jha 2 [] (jih jfp (jac (f2 gIx (vR 0) (cI 0)) (jac (f2 gIx (vR 1) (cI 0)) fNil))) (je4 0 1) tYes jmm) fNil)) (jac (f2 gCat (f2 gIx (vR 0) (cI 1)) (f2 gIx (vR 1) (cI 1))) fNil))))
def jm8:List D->M D:=mir 2 2 jqf
def js3(T:Txt K mg):je8 P w K mg base 1 "added" jk9 ["left","right"] jqf:=fun _ _ _ _ _ _ _ hr=>
 (jai (ja8 (jc0 (jab (jbc jb6 jeb rfl T.b_tuple jd5 (jab (je1 (own:=["a","b"]) (caps:=[]) rfl (jez (N:=["left","right"]) (osc:=jad jk9) rfl rfl rfl (by decide +kernel)) (jz8 rfl T.b_zip (jab (jbw jat jax (jaa 0) jaf) (jab (jbw jat jax (jaa 1) jaf) jae))) (fun _ _ _ _=>(jg7 (i:=0) (j:=1) rfl (show (["a","b"]:List Str).Nodup from by decide +kernel))) (fun _ _ _ _=>jic) (fun _ _ _ _=>(jaw jbr jbs (jaa 0) (jaa 1)))) jae)) (jab (jaw jbr jbs (jbw jat jax (jaa 0) jaf) (jbw jat jax (jaa 1) jaf)) jae)))))
def jy4(T:Txt K mg):Cal P w K mg base 2 "added" 2 jm8:=jdd T.f_added jzr (js3 T)
def jkc:FnScope ["self"] ["self"] (jad jce):=.m rfl rfl rfl rfl (by decide +kernel)
def je5:DSt->MS Out:=(eRet (jl7 jm8 (jfu (mGet ["OpenSum"] "total" (lF (vR 0))) (jfu (mGet ["OpenSum"] "term" (lF (vR 0))) (lF fNil)))))
def ja4:List D->MS D:=mirE 1 1 je5
def jim(T:Txt K mg):jn9 P w K mg base 2 "OpenSum.whole" jce ["self"] je5:=fun _ _ _ _ _ _ _ hr=>
 (jcb (jr9 (jm9 (jy4 T) (hr.m rfl) (jdr (jk0 (T.c_OpenSum.is (by decide +kernel)) (jag (jaa 0))) (jdr (jk0 (T.c_OpenSum.is (by decide +kernel)) (jag (jaa 0))) (jcl jae))))))
def jek(T:Txt K mg):MetE P w K mg base 3 "OpenSum" "whole" 1 ja4:=jvp T.f_OpenSum_whole jkc (jim T)
def jh5:FnScope ["self","sign","place"] ["self","sign","place"] (jad jbe):=.m rfl rfl rfl rfl (by decide +kernel)
def jdj:DSt->MS Out:=(eIf (lF (t2 gEq (vR 1) (cS "*"))) (ePut ["OpenSum"] "star" (lF (vR 0)) (lF (vR 2))) (eSeq (ePut ["OpenSum"] "total" (lF (vR 0)) (jj7 "OpenSum" "whole" ja4 (lF (vR 0)) (lF fNil)))
  (eSeq (ePut ["OpenSum"] "term_sign" (lF (vR 0)) (lF (fIf (t2 gEq (vR 1) (cS "-")) (f1 gNeg (cI 1)) (cI 1))))
  (ePut ["OpenSum"] "star" (lF (vR 0)) (lF (fC .non))))))
def jby:List D->MS D:=mirE 3 3 jdj
def jg1(T:Txt K mg):jn9 P w K mg base 3 "OpenSum.take_sign" jbe ["self","sign","place"] jdj:=fun _ _ _ _ _ _ _ hr=>
 (jcb (jnf (jej (jap (jbo (hu30 hr)) jbp (jaa 1) jan (jal _))) (jcb (ji1 (T.c_OpenSum.is (by decide +kernel)) (jag (jaa 0)) (jag (jaa 2)))) (jak (ji1 (T.c_OpenSum.is (by decide +kernel)) (jag (jaa 0)) (jna (jek T) (hr.m rfl) (jag (jaa 0))))
  (jak (ji1 (T.c_OpenSum.is (by decide +kernel)) (jag (jaa 0)) (jag (jop (jap (jbo (hu30 hr)) jbp (jaa 1) jan (jal _)) (jjh jf4 jd2 jaf) jaf)))
  (jcb (ji1 (T.c_OpenSum.is (by decide +kernel)) (jag (jaa 0)) (jag jgz)))))))
def jh4(T:Txt K mg):MetE P w K mg base 4 "OpenSum" "take_sign" 3 jby:=jvp T.f_OpenSum_take_sign jh5 (jg1 T)
def sc_number_of_figures:FnScope ["word","first","number","place"] ["word"] (jad jco):=.m rfl rfl rfl rfl (by decide +kernel)
def jdf:DSt->M Out:=(gSet 2 (f2 gCat (f2 jci (vR 2) (cI 1000000000000000000)) (fL kIntT (jac (fSl (vR 0) (jcc (vR 3)) (jcc (f2 gCat (vR 3) (cI 18)))) fNil))))
def jcj:DSt->M Out:=(gSeq (gSet 1 (f2 gMod (fL kLen (jac (vR 0) fNil)) (cI 18)))
  (gSeq (gSet 2 (fIf (t2 gEq (vR 1) (cI 0)) (cI 0) (fL kIntT (jac (fSl (vR 0) jjq (jcc (vR 1))) fNil))))
  (gSeq (gFor (jih jf0 (jac (vR 1) (jac (fL kLen (jac (vR 0) fNil)) (jac (cI 18) fNil)))) (DL.gName 3) jdf)
  (gRet (vR 2)))))
def jbz:List D->M D:=mir 1 4 jcj
def jg2(T:Txt K mg):je8 P w K mg base 1 "number_of_figures" jco ["word","first","number","place"] jcj:=fun _ _ _ _ _ _ _ hr=>
 (jah (ja3 (i:=1) sc_number_of_figures.nd (jaw jdt jcn (ja1 ja2 jb2 rfl T.b_len jdc (jab (jaa 0) jae)) (jiq rfl T.g_PART_FIGURES.choose_spec)))
  (jah (ja3 (i:=2) sc_number_of_figures.nd (jop (jap (jbo (hu30 hr)) jbp (jaa 1) jaf (jal _)) jaf (jbc jec jfa rfl T.b_int jio (jab (jeq (jaa 0) jkp (jdy (jaa 1))) jae))))
  (jah (jkq PassesOwn.never rfl (jup rfl T.b_range (jab (jaa 1) (jab (ja1 ja2 jb2 rfl T.b_len jdc (jab (jaa 0) jae)) (jab (jiq rfl T.g_PART_FIGURES.choose_spec) jae)))) (jdg (i:=3) sc_number_of_figures.nd) (jai (ja3 (i:=2) sc_number_of_figures.nd (jaw jbr jbs (jaw jdh jca (jaa 2) (jiq rfl T.g_PART_SIZE.choose_spec)) (jbc jec jfa rfl T.b_int jio (jab (jeq (jaa 0) (jdy (jaa 3)) (jdy (jaw jbr jbs (jaa 3) (jiq rfl T.g_PART_FIGURES.choose_spec)))) jae))))))
  (jai (ja8 (jaa 2))))))
def jel(T:Txt K mg):Cal P w K mg base 2 "number_of_figures" 1 jbz:=jdd T.f_number_of_figures sc_number_of_figures (jg2 T)
def jps:FnScope ["word"] ["word"] (jad jgv):=.m rfl rfl rfl rfl (by decide +kernel)
def jgg:DSt->M Out:=(gSeq (gIf (tTru (fSm jm1 (vR 0) (cS "-"))) (gRet (f1 gNeg (jbg jbz (jac (fSl (vR 0) (jcc (cI 1)) jjq) fNil)))) gNx)
  (gRet (jbg jbz (jac (vR 0) fNil))))
def jgm:List D->M D:=mir 1 1 jgg
def jls(T:Txt K mg):je8 P w K mg base 2 "number_of" jgv ["word"] jgg:=fun _ _ _ _ _ _ _ hr=>
 (jah (jdp (jfe (jIq jw5 jty (jaa 0) jan)) (jai (ja8 (jjh jf4 jd2 (ja0 (jel T) (hr.m rfl) (jab (jeq (jaa 0) (jdy jaf) jkp) jae))))) jbi)
  (jai (ja8 (ja0 (jel T) (hr.m rfl) (jab (jaa 0) jae)))))
def jpc(T:Txt K mg):Cal P w K mg base 3 "number_of" 1 jgm:=jdd T.f_number_of jps (jls T)
def jlc:FnScope ["names","word"] ["names","word"] (jad jdi):=.m rfl rfl rfl rfl (by decide +kernel)
def jdo:DSt->M D:=(fIf (t2 gEq (vR 0) (vR 1)) (cI 1) (cI 0))
def jd7:DSt->M Out:=(gSeq (gIf (tTru (jbg jbn (jac (f2 gIx (vR 1) (cI 0)) fNil))) (gRet (fL jb3 (jac (fL kTuple (jac (jha 1 [("word",1)] (jed (vR 0)) (DL.gName 0) tYes jdo) fNil)) (jac (cI 0) fNil)))) gNx)
  (gRet (fL jb3 (jac (fL kTuple (jac (fRep (jac (cI 0) fNil) (fL kLen (jac (vR 0) fNil))) fNil)) (jac (jbg jgm (jac (vR 1) fNil)) fNil)))))
def jcs:List D->M D:=mir 2 2 jd7
def jjf(T:Txt K mg):je8 P w K mg base 3 "form_of_word" jdi ["names","word"] jd7:=fun _ _ _ _ _ _ _ hr=>
 (jah (jdp (jfe (ja0 (jef T) (hr.m rfl) (jab (jbw jat jax (jaa 1) jaf) jae))) (jai (ja8 (jc0 (jab (jbc jb6 jeb rfl T.b_tuple jd5 (jab (je1 (own:=["name"]) (caps:=[("word",1)]) rfl (jez (N:=["names","word"]) (osc:=jad jdi) rfl rfl rfl (by decide +kernel)) (jfd (jaa 0)) (fun _ _ _ _=>(jdg (i:=0) (show (["name","word"]:List Str).Nodup from by decide +kernel))) (fun _ _ _ _=>jic) (fun _ _ _ _=>(jop (jap (jbo (hu30 hr)) jbp (jaa 0) (jaa 1) (jal _)) jaf jaf))) jae)) (jab jaf jae))))) jbi)
  (jai (ja8 (jc0 (jab (jbc jb6 jeb rfl T.b_tuple jd5 (jab (jp7 (jab jaf jae) (ja1 ja2 jb2 rfl T.b_len jdc (jab (jaa 0) jae))) jae)) (jab (ja0 (jpc T) (hr.m rfl) (jab (jaa 1) jae)) jae))))))
def jk4(T:Txt K mg):Cal P w K mg base 4 "form_of_word" 2 jcs:=jdd T.f_form_of_word jlc (jjf T)
def sc_reckoned:FnScope ["names","pieces","sums","word","place","inner"] ["names","pieces"] (jad jey):=.m rfl rfl rfl rfl (by decide +kernel)
def jbm:DSt->MS Out:=(eIf (lF (t2 gEq (vR 3) (fC (.str "(")))) (eApp 2 (jo1 "OpenSum" jaz (lF (jac (fL kLen (jac (vR 0) fNil)) fNil)))) (eIf (lF (t2 gEq (vR 3) (fC (.str ")")))) (eSeq (ePop 5 2)
  (je9 (jj7 "OpenSum" "take_factor" jay (lF (f2 gIx (vR 2) (f1 gNeg (cI 1)))) (jfu (jj7 "OpenSum" "whole" ja4 (lF (vR 5)) (lF fNil)) (lF fNil))))) (eIf (lF (t2 gIn (vR 3) (fL jb3 (jac (cS "+") (jac (cS "-") (jac (cS "*") fNil)))))) (je9 (jj7 "OpenSum" "take_sign" jby (lF (f2 gIx (vR 2) (f1 gNeg (cI 1)))) (lF (jac (vR 3) (jac (vR 4) fNil))))) (je9 (jj7 "OpenSum" "take_factor" jay (lF (f2 gIx (vR 2) (f1 gNeg (cI 1)))) (lF (jac (jbg jcs (jac (vR 0) (jac (vR 3) fNil))) fNil)))))))
def jhv:DSt->MS Out:=(eSeq (eSet 2 (mL jbq (jfu (jo1 "OpenSum" jaz (lF (jac (fL kLen (jac (vR 0) fNil)) fNil))) (lF fNil))))
  (eSeq (eFor (lF (jed (vR 1))) (je4 3 4) jbm)
  (eRet (jj7 "OpenSum" "whole" ja4 (lF (f2 gIx (vR 2) (cI 0))) (lF fNil)))))
def jd0:List D->MS D:=mirE 2 6 jhv
def jmk(T:Txt K mg)(f:Addr)(b8:Value)(A:Around)(outer:List Env)(s:Shared)(H:Hp)(E:XK)(hr:Room 5 (A.deeper (PyProof.Rows.envOfC "reckoned" (jad jey) s.heap.objs.size f b8))) :
  MSsr (cxOf (CX1 P w) P w K mg base ["names","pieces","sums","word","place","inner"] "reckoned" (jad jey) f b8 A outer s H E) [] [] [] E (jar jey) jhv :=
 (je7 (ji2 (jF8 (i:=2) sc_reckoned.nd (jdr (jvm (jfy T) (hr.m rfl) (jcl (jab (ja1 ja2 jb2 rfl T.b_len jdc (jab (jaa 0) jae)) jae))) (jcl jae))))
  (je7 (jvq PassesOwn.leaving rfl (jqo (jfd (jaa 1))) (jg7 (i:=3) (j:=4) rfl sc_reckoned.nd) (jcm (jo4 (jej (jap (jbo (hu30 hr)) jbp (jaa 3) jan (jal _))) (jcm (ji2 (jF6 (i:=2) rfl (jvm (jfy T) (hr.m rfl) (jcl (jab (ja1 ja2 jb2 rfl T.b_len jdc (jab (jaa 0) jae)) jae)))))) (jcm (jo4 (jej (jap (jbo (hu30 hr)) jbp (jaa 3) jan (jal _))) (je7 (ji2 (jF9 (i:=5) (j:=2) sc_reckoned.nd rfl))
  (jcm (jsa (jr8 (jdw T) (hr.m rfl) jt6 (jag (joq 2 rfl (jjh jf4 jd2 jaf))) (jdr (jna (jek T) (hr.m rfl) (jag (jaa 5))) (jcl jae)))))) (jcm (jo4 (jej (jap jhk jpg (jaa 3) (jc0 (jab jan (jab jan (jab jan jae)))) rfl)) (jcm (ji2 (jhi (jCx (jh4 T) (hr.m rfl) (jag (joq 2 rfl (jjh jf4 jd2 jaf))) (jcl (jab (jaa 3) (jab (jaa 4) jae))))))) (jcm (jsa (jr8 (jdw T) (hr.m rfl) jt6 (jag (joq 2 rfl (jjh jf4 jd2 jaf))) (jcl (jab (ja0 (jk4 T) (hr.m rfl) (jab (jaa 0) (jab (jaa 3) jae))) jae))))))))))))
  (jyw (O':=[]) (by decide) (jcm (ji2 (jr9 (jna (jek T) (hr.m rfl) (jag (jbw jat jax (jaa 2) jaf)))))))))
def jqv(T:Txt K mg):CalR P w K mg base 6 "reckoned" 2 jd0:=jp6 T.f_reckoned sc_reckoned (jmk T)
def sc_read_sum:FnScope ["names","text","pieces","word","place"] ["names","text"] (jad jex):=.m rfl rfl rfl rfl (by decide +kernel)
def jf6:DSt->MS Out:=(eIf (lF (DL.tAnd (tTru (jbg jbn (jac (f2 gIx (vR 3) (cI 0)) fNil))) (t2 je3 (vR 3) (vR 0)))) (jot xcs (jl8 "NoName" jhf (lF (jac (vR 3) (jac (vR 4) fNil))))) eNx)
def jhu:DSt->MS Out:=(eSeq (lF (gSet 2 (jbg jgn (jac (vR 1) fNil))))
  (eSeq (eFor (lF (jed (vR 2))) (je4 3 4) jf6)
  (eRet (jgj jd0 (lF (jac (vR 0) (jac (vR 2) fNil)))))))
def jew:List D->MS D:=mirE 2 5 jhu
def jmj(T:Txt K mg)(f:Addr)(b8:Value)(A:Around)(outer:List Env)(s:Shared)(H:Hp)(E:XK)(hr:Room 6 (A.deeper (PyProof.Rows.envOfC "read_sum" (jad jex) s.heap.objs.size f b8))) :
  MSsr (cxOf (CX1 P w) P w K mg base ["names","text","pieces","word","place"] "read_sum" (jad jex) f b8 A outer s H E) [] [] [] E (jar jex) jhu :=
 (je7 (ji2 (jbd (ja3 (i:=2) sc_read_sum.nd (ja0 (jpd T) (hr.m rfl) (jab (jaa 1) jae)))))
  (je7 (jvq PassesOwn.leaving rfl (jqo (jfd (jaa 2))) (jg7 (i:=3) (j:=4) rfl sc_read_sum.nd) (jcm (jo4 (jej (DW.dt (jff (jfe (ja0 (jef T) (hr.m rfl) (jab (jbw jat jax (jaa 3) jaf) jae))) (je2 (jap jfj ji8 (jaa 3) (jaa 0) rfl))))) (jcm (jo5 T.errs rfl jt6 (jr6 (jj9 T) (hr.m rfl) (jcl (jab (jaa 3) (jab (jaa 4) jae)))))) (jC2 jgo))))
  (jcm (jC1 (jr7 (jqv T) (hr.m rfl) jt6 (jcl (jab (jaa 0) (jab (jaa 2) jae))))))))
def jqu(T:Txt K mg):CalR P w K mg base 7 "read_sum" 2 jew:=jp6 T.f_read_sum sc_read_sum (jmj T)
def jpq:FnScope ["_law_found"] ["_law_found"] (jad jgt):=.m rfl rfl rfl rfl (by decide +kernel)
def jif:DSt->M Out:=(gRet (fAnd (fL kIsi (jac (vR 0) (jac (fC (.ty "int")) fNil))) (f1 gNot (fL kIsi (jac (vR 0) (jac (fC (.ty "bool")) fNil))))))
def jdk:List D->M D:=mir 1 1 jif
def jlq(T:Txt K mg):je8 P w K mg base 1 "_law_whole" jgt ["_law_found"] jif:=fun _ _ _ _ _ _ _ hr=>
 (jai (ja8 (jun (ja1 jip jmo rfl T.b_isinstance jc8 (jab (jaa 0) (jab (jms rfl T.b_int jio) jae))) (jor (jE4 (ja1 jip jmo rfl T.b_isinstance jc8 (jab (jaa 0) (jab (jms rfl T.b_bool jBt) jae))))))))
def jj1(T:Txt K mg):Cal P w K mg base 2 "_law_whole" 1 jdk:=jdd T.f_law_whole jpq (jlq T)
def jlz:FnScope ["_law_found","_law_due_here"] ["_law_found","_law_due_here"] (jad jdu):=.m rfl rfl rfl rfl (by decide +kernel)
def jh6:DSt->M D:=(vR 0)
def jer:DSt->M Out:=(gSeq (gIf (DL.tOr (DL.tNot (tTru (fL kIsi (jac (vR 0) (jac (fC (.ty "tuple")) fNil))))) (DL.tOr (t2 gNe (fL kLen (jac (vR 0) fNil)) (cI 2)) (DL.tOr (DL.tNot (tTru (fL kIsi (jac (f2 gIx (vR 0) (cI 0)) (jac (fC (.ty "tuple")) fNil))))) (t2 gNe (vR 0) (vR 1))))) (gRet (fC (.bl false))) gNx)
  (gRet (f2 gEq (fL kLen (jac (jha 1 [] (jed (f2 jx7 (f2 gIx (vR 0) (cI 0)) (fL jb3 (jac (f2 gIx (vR 0) (cI 1)) fNil)))) (DL.gName 0) (DL.tNot (tTru (jbg jdk (jac (vR 0) fNil)))) jh6) fNil)) (cI 0))))
def jdq:List D->M D:=mir 2 2 jer
def jj4(T:Txt K mg):je8 P w K mg base 2 "_law_is_form" jdu ["_law_found","_law_due_here"] jer:=fun _ _ _ _ _ _ _ hr=>
 (jah (jdp (DW.dt (jp8 (jrr (jfe (ja1 jip jmo rfl T.b_isinstance jc8 (jab (jaa 0) (jab (jms rfl T.b_tuple jd5) jae))))) (jp8 (jap (jfi (hu30 hr)) jfl (ja1 ja2 jb2 rfl T.b_len jdc (jab (jaa 0) jae)) jaf (jal _)) (jp8 (jrr (jfe (ja1 jip jmo rfl T.b_isinstance jc8 (jab (jbw jat jax (jaa 0) jaf) (jab (jms rfl T.b_tuple jd5) jae))))) (jos (jap (jfi (hu30 hr)) jfl (jaa 0) (jaa 1) (jal _))))))) (jai (ja8 juo)) jbi)
  (jai (ja8 (jfc (jbo (hu30 hr)) jbp (ja1 ja2 jb2 rfl T.b_len jdc (jab (je1 (own:=["_law_number"]) (caps:=[]) rfl (jez (N:=["_law_found","_law_due_here"]) (osc:=jad jdu) rfl rfl rfl (by decide +kernel)) (jfd (jaw jDa jy5 (jbw jat jax (jaa 0) jaf) (jc0 (jab (jbw jat jax (jaa 0) jaf) jae)))) (fun _ _ _ _=>(jdg (i:=0) (show (["_law_number"]:List Str).Nodup from by decide +kernel))) (fun _ _ _ _=>(jrl (jrr (jfe (ja0 (jj1 T) (hr.m rfl) (jab (jaa 0) jae)))))) (fun _ _ _ _=>(jaa 0))) jae)) jaf (jal _)))))
def jlw(T:Txt K mg):Cal P w K mg base 3 "_law_is_form" 2 jdq:=jdd T.f_law_is_form jlz (jj4 T)
def sc_law:FnScope ["_law_script","_law_number","_law_names_here","_law_written_here","_law_place","_law_form","_law_kept","_law_found","e"] ["_law_script"] (jad jzo):=.m rfl rfl rfl rfl (by decide +kernel)
def jA2:DSt->MS Out:=(lF (gSet 1 (jbg jcp (jac (jbg jhx (jac (vR 0) (jac (cI 0) fNil))) (jac (cI 1) fNil)))))
def jA3:DSt->MS Out:=(lF (gSet 2 (jbg jgl (jac (vR 1) (jac (cI 3) fNil)))))
def jA4:DSt->MS Out:=(lF (gSet 3 (jbg jet (jac (jbg jgk (jac (vR 0) (jac (vR 2) fNil))) (jac (vR 1) fNil)))))
def jwy:DSt->MS Out:=(eAsg (je4 4 5) (jgj jhg (lF (jac (vR 2) (jac (jbg jee (jac (vR 3) fNil)) fNil)))))
def jA5:DSt->MS Out:=(lF (gSet 6 (fC .non)))
def jA6:DSt->MS Out:=(lF (gSet 7 (fC .non)))
def jmc:DSt->MS Out:=(juu jew xcs 7 8 6 (lF (jac (fL kList (jac (vR 2) fNil)) (jac (vR 3) fNil))))
def jwz:DSt->MS Out:=(lF (gIf (t2 gIs (vR 4) (fC .non)) (gRet (fAnd (f2 gIs (vR 6) (fC .non)) (jbg jdq (jac (vR 7) (jac (vR 5) fNil))))) gNx))
def jsp:DSt->MS Out:=(eIf (mOr (mNot (mTru (mIsX xcs (fun c=>c == "NotPlain") (lF (vR 6))))) (mNot (mTru (mIsX xcs (fun _=>true) (lF (vR 6)))))) (lF (gRet (fC (.bl false)))) eNx)
def jnx:DSt->MS Out:=(eIf (mTru (mIsX xcs (fun c=>(["Broken","Folded","NoBook","NoDeed","NoLine","NoName","NoPaper","NoRule"]:List Str).contains c) (lF (vR 6)))) (lF (gRet (fC (.bl false)))) eNx)
def jq2:DSt->MS Out:=(eRet (jyq (jCu (mIsX xcs (fun c=>(["NoText","OutOfRange","ShortShare"]:List Str).contains c) (lF (vR 6)))) (jyq (jl7 jdk (jfu (jqm xcs "place" (lF (vR 6))) (lF fNil))) (m2 gEq (jqm xcs "place" (lF (vR 6))) (lF (vR 4))))))
def jx8:DSt->MS Out:=(eSeq jA2
  (eSeq jA3
  (eSeq jA4
  (eSeq jwy
  (eSeq jA5
  (eSeq jA6
  (eSeq jmc
  (eSeq jwz
  (eSeq jsp
  (eSeq jnx
  jq2))))))))))
def jvg:List D->MS D:=mirE 1 9 jx8
def jxv(T:Txt K mg):jn9 P w K mg base 7 "law" jzo ["_law_script","_law_number","_law_names_here","_law_written_here","_law_place","_law_form","_law_kept","_law_found","e"] jx8:=fun _ _ _ _ _ _ _ hr=>
 (jak (jbd (ja3 (i:=1) sc_law.nd (ja0 (jfz T) (hr.m rfl) (jab (ja0 (jvz T) (hr.m rfl) (jab (jaa 0) (jab jaf jae))) (jab jaf jae)))))
  (jak (jbd (ja3 (i:=2) sc_law.nd (ja0 (jpa T) (hr.m rfl) (jab (jaa 1) (jab jaf jae)))))
  (jak (jbd (ja3 (i:=3) sc_law.nd (ja0 (jlx T) (hr.m rfl) (jab (ja0 (jo9 T) (hr.m rfl) (jab (jaa 0) (jab (jaa 2) jae))) (jab (jaa 1) jae)))))
  (jak (jAl (jvj (jtk T) (hr.m rfl) (jcl (jab (jaa 2) (jab (ja0 (jnl T) (hr.m rfl) (jab (jaa 3) jae)) jae)))) (jg7 (i:=4) (j:=5) rfl sc_law.nd))
  (jak (jbd (ja3 (i:=6) sc_law.nd jgz))
  (jak (jbd (ja3 (i:=7) sc_law.nd jgz))
  (jak (jCz (i:=7) (j:=8) (l:=6) (jqu T) T.errm (hr.m rfl) (fun _=>(jcl (jab (jbc joj jxy rfl T.b_list jBu (jab (jaa 2) jae)) (jab (jaa 3) jae)))) rfl rfl sc_law.nd rfl rfl rfl (by decide))
  (jak (jbd (jdp (jap jv3 jv7 (jaa 4) jgz (jal _)) (jai (ja8 (jun (jfc jv3 jv7 (jaa 6) jgz (jal _)) (jor (ja0 (jlw T) (hr.m rfl) (jab (jaa 7) (jab (jaa 5) jae))))))) jbi))
  (jak (jnf (MW.mt (jGc (jAm (jvr (jF0 (d:="NotPlain") T.errs rfl T.b_isinstance (jag (jaa 6))))) (jAo (jAm (jvr (jF1 T.errs T.b_isinstance T.b_ValueError (jag (jaa 6)))))))) (jcb (jbd (ja8 juo))) jgo)
  (jak (jnf (jvr (jAk (ds:=["Broken","Folded","NoBook","NoDeed","NoLine","NoName","NoPaper","NoRule"]) T.errs (je0 (d:="Broken") T.errs (je0 (d:="Folded") T.errs (je0 (d:="NoBook") T.errs (je0 (d:="NoDeed") T.errs (je0 (d:="NoLine") T.errs (je0 (d:="NoName") T.errs (je0 (d:="NoPaper") T.errs (je0 (d:="NoRule") T.errs jz7)))))))) rfl T.b_isinstance (jag (jaa 6)) (by decide))) (jcb (jbd (ja8 juo))) jgo)
  (jcb (jr9 (jAi (jF3 (jAk (ds:=["NoText","OutOfRange","ShortShare"]) T.errs (je0 (d:="NoText") T.errs (je0 (d:="OutOfRange") T.errs (je0 (d:="ShortShare") T.errs jz7))) rfl T.b_isinstance (jag (jaa 6)) (by decide))) (jAi (jm9 (jj1 T) (hr.m rfl) (jdr (jvk T.errs rfl (jag (jaa 6))) (jcl jae))) (jF4 (jFz (jbo (hu30 hr)) jbp (jvk T.errs rfl (jag (jaa 6))) (jag (jaa 4)) (jal _)))))))))))))))))
end
def jte{us:List Value}{n:Nat}(h:us.length=n+1):∃ a r,us=a::r/\r.length=n:=by
 cases us with
 | nil=>cases h
 | cons a r=>exact⟨a,r,rfl,Nat.succ.inj h⟩
def jEv{fd:FuncData}{p0:Str}(h:∀ a0:Value,bindArgs fd ⟨[a0],[]⟩=pure ([p0].zip [a0]))(us:List Value)(hl:us.length=([p0]:List Str).length):bindArgs fd ⟨us,[]⟩=pure ([p0].zip us):=by
 obtain⟨a0,r0,rfl,q0⟩:=jte hl;cases List.eq_nil_of_length_eq_zero q0;exact h a0
def jxt{fd:FuncData}{p0 p1:Str}(h:∀ a0 a1:Value,bindArgs fd ⟨[a0,a1],[]⟩=pure ([p0,p1].zip [a0,a1]))(us:List Value)(hl:us.length=([p0,p1]:List Str).length):bindArgs fd ⟨us,[]⟩=pure ([p0,p1].zip us):=by
 obtain⟨a0,r0,rfl,q0⟩:=jte hl;obtain⟨a1,r1,rfl,q1⟩:=jte q0;cases List.eq_nil_of_length_eq_zero q1;exact h a0 a1
def jBm{fd:FuncData}{p0 p1 p2:Str}(h:∀ a0 a1 a2:Value,bindArgs fd ⟨[a0,a1,a2],[]⟩=pure ([p0,p1,p2].zip [a0,a1,a2]))(us:List Value)(hl:us.length=([p0,p1,p2]:List Str).length):bindArgs fd ⟨us,[]⟩=pure ([p0,p1,p2].zip us):=by
 obtain⟨a0,r0,rfl,q0⟩:=jte hl;obtain⟨a1,r1,rfl,q1⟩:=jte q0;obtain⟨a2,r2,rfl,q2⟩:=jte q1;cases List.eq_nil_of_length_eq_zero q2;exact h a0 a1 a2
inductive Fct(K:W.Frag)(x:Str)(s:Stmt):Prop
 | mk {f:Addr} {oc kV dc pm cd ct:Value} {od an:Option Addr} {sl:qf} (a:W.nsIn K mainGlobals x=some (some (.ref f))) (l:K.lookup f=some ⟨oc,od,.func (W.fnOf x x (jbx s) (jar s) (jad s) .none kV dc pm an cd ct),sl⟩) (c:W.codeIn K cd x=true) (k:W.keepIn K (.ref f)=true):Fct K x s
def fct1{K:W.Frag}{h:Heap}{mg:qa}{x:Str}{s:Stmt}{p0:Str}(X:K.In h)(G:h.Ns mainGlobals mg)(q:∀ (kV dc pm:Value) (an:Option Addr) (cd ct a0:Value),bindArgs (W.fnOf x x (jbx s) (jar s) (jad s) .none kV dc pm an cd ct) ⟨[a0],[]⟩=pure ([p0].zip [a0]))(F:Fct K x s):jcw K mg x s [p0]:=by
 obtain⟨a,l,c,k⟩:=F;exact jm0 X G (fun kV dc pm an cd ct=>jEv (q kV dc pm an cd ct)) a l c k
def fct2{K:W.Frag}{h:Heap}{mg:qa}{x:Str}{s:Stmt}{p0 p1:Str}(X:K.In h)(G:h.Ns mainGlobals mg)(q:∀ (kV dc pm:Value) (an:Option Addr) (cd ct a0 a1:Value),bindArgs (W.fnOf x x (jbx s) (jar s) (jad s) .none kV dc pm an cd ct) ⟨[a0,a1],[]⟩=pure ([p0,p1].zip [a0,a1]))(F:Fct K x s):jcw K mg x s [p0,p1]:=by
 obtain⟨a,l,c,k⟩:=F;exact jm0 X G (fun kV dc pm an cd ct=>jxt (q kV dc pm an cd ct)) a l c k
def fct3{K:W.Frag}{h:Heap}{mg:qa}{x:Str}{s:Stmt}{p0 p1 p2:Str}(X:K.In h)(G:h.Ns mainGlobals mg)(q:∀ (kV dc pm:Value) (an:Option Addr) (cd ct a0 a1 a2:Value),bindArgs (W.fnOf x x (jbx s) (jar s) (jad s) .none kV dc pm an cd ct) ⟨[a0,a1,a2],[]⟩=pure ([p0,p1,p2].zip [a0,a1,a2]))(F:Fct K x s):jcw K mg x s [p0,p1,p2]:=by
 obtain⟨a,l,c,k⟩:=F;exact jm0 X G (fun kV dc pm an cd ct=>jBm (q kV dc pm an cd ct)) a l c k
def txt_mk{K:W.Frag}{h:Heap}{mg:qa}(X:K.In h)(G:h.Ns mainGlobals mg)
    {ae:Addr}
    {br:Addr}
    {bc:Addr}
    {ba:Addr}
    {az:Addr}
    {ay:Addr}
    {ax:Addr}
    {ak:Addr}
    {aj:Addr}
    {aw:Addr}
    {av:Addr}
    {ai:Addr}
    {ah:Addr}
    {ag:Addr}
    {c0:Addr} {gl gv ig fz dm ip:Value} {gd iz:Option Addr} {ez:qf}
    {d7:Addr} {gk gu ie fu dk io:Value} {gc iw:Option Addr} {et:qf}
    {d6:Addr} {gj gt ic ft dj im:Value} {gb iv:Option Addr} {ek:qf}
    {d5:Addr} {gg gs ib fq di ik:Value} {f9 iu:Option Addr} {eh:qf}
    {d4:Addr} {gf gr ia fk dh ij:Value} {f8 ir:Option Addr} {eg:qf}
    {d3:Addr} {ge gq g6 fj df ii:Value} {f7 iq:Option Addr} {d9:qf}
    {t0:Tok}
    {t1:Tok}
    {t2:Tok}
    {t3:Tok}
    {t4:Tok}
    {t5:Tok}
    (af:W.nsIn K mainGlobals "OpenSum"=some (some (.ref ae)))
    (bj:W.plainGet K ae Str.empty=true)
    (bi:W.hasDictIn K ae=true)
    (bh:W.plainOver K ae=true)
    (be:W.findIn K (.ref ae) "__setattr__"=some (some (.builtin "object.__setattr__")))
    (au:W.findIn K (.ref ae) "star"=some none)
    (aq:W.findIn K (.ref ae) "term"=some none)
    (ao:W.findIn K (.ref ae) "term_sign"=some none)
    (am:W.findIn K (.ref ae) "total"=some none)
    (bt:W.nsIn K mainGlobals "BookError"=some (some (.ref br)))
    (cq:W.nsIn K mainGlobals "Broken"=some (some (.ref bc)))
    (cp:W.nsIn K mainGlobals "Folded"=some (some (.ref ba)))
    (cm:W.nsIn K mainGlobals "NoBook"=some (some (.ref az)))
    (cj:W.nsIn K mainGlobals "NoDeed"=some (some (.ref ay)))
    (ci:W.nsIn K mainGlobals "NoLine"=some (some (.ref ax)))
    (bu:W.nsIn K mainGlobals "NoName"=some (some (.ref ak)))
    (cb:W.nsIn K mainGlobals "NoPaper"=some (some (.ref aj)))
    (cg:W.nsIn K mainGlobals "NoRule"=some (some (.ref aw)))
    (ce:W.nsIn K mainGlobals "NoText"=some (some (.ref av)))
    (bq:W.nsIn K mainGlobals "NotPlain"=some (some (.ref ai)))
    (bz:W.nsIn K mainGlobals "OutOfRange"=some (some (.ref ah)))
    (bw:W.nsIn K mainGlobals "ShortShare"=some (some (.ref ag)))
    (tab:xTab K [("Broken",bc),("Folded",ba),("NoBook",az),("NoDeed",ay),("NoLine",ax),("NoName",ak),("NoPaper",aj),("NoRule",aw),("NoText",av),("NotPlain",ai),("OutOfRange",ah),("ShortShare",ag)] br xfs=true)
    (d8:jH3 K [("Broken",bc),("Folded",ba),("NoBook",az),("NoDeed",ay),("NoLine",ax),("NoName",ak),("NoPaper",aj),("NoRule",aw),("NoText",av),("NotPlain",ai),("OutOfRange",ah),("ShortShare",ag)] br=true)
    (h0:Fct K "_law_mix" ji9)
    (h1:Fct K "_law_at" jki)
    (h2:Fct K "_law_name" jh0)
    (h3:Fct K "_law_names" jgs)
    (h4:Fct K "_law_written" jev)
    (h5:Fct K "_law_built" jgr)
    (h6:Fct K "_law_reckon" jb8)
    (h7:Fct K "_law_due" jhp)
    (h8:Fct K "_law_tokens" jfm)
    (h9:Fct K "is_letter" jgq)
    (h10:Fct K "is_figure" jgp)
    (h11:Fct K "end_of_piece" jd8)
    (h12:Fct K "may_stand" jgu)
    (h13:Fct K "depth_by" jhz)
    (h14:Fct K "wanted_behind" jdv)
    (h15:Fct K "pieces_of" jgw)
    (a16:W.findIn K (.ref ak) "__init__"=some (some (.ref c0)))
    (b16:W.isFn K (.ref c0)=true)
    (l16:K.lookup c0=some ⟨gl,gd,.func (W.fnOf "__init__" "NoName.__init__" (jbx jcd) (jar jcd) (jad jcd) .none gv ig fz iz dm ip),ez⟩)
    (c16:W.codeIn K dm "NoName.__init__"=true)
    (k16:W.keepIn K (.ref c0)=true)
    (a17:W.findIn K (.ref ae) "__init__"=some (some (.ref d7)))
    (b17:W.isFn K (.ref d7)=true)
    (i17:W.makesIn K ae=true)
    (j17:W.keepIn K (.ref ae)=true)
    (l17:K.lookup d7=some ⟨gk,gc,.func (W.fnOf "__init__" "OpenSum.__init__" (jbx jb5) (jar jb5) (jad jb5) .none gu ie fu iw dk io),et⟩)
    (c17:W.codeIn K dk "OpenSum.__init__"=true)
    (k17:W.keepIn K (.ref d7)=true)
    (h18:Fct K "times" jla)
    (h19:Fct K "is_plain" jf1)
    (a20:W.findIn K (.ref ai) "__init__"=some (some (.ref d6)))
    (b20:W.isFn K (.ref d6)=true)
    (l20:K.lookup d6=some ⟨gj,gb,.func (W.fnOf "__init__" "NotPlain.__init__" (jbx jbv) (jar jbv) (jad jbv) .none gt ic ft iv dj im),ek⟩)
    (c20:W.codeIn K dj "NotPlain.__init__"=true)
    (k20:W.keepIn K (.ref d6)=true)
    (h21:Fct K "product" jf2)
    (a22:W.findIn K (.ref ae) "take_factor"=some (some (.ref d5)))
    (b22:W.isFn K (.ref d5)=true)
    (l22:K.lookup d5=some ⟨gg,f9,.func (W.fnOf "take_factor" "OpenSum.take_factor" (jbx jas) (jar jas) (jad jas) .none gs ib fq iu di ik),eh⟩)
    (c22:W.codeIn K di "OpenSum.take_factor"=true)
    (k22:W.keepIn K (.ref d5)=true)
    (h23:Fct K "added" jk9)
    (a24:W.findIn K (.ref ae) "whole"=some (some (.ref d4)))
    (b24:W.isFn K (.ref d4)=true)
    (l24:K.lookup d4=some ⟨gf,f8,.func (W.fnOf "whole" "OpenSum.whole" (jbx jce) (jar jce) (jad jce) .none gr ia fk ir dh ij),eg⟩)
    (c24:W.codeIn K dh "OpenSum.whole"=true)
    (k24:W.keepIn K (.ref d4)=true)
    (a25:W.findIn K (.ref ae) "take_sign"=some (some (.ref d3)))
    (b25:W.isFn K (.ref d3)=true)
    (l25:K.lookup d3=some ⟨ge,f7,.func (W.fnOf "take_sign" "OpenSum.take_sign" (jbx jbe) (jar jbe) (jad jbe) .none gq g6 fj iq df ii),d9⟩)
    (c25:W.codeIn K df "OpenSum.take_sign"=true)
    (k25:W.keepIn K (.ref d3)=true)
    (h26:Fct K "number_of_figures" jco)
    (h27:Fct K "number_of" jgv)
    (h28:Fct K "form_of_word" jdi)
    (h29:Fct K "reckoned" jey)
    (h30:Fct K "read_sum" jex)
    (h31:Fct K "_law_whole" jgt)
    (dz:Fct K "_law_is_form" jdu)
    (h33:Fct K "law" jzo)
    (y0:W.nsIn K mainGlobals "BEGINNING"=some (some (.str "beginning" t0)))
    (y1:W.nsIn K mainGlobals "BEHIND"=some (some (.str "behind" t1)))
    (y2:W.nsIn K mainGlobals "FACTOR"=some (some (.str "factor" t2)))
    (y3:W.nsIn K mainGlobals "NAME_LENGTH"=some (some (.int 10 t3)))
    (y4:W.nsIn K mainGlobals "PART_FIGURES"=some (some (.int 18 t4)))
    (y5:W.nsIn K mainGlobals "PART_SIZE"=some (some (.int 1000000000000000000 t5)))
    (z0:W.nsIn K mainGlobals "ValueError"=some none)
    (z1:W.nsIn K mainGlobals "all"=some none)
    (z2:W.nsIn K mainGlobals "bool"=some none)
    (z3:W.nsIn K mainGlobals "int"=some none)
    (z4:W.nsIn K mainGlobals "isinstance"=some none)
    (z5:W.nsIn K mainGlobals "len"=some none)
    (z6:W.nsIn K mainGlobals "list"=some none)
    (z7:W.nsIn K mainGlobals "range"=some none)
    (z8:W.nsIn K mainGlobals "str"=some none)
    (z9:W.nsIn K mainGlobals "tuple"=some none)
    (z10:W.nsIn K mainGlobals "zip"=some none):Txt K mg:=by
  have dn:∀ p∈([("Broken",bc),("Folded",ba),("NoBook",az),("NoDeed",ay),("NoLine",ax),("NoName",ak),("NoPaper",aj),("NoRule",aw),("NoText",av),("NotPlain",ai),("OutOfRange",ah),("ShortShare",ag)]:List (Str×Addr)),mg p.1=some (.ref p.2):=(List.forall_mem_cons.mpr ⟨W.mg_of X G cq,(List.forall_mem_cons.mpr ⟨W.mg_of X G cp,(List.forall_mem_cons.mpr ⟨W.mg_of X G cm,(List.forall_mem_cons.mpr ⟨W.mg_of X G cj,(List.forall_mem_cons.mpr ⟨W.mg_of X G ci,(List.forall_mem_cons.mpr ⟨W.mg_of X G bu,(List.forall_mem_cons.mpr ⟨W.mg_of X G cb,(List.forall_mem_cons.mpr ⟨W.mg_of X G cg,(List.forall_mem_cons.mpr ⟨W.mg_of X G ce,(List.forall_mem_cons.mpr ⟨W.mg_of X G bq,(List.forall_mem_cons.mpr ⟨W.mg_of X G bz,(List.forall_mem_cons.mpr ⟨W.mg_of X G bw,(List.forall_mem_nil _)⟩)⟩)⟩)⟩)⟩)⟩)⟩)⟩)⟩)⟩)⟩)⟩)
  have errs:ErrT K mg xcs xfs "BookError":=jCd (es:=[("Broken",bc),("Folded",ba),("NoBook",az),("NoDeed",ay),("NoLine",ax),("NoName",ak),("NoPaper",aj),("NoRule",aw),("NoText",av),("NotPlain",ai),("OutOfRange",ah),("ShortShare",ag)]) dn (W.mg_of X G bt) tab;exact⟨jkg X G af bj bi bh be (List.forall_mem_cons.mpr ⟨au,(List.forall_mem_cons.mpr ⟨aq,(List.forall_mem_cons.mpr ⟨ao,(List.forall_mem_cons.mpr ⟨am,(List.forall_mem_nil _)⟩)⟩)⟩)⟩),
   errs,
   jCc (es:=[("Broken",bc),("Folded",ba),("NoBook",az),("NoDeed",ay),("NoLine",ax),("NoName",ak),("NoPaper",aj),("NoRule",aw),("NoText",av),("NotPlain",ai),("OutOfRange",ah),("ShortShare",ag)]) dn (W.mg_of X G bt) d8,
   fct2 X G (fun _ _ _ _ _ _ _ _=>rfl) h0,
   fct2 X G (fun _ _ _ _ _ _ _ _=>rfl) h1,
   fct1 X G (fun _ _ _ _ _ _ _=>rfl) h2,
   fct2 X G (fun _ _ _ _ _ _ _ _=>rfl) h3,
   fct2 X G (fun _ _ _ _ _ _ _ _=>rfl) h4,
   fct2 X G (fun _ _ _ _ _ _ _ _=>rfl) h5,
   fct2 X G (fun _ _ _ _ _ _ _ _=>rfl) h6,
   fct2 X G (fun _ _ _ _ _ _ _ _=>rfl) h7,
   fct1 X G (fun _ _ _ _ _ _ _=>rfl) h8,
   fct1 X G (fun _ _ _ _ _ _ _=>rfl) h9,
   fct1 X G (fun _ _ _ _ _ _ _=>rfl) h10,
   fct2 X G (fun _ _ _ _ _ _ _ _=>rfl) h11,
   fct3 X G (fun _ _ _ _ _ _ _ _ _=>rfl) h12,
   fct1 X G (fun _ _ _ _ _ _ _=>rfl) h13,
   fct1 X G (fun _ _ _ _ _ _ _=>rfl) h14,
   fct1 X G (fun _ _ _ _ _ _ _=>rfl) h15,
   joy X G (fun _ _ _ _ _ _=>jBm (fun _ _ _=>rfl)) (W.mg_of X G bu) (errs.cls "NoName" (zbc.mp rfl) _ (W.mg_of X G bu)) a16 b16 l16 c16 k16,
   jyf X G (fun _ _ _ _ _ _=>jxt (fun _ _=>rfl)) af i17 a17 b17 j17 l17 c17 k17,
   fct2 X G (fun _ _ _ _ _ _ _ _=>rfl) h18,
   fct1 X G (fun _ _ _ _ _ _ _=>rfl) h19,
   joy X G (fun _ _ _ _ _ _=>jxt (fun _ _=>rfl)) (W.mg_of X G bq) (errs.cls "NotPlain" (zbc.mp rfl) _ (W.mg_of X G bq)) a20 b20 l20 c20 k20,
   fct3 X G (fun _ _ _ _ _ _ _ _ _=>rfl) h21,
   jnc X G (jkg X G af bj bi bh be (List.forall_mem_cons.mpr ⟨au,(List.forall_mem_cons.mpr ⟨aq,(List.forall_mem_cons.mpr ⟨ao,(List.forall_mem_cons.mpr ⟨am,(List.forall_mem_nil _)⟩)⟩)⟩)⟩)) (fun _ _ _ _ _ _=>jxt (fun _ _=>rfl)) af a22 b22 l22 c22 k22,
   fct2 X G (fun _ _ _ _ _ _ _ _=>rfl) h23,
   jnc X G (jkg X G af bj bi bh be (List.forall_mem_cons.mpr ⟨au,(List.forall_mem_cons.mpr ⟨aq,(List.forall_mem_cons.mpr ⟨ao,(List.forall_mem_cons.mpr ⟨am,(List.forall_mem_nil _)⟩)⟩)⟩)⟩)) (fun _ _ _ _ _ _=>jEv (fun _=>rfl)) af a24 b24 l24 c24 k24,
   jnc X G (jkg X G af bj bi bh be (List.forall_mem_cons.mpr ⟨au,(List.forall_mem_cons.mpr ⟨aq,(List.forall_mem_cons.mpr ⟨ao,(List.forall_mem_cons.mpr ⟨am,(List.forall_mem_nil _)⟩)⟩)⟩)⟩)) (fun _ _ _ _ _ _=>jBm (fun _ _ _=>rfl)) af a25 b25 l25 c25 k25,
   fct1 X G (fun _ _ _ _ _ _ _=>rfl) h26,
   fct1 X G (fun _ _ _ _ _ _ _=>rfl) h27,
   fct2 X G (fun _ _ _ _ _ _ _ _=>rfl) h28,
   fct2 X G (fun _ _ _ _ _ _ _ _=>rfl) h29,
   fct2 X G (fun _ _ _ _ _ _ _ _=>rfl) h30,
   fct1 X G (fun _ _ _ _ _ _ _=>rfl) h31,
   fct2 X G (fun _ _ _ _ _ _ _ _=>rfl) dz,
   fct1 X G (fun _ _ _ _ _ _ _=>rfl) h33,
   ⟨_,W.mg_of X G y0⟩,
   ⟨_,W.mg_of X G y1⟩,
   ⟨_,W.mg_of X G y2⟩,
   ⟨_,W.mg_of X G y3⟩,
   ⟨_,W.mg_of X G y4⟩,
   ⟨_,W.mg_of X G y5⟩,
   W.mg_none_of X G z0,
   W.mg_none_of X G z1,
   W.mg_none_of X G z2,
   W.mg_none_of X G z3,
   W.mg_none_of X G z4,
   W.mg_none_of X G z5,
   W.mg_none_of X G z6,
   W.mg_none_of X G z7,
   W.mg_none_of X G z8,
   W.mg_none_of X G z9,
   W.mg_none_of X G z10⟩
def walk{l:W.OpenLaw}{q:Program}{b0:List Str}{XP:(qa)->Heap->Prop}{YP:World->Heap->Prop}{d:DefRec}{K:Params->W.Frag}(hn:l.most=some 63)(gz:d.params.defaults=[])
  (hY:∀ (w:World) (h:Heap),YP w h->(K w.params).In h)
  (F:∀ (w:World) (mg:qa) (fa:Addr) (h:Heap),(K w.params).In h->h.Ns mainGlobals mg->mg d.name=some (.ref fa)->Txt (K w.params) mg/\mg "law"=some (.ref fa))
  (hm:∀ ns:List Int,ns.length<=63->∃ Ω,jvg [.lst (ns.map .int)] []=some (.ok (.bl true),Ω)) :
  W.WalkO q b0 XP YP l.row.toRowW d [] (fun f vs=>PySem.call f vs) :=
 L2.walk_of (n:=63) (k:=8) (x:="_law_script") (CX:=fun _=>CX0) (sp:=fun w=>spA (K w.params) 1 jvg) hn (by decide) gz ⟨rfl,by decide,by decide⟩ hY
  (fun w mg fa h KX G hmg=>by
   obtain⟨T,hf⟩:=F w mg fa h KX G hmg;obtain⟨fd,FF,hb⟩:=jux T.f_law hf (fun _ _ _ _ _ _ _ _=>.of_eq rfl);exact⟨fd,hb,fun base _ _=>(fn_E FF sc_law (jxv T)).imp fun vs H Q E z=>z mg⟩)
  (fun _ _ a ns hl _ hS=>fun mg=>let ⟨Ω,e⟩:=hm ns hl;jCr hS e) fun _ _ _ _ _ z=>z
def jzy{q:Program}{b0:List Str}{XP:(qa)->Heap->Prop}{K:Params->W.Frag}{as:List Addr}{n t:Nat}{r:W.RowW}{d:DefRec}{ja:List (Str×Expr)}{run:Value->List Value->Sem Value}
  (he:∀ P,as=(K P).map (·.1)) (h:W.WalkO q b0 XP (fun w h=>(K w.params).In h) r d ja run):W.WalkX q b0 XP (W.X.obsZ as) (W.X.valZ K n t) r d ja run:=by
 intro w s₀ s₁ mg mb G y a o pm cd doc dV kV ho hd hcd hD hmg hg args vals as' L;refine h w s₀ s₁ mg mb G ?_ a o pm cd doc dV kV ho hd hcd hD hmg hg args vals as';have e:(K w.params).In s₀.heap:=(W.X.z_facts he y).2.1;exact fun b o' q=>L.keeps b o' (e b o' q)
def walkZ{l:W.OpenLaw}{q:Program}{b0:List Str}{XP:(qa)->Heap->Prop}{d:DefRec}{K:Params->W.Frag}{as:List Addr}{n t:Nat}(he:∀ P,as=(K P).map (·.1))(hn:l.most=some 63)(gz:d.params.defaults=[])
  (F:∀ (w:World) (mg:qa) (fa:Addr) (h:Heap),(K w.params).In h->h.Ns mainGlobals mg->mg d.name=some (.ref fa)->Txt (K w.params) mg/\mg "law"=some (.ref fa))
  (hm:∀ ns:List Int,ns.length<=63->∃ Ω,jvg [.lst (ns.map .int)] []=some (.ok (.bl true),Ω)) :
  W.WalkX q b0 XP (W.X.obsZ as) (W.X.valZ K n t) l.row.toRowW d [] (fun f vs=>PySem.call f vs) :=
 jzy he (walk (K:=K) hn gz (fun _ _ y=>y) F hm)
section
abbrev Fm:=List Int×Int
def fm(f:Fm):D:=.tup [.tup (f.1.map .int),.int f.2]
abbrev of(a:Fm):Option D:=some (fm a)
def addF(a b:Fm):Fm:=((a.1.zip b.1).map fun p=>p.1+p.2,a.2+b.2)
def mulF(a:Fm)(n:Int):Fm:=(a.1.map (·*n),a.2*n)
def BF(k:Nat)(f:Fm):Prop:=(∀ c∈f.1,Bt k c)/\Bt k f.2
def jau(f:Fm):Bool:=f.1.all (· == 0)
def jB7(own:Nat)(caps:qg)(Y:DSt):jiy own caps Y=List.replicate own none++caps.map fun p=>(Y[p.2]?).join:=rfl
def zip_tt(xs ys:List D):jfp [.tup xs,.tup ys]=some (zipD xs ys):=rfl
def stpA:=And.intro stp (And.intro (@jB7) True.intro)
def jj0{ds:List D}(h:ds.length<=1000):jbq ds=oL ds:=jCs (zdy h (by decide))
def jxs(a b:Fm)(h:a.1.length<=1000):jm8 [fm a,fm b]=oK (fm (addF a b)):=by
 have e:=jon (c:=[]) (fe:=jmm) (K:=fun p:Int×Int=>(D.int p.1,D.int p.2)) (F:=fun p=>.int (p.1+p.2)) (a.1.zip b.1) none none (fun p hp=>by unfold jmm;simp only[stpA,Nat.reduceSub];rfl);unfold jm8;rw[jh7];unfold jqf fm addF;simp only[stpA,Nat.reduceSub,e,jj0 (ds:=List.map (fun p:Int×Int=>D.int (p.1+p.2)) (a.1.zip b.1)) (by rw[zav,List.length_zip];omega)];rw[List.map_map];rfl
def jn5{k l:Nat}{a:Fm}{n:Int}(ha:BF k a)(hn:Bt l n)(hk:k<=100000)(hl:l<=100000)(h:a.1.length<=1000):jjn [fm a,.int n]=oK (fm (mulF a n)):=by
 have e:=jg4 (c:=[oI n]) (fe:=jmn) (K:=D.int) (F:=fun c=>.int (c*n)) a.1 none (fun c hc=>by unfold jmn;simp only[stpA,Nat.reduceSub,jdl (ha.1 c hc) hn hk hl];rfl);unfold jjn;rw[jh7];unfold jqg fm mulF;simp only[stpA,Nat.reduceSub,e,jdl ha.2 hn hk hl,jj0 (ds:=List.map (fun c=>D.int (c*n)) a.1) (by rw[zav];omega)];rw[List.map_map];rfl
def jsh(a:Fm)(h:a.1.length<=1000):jfw [fm a]=oK (.bl (jau a)):=by
 have e:=jg4 (c:=[]) (fe:=jib) (K:=D.int) (F:=fun c=>.bl (c == 0)) a.1 none (fun c hc=>by unfold jib;simp only[stpA,Nat.reduceSub];rfl);unfold jfw;rw[jg8];unfold jjj fm jau;have e2:(a.1.map fun c=>D.bl (c == 0))=(a.1.map fun c=>(c == 0)).map .bl:=by rw[List.map_map];rfl
 rw[e2] at e;simp only[stpA,Nat.reduceSub,e,jBl,jj0 (ds:=List.map D.bl (List.map (fun c=>c == 0) a.1)) (by rw[zav,zav];omega)];simp[M.p,List.all_map,Function.comp_def]
def jhl(a b:Fm):Fm:=if jau b=true then mulF a b.2 else mulF b a.2
def lft{α:Type}{g:DSt->M α}{Y:DSt}{a:α}{Ω:Sto}(h:g Y=some (.ok a)):lF g Y Ω=some (.ok a,Ω):=by
 unfold lF MS.l;rw[h];rfl
def eseq{g1 g2:DSt->MS Out}{Y Y':DSt}{Ω Ω':Sto}(h:g1 Y Ω=some (.ok (.nx Y'),Ω')):eSeq g1 g2 Y Ω=g2 Y' Ω':=by
 unfold eSeq;rw[MS.b_ok h]
def jg9{g1 g2:DSt->MS Out}{Y:DSt}{d:D}{Ω Ω':Sto}(h:g1 Y Ω=some (.ok (.rt d),Ω')):eSeq g1 g2 Y Ω=some (.ok (.rt d),Ω'):=by
 unfold eSeq;rw[MS.b_ok h];rfl
def jqa{g1 g2:DSt->MS Out}{Y Y':DSt}{Ω Ω':Sto}(h:g1 Y Ω=some (.ok (.ct Y'),Ω')):eSeq g1 g2 Y Ω=some (.ok (.ct Y'),Ω'):=by
 unfold eSeq;rw[MS.b_ok h];rfl
def jx6{g1 g2:DSt->MS Out}{Y:DSt}{Ω Ω':Sto}{x:XD}(h:g1 Y Ω=some (.error x,Ω')):eSeq g1 g2 Y Ω=some (.error x,Ω'):=by
 unfold eSeq MS.b;rw[h]
def eif{t:DSt->MS Bool}{g1 g2:DSt->MS Out}{Y:DSt}{Ω Ω':Sto}{c:Bool}(h:t Y Ω=some (.ok c,Ω')):eIf t g1 g2 Y Ω=if c=true then g1 Y Ω' else g2 Y Ω':=by
 unfold eIf;rw[MS.b_ok h];cases c<;>rfl
def b_err{α β:Type}{m:MS α}{f:α->MS β}{Ω Ω1:Sto}{x:XD}(h:m Ω=some (.error x,Ω1)):m.b f Ω=some (.error x,Ω1):=by unfold MS.b;rw[h]
def jqh{a:SO}{r:Sto}(Ω:Sto):(Ω++a::r)[Ω.length]? = some a:=by
 rw[List.getElem?_append_right (zac _),Nat.sub_self];rfl
def errs(Ω:Sto)(f:Bool)(o:Int):Sto:=Ω++[.exc "NotPlain" (some (Ω.length+1),f),.xd [("place",.int o)]]
def jyg(Ω:Sto)(o:Int):jbu [.obj Ω.length,.int o] (Ω++[.exc "NotPlain" (none,true)])=some (.ok .non,errs Ω true o):=by
 let Y:DSt:=[some (.obj Ω.length),oI o]
 unfold jbu mirE;rw[if_pos (show [D.obj Ω.length,D.int o].length=2 from rfl)];refine (MS.b_ok (a:=.nx Y) (Ω1:=errs Ω true o) ?_).trans rfl;show jc9 Y _=_;unfold jc9 jut;rw[MS.b_ok (a:=.int o) (Ω1:=Ω++[.exc "NotPlain" (none,true)]) rfl,MS.b_ok (a:=.obj Ω.length) (Ω1:=Ω++[.exc "NotPlain" (none,true)]) rfl];refine (MS.b_ok (a:=()) (Ω1:=errs Ω true o) ?_).trans rfl;unfold putX;dsimp only;rw[jqh];dsimp only;rw[if_pos (by decide),List.append_assoc,List.set_append_right _ _ (zac _),Nat.sub_self,zcb];rfl
def jzl{Ω:Sto}{Y:DSt}{o:Int}{fl:DSt->MS (List D)}(h:fl Y Ω=some (.ok [.int o],Ω)):jot xcs (jl8 "NotPlain" jbu fl) Y Ω=some (.error (xdO Ω.length),errs Ω false o):=by
 have mk:jl8 "NotPlain" jbu fl Y Ω=some (.ok (.obj Ω.length),errs Ω true o):=by
  unfold jl8;rw[MS.b_ok h];unfold jtg;rw[MS.b_ok (jyg Ω o)];rfl
 unfold jot;rw[MS.b_ok mk];dsimp only;unfold jsn errs;rw[jqh];dsimp only;rw[if_pos (by decide),List.set_append_right _ _ (zac _),Nat.sub_self];rfl
def jzg(Ω:Sto)(a b:Fm)(o:Int):Option (Except XD D×Sto):=if (jau a || jau b)=true then some (.ok (fm (jhl a b)),Ω) else some (.error (xdO Ω.length),errs Ω false o)
def jtp{k:Nat}{a b:Fm}{o:Int}(ha:BF k a)(hb:BF k b)(hk:k<=100000)(h1:a.1.length<=1000)(h2:b.1.length<=1000)(Ω:Sto):jhh [fm a,fm b,.int o] Ω=jzg Ω a b o:=by
 have tb:=jsh b h2;have ta:=jsh a h1;have x1:=jn5 ha hb.2 hk hk h1;have x2:=jn5 hb ha.2 hk hk h2;unfold jhh mirE;rw[if_pos (show [fm a,fm b,D.int o].length=3 from rfl)];unfold jzg;have e1:∀ f:Fm,gIx (fm f) (.int 1)=oI f.2:=fun f=>by unfold fm;simp
 show MS.b (jix [of a,of b,oI o]) outE Ω=_;unfold jix
 by_cases q:jau b=true
 ·rw[q] at tb;rw[if_pos (by rw[q,Bool.or_true]),show jhl a b=mulF a b.2 from if_pos q];refine (MS.b_ok (a:=.rt (fm (mulF a b.2))) (Ω1:=Ω) ?_).trans rfl;exact jg9 (lft (by simp only[stpA,Nat.reduceSub,tb,e1,x1];rfl))
 ·rw[Bool.not_eq_true] at q;rw[q] at tb;rw[MS.b,eseq (Y':=[of a,of b,oI o]) (Ω':=Ω) (lft (by simp only[stpA,Nat.reduceSub,tb];rfl))]
  by_cases q2:jau a=true
  ·rw[q2] at ta;rw[if_pos (by rw[q2,Bool.true_or]),show jhl a b=mulF b a.2 from if_neg (by rw[q];decide),jg9 (d:=fm (mulF b a.2)) (Ω':=Ω) (lft (by simp only[stpA,Nat.reduceSub,ta,e1,x2];rfl))];rfl
  ·rw[Bool.not_eq_true] at q2;rw[q2] at ta;rw[if_neg (by rw[q,q2];decide),eseq (Y':=[of a,of b,oI o]) (Ω':=Ω) (lft (by simp only[stpA,Nat.reduceSub,ta];rfl)),jzl (lft (by rfl))]
structure OS where
 total:Fm
 term:Fm
 sign:Int
 star:Option Int
def jn2:Option Int->D
 | none=>.non
 | some i=>.int i
def osO(o:OS):SO:=.ins "OpenSum" [("total",fm o.total),("term",fm o.term),("term_sign",.int o.sign),("star",jn2 o.star)]
section
variable {Ω:Sto}{i:Nat}{o:OS}
def ju0(h:Ω[i]? = some (osO o)):getO ["OpenSum"] "total" (.obj i) Ω=some (.ok (fm o.total),Ω):=by unfold getO;dsimp only;rw[h];rfl
def jm3(h:Ω[i]? = some (osO o)):getO ["OpenSum"] "term" (.obj i) Ω=some (.ok (fm o.term),Ω):=by unfold getO;dsimp only;rw[h];rfl
def jyc(h:Ω[i]? = some (osO o)):getO ["OpenSum"] "term_sign" (.obj i) Ω=some (.ok (.int o.sign),Ω):=by unfold getO;dsimp only;rw[h];rfl
def jr0(h:Ω[i]? = some (osO o)):getO ["OpenSum"] "star" (.obj i) Ω=some (.ok (jn2 o.star),Ω):=by unfold getO;dsimp only;rw[h];rfl
def jwp(h:Ω[i]? = some (osO o))(f:Fm):putO ["OpenSum"] "total" (.obj i) (fm f) Ω=some (.ok (),Ω.set i (osO { o with total:=f })):=by unfold putO;dsimp only;rw[h];rfl
def jsm(h:Ω[i]? = some (osO o))(f:Fm):putO ["OpenSum"] "term" (.obj i) (fm f) Ω=some (.ok (),Ω.set i (osO { o with term:=f })):=by unfold putO;dsimp only;rw[h];rfl
def jzk(h:Ω[i]? = some (osO o))(f:Int):putO ["OpenSum"] "term_sign" (.obj i) (.int f) Ω=some (.ok (),Ω.set i (osO { o with sign:=f })):=by unfold putO;dsimp only;rw[h];rfl
def jsl(h:Ω[i]? = some (osO o))(f:Option Int):putO ["OpenSum"] "star" (.obj i) (jn2 f) Ω=some (.ok (),Ω.set i (osO { o with star:=f })):=by unfold putO;dsimp only;rw[h];rfl
end
def stsA:=And.intro (@s_b) <| And.intro (@jho) <| And.intro (@s_p) <| And.intro (@s_lp) <| And.intro (@jJk) <| And.intro (@s_o) <| And.intro (@s_lF) <| And.intro (@jJj) <| And.intro (@jA7) <| And.intro (@s_2) <| And.intro (@s_L) <| And.intro (@jw0) <| And.intro (@jG4) <| And.intro (@jG9) <| And.intro (@jG8) <| And.intro (@jA8) <| And.intro (@jJm) <| And.intro (@s_if) <| And.intro (@s_nx) <| And.intro (@jJl) <| And.intro (@jJn) <| And.intro (@jBo) <| And.intro (@s_B) <| And.intro (@jq5) <| And.intro (@jD4) <| And.intro (@jD1) <| And.intro (@jzq) <| And.intro (@jzp) <| And.intro (@jA9) <| And.intro (@jw1) <| And.intro (@jG5) <| True.intro
section
variable {Ω:Sto}{i:Nat}{o:OS}
def wholeF(o:OS):Fm:=addF o.total o.term
def jn6(h:Ω[i]? = some (osO o))(w:o.total.1.length<=1000):ja4 [.obj i] Ω=some (.ok (fm (wholeF o)),Ω):=by
 unfold ja4;rw[jG6];unfold je5;simp only[stsA,stpA,Nat.reduceSub,ju0 h,jm3 h,jxs o.total o.term w];rfl
def jme{x:SO}(h:Ω[i]? = some x)(y:SO):(Ω.set i y)[i]? = some y:=by
 have:=(zbb.mp h).1;rw[zcz this]
def jld(x y:SO):(Ω.set i x).set i y=Ω.set i y:=by simp
def jGv{f:Str}{d:D}{fs:List (Str×D)}(h:Ω[i]? = some (.ins "OpenSum" fs))(hl:fs.length<1000):putO ["OpenSum"] f (.obj i) d Ω=some (.ok (),Ω.set i (.ins "OpenSum" (putD f d fs))):=by
 unfold putO;dsimp only;rw[h];dsimp only;rw[if_pos (by rw[decide_eq_true hl];rfl)]
def jDs{f:Str}{d:D}{fs jh:List (Str×D)}(h:Ω[i]? = some (.ins "OpenSum" []))(hl:fs.length<1000)(e:putD f d fs=jh):putO ["OpenSum"] f (.obj i) d (Ω.set i (.ins "OpenSum" fs))=some (.ok (),Ω.set i (.ins "OpenSum" jh)):=by
 rw[jGv (jme h _) hl,jld,e]
def jCn(h:Ω[i]? = some (.ins "OpenSum" []))(n:Nat)(hn:n<=1000):jaz [.obj i,.int n] Ω=some (.ok .non,Ω.set i (osO ⟨(List.replicate n 0,0),(List.replicate n 0,0),1,none⟩)):=by
 unfold jaz;rw[jmd];unfold jei;have hr:=jB8 (Y:=[some (.obj i),oI n]) (fl:=jac (cI 0) fNil) (fb:=vR 1) (.int 0) n rfl rfl hn
 let z:D:=.tup [.tup (List.replicate n (.int 0)),.int 0]
 have p1:putO ["OpenSum"] "total" (.obj i) (.tup [.tup (List.replicate n (.int 0)),.int 0]) Ω=some (.ok (),Ω.set i (.ins "OpenSum" [("total",z)])):=jGv h (by decide);have q1:(Ω.set i (.ins "OpenSum" [("total",z)]))[i]? = some (.ins "OpenSum" [("total",z)]):=jme h _;have g1:getO ["OpenSum"] "total" (.obj i) (Ω.set i (.ins "OpenSum" [("total",z)]))=some (.ok z,Ω.set i (.ins "OpenSum" [("total",z)])):=by unfold getO;dsimp only;rw[q1];rfl
 have p2:putO ["OpenSum"] "term" (.obj i) z (Ω.set i (.ins "OpenSum" [("total",z)]))=some (.ok (),Ω.set i (.ins "OpenSum" [("total",z),("term",z)])):=jDs h (by show 1<1000;decide) rfl;have p3:putO ["OpenSum"] "term_sign" (.obj i) (.int 1) (Ω.set i (.ins "OpenSum" [("total",z),("term",z)]))=some (.ok (),Ω.set i (.ins "OpenSum" [("total",z),("term",z),("term_sign",.int 1)])):=jDs h (by show 2<1000;decide) rfl;have p4:putO ["OpenSum"] "star" (.obj i) .non (Ω.set i (.ins "OpenSum" [("total",z),("term",z),("term_sign",.int 1)]))=some (.ok (),Ω.set i (.ins "OpenSum" [("total",z),("term",z),("term_sign",.int 1),("star",.non)])):=jDs h (by show 3<1000;decide) rfl;simp only[stsA,stpA,Nat.reduceSub,hr,p1,g1,p2,p3,p4];unfold osO fm;rw[List.map_replicate];rfl
def takeF(o:OS)(f:Fm):OS:={ o with term:=match o.star with
 | none=>mulF f o.sign
 | some _=>jhl o.term f }
def jmw(o:OS)(f:Fm):Option Int:=match o.star with
 | none=>none
 | some p=>if (jau o.term || jau f)=true then none else some p
def jzw(Ω:Sto)(i:Nat)(o:OS)(f:Fm):Option (Except XD D×Sto):=match jmw o f with
 | none=>some (.ok .non,Ω.set i (osO (takeF o f)))
 | some p=>some (.error (xdO Ω.length),errs Ω false p)
def jov{k:Nat}{f:Fm}(h:Ω[i]? = some (osO o))(hf:BF k f)(jd:f.1.length<=1000)(hk:k<=100000)(hs:Bt k o.sign)(ht:o.star≠none->BF k o.term/\o.term.1.length<=1000) :
  jay [.obj i,fm f] Ω=jzw Ω i o f:=by
 unfold jay;rw[jmd];unfold jc2 jzw jmw takeF
 cases e:o.star with
 | none =>
  have g1:=jr0 h;rw[e] at g1;have i1:gIs (jn2 none) .non=some (.bl true):=rfl;have x:=jn5 hf hs hk hk jd;simp only[stsA,stpA,Nat.reduceSub,g1,i1,jyc h,x,jsm h];rw[e]
 | some p =>
  have g1:=jr0 h;rw[e] at g1;obtain⟨t1,t2⟩:=ht (by rw[e];exact nofun);have i1:gIs (jn2 (some p)) .non=some (.bl false):=rfl;have x:=jtp (o:=p) t1 hf hk t2 jd Ω;have x':jhh [fm o.term,fm f,jn2 (some p)] Ω=jzg Ω o.term f p:=x;unfold jzg at x';dsimp only
  by_cases q:(jau o.term || jau f)=true
  ·rw[if_pos q] at x' |-
   simp only[stsA,stpA,Nat.reduceSub,g1,i1,jm3 h,x',jsm h];rw[e]
  ·rw[if_neg q] at x' |-
   simp only[stsA,stpA,Nat.reduceSub,g1,i1,jm3 h,x'];rfl
def signF(o:OS)(c:Str)(p:Int):OS:=if c="*" then { o with star:=some p } else { total:=wholeF o,term:=o.term,sign:=if c="-" then -1 else 1,star:=none }
def jbf(x y:Str):gEq (.str x) (.str y)=some (.bl (x == y)):=rfl
def jD7{c:Str}{p:Int}(h:Ω[i]? = some (osO o))(w:o.total.1.length<=1000):jby [.obj i,.str c,.int p] Ω=some (.ok .non,Ω.set i (osO (signF o c p))):=by
 unfold jby;rw[jG7];unfold jdj signF
 by_cases q:c="*"
 ·have q':(c == "*")=true:=by rw[q];rfl
  have x:=jsl h (some p);rw[show jn2 (some p)=D.int p from rfl] at x;simp only[stsA,stpA,Nat.reduceSub,jbf,q',x,if_pos q]
 ·have q':(c == "*")=false:=beq_eq_false_iff_ne.mpr q;have x:=jn6 h w;have y:jnd "OpenSum" "whole" ja4 i (lF fNil) [some (.obj i),oS c,oI p] Ω=some (.ok (fm (wholeF o)),Ω):=by
   unfold jnd;rw[h];show (if _/\_ then _ else _)=_;rw[if_pos ⟨rfl,rfl⟩];simp only[stsA,stpA,Nat.reduceSub,x]
  have p1:=jwp h (wholeF o);have h1:=jme h (osO { o with total:=wholeF o });have p2:=fun n=>jzk h1 n
  have h2:∀ n,(Ω.set i (osO { o with total:=wholeF o,sign:=n }))[i]? = some (osO { o with total:=wholeF o,sign:=n }):=fun n=>jme h _
  have p3:=fun n=>jsl (h2 n) none
  rw[show jn2 none=D.non from rfl] at p3
  by_cases q2:c="-"
  ·have fg:(c == "-")=true:=by rw[q2];rfl
   simp only[stsA,stpA,Nat.reduceSub,jbf,q',y,p1,fg,neg_int,p2,jld,p3,if_neg q,if_pos q2]
  ·have fg:(c == "-")=false:=beq_eq_false_iff_ne.mpr q2;simp only[stsA,stpA,Nat.reduceSub,jbf,q',y,p1,fg,p2,jld,p3,if_neg q,if_neg q2]
end
end
section
def Stk(Ω:Sto):List Nat->List OS->Prop
 | [],[]=>True
 | i::r,o::os=>Ω[i]? = some (osO o)/\i∉r/\Stk Ω r os
 | _,_=>False
theorem Stk.set{Ω:Sto}{i:Nat}{x:SO}:∀ {r:List Nat} {os:List OS},i∉r->Stk Ω r os->Stk (Ω.set i x) r os
 | [],[],_,_=>trivial
 | j::r,o::os,hi,h=>by
  obtain⟨h1,h2,h3⟩:=h;have cz:i≠j:=fun e=>hi (by rw[e];exact zaa)
  exact⟨by rw[zbw cz];exact h1,h2,Stk.set (fun z=>hi (zaw _ z)) h3⟩
 | [],_::_,_,h=>h.elim
 | _::_,[],_,h=>h.elim
theorem Stk.push{Ω:Sto}{x:SO}:∀ {r:List Nat} {os:List OS},Stk Ω r os->Stk (Ω++[x]) r os
 | [],[],_=>trivial
 | j::r,o::os,h=>by
  obtain⟨h1,h2,h3⟩:=h;have:=(zbb.mp h1).1;exact⟨by rw[List.getElem?_append_left this];exact h1,h2,Stk.push h3⟩
 | [],_::_,h=>h.elim
 | _::_,[],h=>h.elim
theorem Stk.lt{Ω:Sto}:∀ {r:List Nat} {os:List OS},Stk Ω r os->∀ i∈r,i<Ω.length
 | [],[],_=>fun i hi=>(nomatch hi)
 | j::r,o::os,h=>fun i hi=>by
  rcases List.mem_cons.mp hi with rfl|hi
  ·exact (zbb.mp h.1).1
  ·exact Stk.lt h.2.2 i hi
 | [],_::_,h=>h.elim
 | _::_,[],h=>h.elim
def fresh(n:Nat):OS:=⟨(List.replicate n 0,0),(List.replicate n 0,0),1,none⟩
def jvi{Ω:Sto}{n:Nat}(hn:n<=1000):jtf "OpenSum" jaz [.int n] Ω=some (.ok (.obj Ω.length),Ω++[osO (fresh n)]):=by
 unfold jtf;have h:(Ω++[SO.ins "OpenSum" []])[Ω.length]? = some (.ins "OpenSum" []):=by simp
 rw[s_b,jCn h n hn];simp[fresh]
def KB:Nat:=90000
structure OkT(n:Nat)(b:OS)(f:Fm):Prop where
 lf:f.1.length=n
 bf:BF KB f
 bs:Bt KB b.sign
 pl:b.star≠none->BF KB b.term/\b.term.1.length=n
def jc3(w:Str):Bool:=inD (.str w) [.str "+",.str "-",.str "*"]
def jjy{w:Str}(h:jc3 w=true):w="+"\/w="-"\/w="*":=by
 have:(("+":Str) == w || (("-":Str) == w || (("*":Str) == w || false)))=true:=h;simp only[Bool.or_eq_true,beq_iff_eq,Bool.false_eq_true,or_false] at this;rcases this with e|e|e
 ·exact .inl e.symm
 ·exact .inr (.inl e.symm)
 ·exact .inr (.inr e.symm)
def jhw(w:Str):gIn (.str w) (.tup [.str "+",.str "-",.str "*"])=some (.bl (jc3 w)):=rfl
def jp3{α:Type}(xs:List α)(x:α):atI (xs++[x]) (-1)=some x:=by
 unfold atI ixN;rw[if_neg (by decide),if_pos (by rw[zcb];simp;omega)];have:(-1+(((xs++[x]).length:Nat):Int)).toNat=xs.length:=by rw[zcb];simp;omega
 rw[Option.bind_some,this];simp
def idsD(r:List Nat):D:=.lst (r.reverse.map .obj)
def jm4(i:Nat)(r:List Nat):idsD (i::r)=.lst (r.reverse.map .obj++[.obj i]):=by unfold idsD;simp
section
variable {n:Nat}{nm pc:D}{x y z:Option D}{Ω:Sto}{i:Nat}{r:List Nat}{o:OS}{os:List OS}
def jqj:gIx (idsD (i::r)) (.int (-1))=some (.obj i):=by
 rw[jm4];exact jp3 _ _
def jk1{f:Str}{m:List D->MS D}{fl:DSt->MS (List D)}{Y:DSt}(h:Ω[i]? = some (osO o))(hf:([("total",fm o.total),("term",fm o.term),("term_sign",.int o.sign),("star",jn2 o.star)]:List (Str×D)).lookup f=none) :
  jnd "OpenSum" f m i fl Y Ω=((fl Y).b fun ds=>m (.obj i::ds)) Ω:=by
 unfold jnd;rw[h];show (if _/\_ then _ else _)=_;rw[if_pos ⟨rfl,hf⟩]
def RS1(nm pc:D)(r:List Nat)(Y:DSt):Prop:=∃ x y z,Y=[some nm,some pc,some (idsD r),x,y,z]
def jEw{i:Nat}{fa:DSt->MS D}{Y:DSt}{ds:List D}{d:D}{Ω Ω':Sto}(h:fa Y Ω=some (.ok d,Ω'))(hi:(Y[i]?).join=oL ds)(hl:ds.length<sizeLine):eApp i fa Y Ω=some (.ok (.nx (Y.set i (oL (ds++[d])))),Ω'):=by
 unfold eApp;rw[s_b,h,jho,hi];dsimp only;rw[if_pos hl];rfl
def jCl{r:List Nat}(hr:r.length<=1000000):(r.reverse.map D.obj).length<sizeLine:=by
 rw[zav,List.length_reverse,sizeLine_eq];exact Nat.lt_of_le_of_lt (by assumption) (by decide)
def jzt{p:Int}{L:List D}(hn:n<=1000)(hl:L.length=n)(S:Stk Ω r os)(hr:r.length<=1000000) :
  jbm [oL L,some pc,some (idsD r),some (.str "("),oI p,z] Ω=some (.ok (.nx [oL L,some pc,some (idsD (Ω.length::r)),some (.str "("),oI p,z]),Ω++[osO (fresh n)])/\Stk (Ω++[osO (fresh n)]) (Ω.length::r) (fresh n::os):=by
 refine⟨?_,by simp,fun hi=>Nat.lt_irrefl _ (S.lt _ hi),S.push⟩;unfold jbm;have q:((Str.ofString "(") == (Str.ofString "("))=true:=by decide +kernel
 have m:=jvi (Ω:=Ω) hn;have e:jo1 "OpenSum" jaz (lF (jac (fL kLen (jac (vR 0) fNil)) fNil)) [oL L,some pc,some (idsD r),some (.str "("),oI p,z] Ω=some (.ok (.obj Ω.length),Ω++[osO (fresh n)]):=by
  have l:lF (jac (fL kLen (jac (vR 0) fNil)) fNil) [oL L,some pc,some (idsD r),some (.str "("),oI p,z] Ω=some (.ok [.int n],Ω):=by simp only[stsA,stpA,jj6,hl]
  rw[jw1,s_b,l,jho,m]
 generalize jo1 "OpenSum" jaz (lF (jac (fL kLen (jac (vR 0) fNil)) fNil))=X at e |-
 have a:eApp 2 X [oL L,some pc,some (idsD r),some (.str "("),oI p,z] Ω=some (.ok (.nx [oL L,some pc,some (idsD (Ω.length::r)),some (.str "("),oI p,z]),Ω++[osO (fresh n)]):=by
  rw[jm4];exact jEw (i:=2) (ds:=r.reverse.map .obj) e rfl (jCl hr)
 have t:lF (t2 gEq (vR 3) (fC (.str "("))) [oL L,some pc,some (idsD r),some (.str "("),oI p,z] Ω=some (.ok true,Ω):=by simp only[stsA,stpA,jbf,q]
 rw[s_if,s_b,t,jho,if_pos rfl,a]
def jsu{c:Str}{p:Int}(hc:jc3 c=true)(hn:n<=1000)(ht:o.total.1.length=n)(S:Stk Ω (i::r) (o::os)) :
  jbm [some nm,some pc,some (idsD (i::r)),oS c,oI p,z] Ω=some (.ok (.nx [some nm,some pc,some (idsD (i::r)),oS c,oI p,z]),Ω.set i (osO (signF o c p)))/\Stk (Ω.set i (osO (signF o c p))) (i::r) (signF o c p::os):=by
 refine⟨?_,jme S.1 _,S.2.1,S.2.2.set S.2.1⟩;unfold jbm;have q1:(c == Str.ofString "(")=false:=by rcases jjy hc with rfl|rfl|rfl<;>decide +kernel
 have q2:(c == Str.ofString ")")=false:=by rcases jjy hc with rfl|rfl|rfl<;>decide +kernel
 have x:=jD7 (c:=c) (p:=p) S.1 (by omega);have y:=fun (fl:DSt->MS (List D)) (Y:DSt)=>jk1 (m:=jby) (fl:=fl) (Y:=Y) (f:="take_sign") S.1 rfl
 simp only[stsA,stpA,jbf,q1,q2,jhw,hc,neg_int,jqj,y,x]
def jpy(Ω:Sto)(i:Nat)(o:OS)(f:Fm)(Y:DSt):Option (Except XD Out×Sto):=match jmw o f with
 | none=>some (.ok (.nx Y),Ω.set i (osO (takeF o f)))
 | some p=>some (.error (xdO Ω.length),errs Ω false p)
def Stk.took{f:Fm}(S:Stk Ω (i::r) (o::os)):Stk (Ω.set i (osO (takeF o f))) (i::r) (takeF o f::os):=⟨jme S.1 _,S.2.1,S.2.2.set S.2.1⟩
def jxh{f:Fm}{Y:DSt}{m:DSt->MS D}(h:m Y Ω=jzw Ω i o f):je9 m Y Ω=jpy Ω i o f Y:=by
 unfold jpy;unfold jzw at h;rw[jA8,MS.b,h];cases jmw o f<;>rfl
def jsv{w:Str}{p:Int}{f:Fm}(h1:(w == Str.ofString "(")=false)(h2:(w == Str.ofString ")")=false)(h3:jc3 w=false)(hf:jcs [nm,.str w]=oK (fm f))(hn:n<=1000)(T:OkT n o f)(S:Stk Ω (i::r) (o::os)) :
  jbm [some nm,some pc,some (idsD (i::r)),oS w,oI p,z] Ω=jpy Ω i o f [some nm,some pc,some (idsD (i::r)),oS w,oI p,z]:=by
 unfold jbm;have x:=jov (k:=KB) S.1 T.bf (by rw[T.lf];exact hn) (by decide) T.bs (fun z=>let ⟨a,b⟩:=T.pl z;⟨a,by omega⟩);have y:=fun (fl:DSt->MS (List D)) (Y:DSt)=>jk1 (m:=jay) (fl:=fl) (Y:=Y) (f:="take_factor") S.1 rfl
 rw[eif (c:=false) (Ω':=Ω) (lft (by simp only[stpA,jbf,h1];rfl)),if_neg (by decide),eif (c:=false) (Ω':=Ω) (lft (by simp only[stpA,jbf,h2];rfl)),if_neg (by decide),eif (c:=false) (Ω':=Ω) (lft (by simp only[stpA,jhw,h3];rfl)),if_neg (by decide)];refine jxh ?_;simp only[stsA,stpA,neg_int,jqj,y,hf,x]
def jst{p:Int}{j:Nat}{b:OS}(hn:n<=1000)(ht:o.total.1.length=n)(T:OkT n b (wholeF o))(S:Stk Ω (i::j::r) (o::b::os)) :
  jbm [some nm,some pc,some (idsD (i::j::r)),some (.str ")"),oI p,z] Ω=jpy Ω j b (wholeF o) [some nm,some pc,some (idsD (j::r)),some (.str ")"),oI p,some (.obj i)]:=by
 have Sb:=S.2.2;unfold jbm;have q1:(Str.ofString ")" == Str.ofString "(")=false:=by decide +kernel
 have q2:(Str.ofString ")" == Str.ofString ")")=true:=by decide +kernel
 have pp:ePop 5 2 [some nm,some pc,some (idsD (i::j::r)),some (.str ")"),oI p,z] Ω=some (.ok (.nx [some nm,some pc,some (idsD (j::r)),some (.str ")"),oI p,some (.obj i)]),Ω):=by
  unfold ePop;rw[jm4];have e1:((j::r).reverse.map D.obj++[D.obj i])[((j::r).reverse.map D.obj++[D.obj i]).length-1]? = some (D.obj i):=by simp
  simp only[stpA];rw[e1];dsimp only;rw[List.dropLast_concat];rfl
 have w:=jn6 S.1 (by omega);have x:=jov (k:=KB) Sb.1 T.bf (by rw[T.lf];exact hn) (by decide) T.bs (fun z=>let ⟨a,b⟩:=T.pl z;⟨a,by omega⟩);have y:=fun (fl:DSt->MS (List D)) (Y:DSt)=>jk1 (m:=jay) (fl:=fl) (Y:=Y) (f:="take_factor") Sb.1 rfl
 have y2:=fun (fl:DSt->MS (List D)) (Y:DSt)=>jk1 (m:=ja4) (fl:=fl) (Y:=Y) (f:="whole") S.1 rfl
 rw[eif (c:=false) (Ω':=Ω) (lft (by simp only[stpA,jbf,q1];rfl)),if_neg (by decide),eif (c:=true) (Ω':=Ω) (lft (by simp only[stpA,jbf,q2];rfl)),if_pos rfl,eseq pp];refine jxh ?_;simp only[stsA,stpA,neg_int,jqj,y,y2,w,x]
end
end
section
def jng(f:Fm)(n:Int):(mulF f n).1.length=f.1.length:=by unfold mulF;simp
def jxr{f g:Fm}(h:f.1.length=g.1.length):(addF f g).1.length=f.1.length:=by unfold addF;simp;omega
def jsb(f:Fm):mulF f 1=f:=by unfold mulF;simp
def jnh(f:Fm)(a b:Int):mulF (mulF f a) b=mulF f (a*b):=by
 unfold mulF;simp[List.map_map,Function.comp_def,Int.mul_assoc]
def jvs(f:Fm)(a b:Int):mulF (mulF f a) b=mulF (mulF f b) a:=by rw[jnh,jnh,Int.mul_comm]
def jsg{f:Fm}(h:jau f=true):f=(List.replicate f.1.length 0,f.2):=by
 obtain⟨cs,k⟩:=f;unfold jau at h;simp only[List.all_eq_true,beq_iff_eq] at h;have:cs=List.replicate cs.length 0:=List.eq_replicate_iff.mpr ⟨rfl,h⟩;simp only;rw[<- this]
def joa{f:Fm}:addF (List.replicate f.1.length 0,0) f=f:=by
 obtain⟨cs,k⟩:=f;unfold addF;simp only[Int.zero_add,Prod.mk.injEq,and_true]
 induction cs with
 | nil=>rfl
 | cons c cs ih=>rw[List.length_cons,List.replicate_succ,List.zip_cons_cons,List.map_cons,ih,Int.zero_add]
def jto{f g:Fm}(h:jau g=true):jhl f g=mulF f g.2:=by unfold jhl;rw[if_pos h]
def jwj{f g:Fm}(h:jau f=true)(hl:f.1.length=g.1.length):jhl f g=mulF g f.2:=by
 unfold jhl
 split
 ·rename_i hg;rw[jsg h,jsg hg,hl];unfold mulF;simp[Int.mul_comm]
 ·rfl
def BF.mono{j k:Nat}{f:Fm}(h:BF j f)(hk:j<=k):BF k f:=⟨fun c hc=>(h.1 c hc).mono hk,h.2.mono hk⟩
def BF.mul{j k:Nat}{f:Fm}{n:Int}(h:BF j f)(hn:Bt k n):BF (j+k) (mulF f n):=by
 refine⟨fun c hc=>?_,h.2.mul hn⟩;obtain⟨d,hd,rfl⟩:=List.mem_map.mp hc;exact (h.1 d hd).mul hn
def BF.neg{j:Nat}{f:Fm}(h:BF j f):BF j (mulF f (-1)):=by
 refine⟨fun c hc=>?_,?_⟩
 ·obtain⟨d,hd,rfl⟩:=List.mem_map.mp hc;have:=(h.1 d hd).neg;simpa[Int.mul_neg] using this
 ·have:=h.2.neg;show Bt j (f.2*-1);simpa[Int.mul_neg] using this
def BF.add{j:Nat}{f g:Fm}(h:BF j f)(k:BF j g):BF (j+1) (addF f g):=by
 refine⟨fun c hc=>?_,h.2.add k.2⟩;obtain⟨⟨a,b⟩,hd,rfl⟩:=List.mem_map.mp hc;have:=List.of_mem_zip hd;exact (h.1 _ this.1).add (k.1 _ this.2)
def BF.sgn{j:Nat}{f:Fm}{s:Int}(h:BF j f)(hs:s=1\/s=-1):BF j (mulF f s):=by
 rcases hs with rfl|rfl
 ·rw[jsb];exact h
 ·exact h.neg
def pcD(q:Str×Int):D:=.tup [.str q.1,.int q.2]
def jc1{g:DSt->MS Out}{tg:D->DSt->Option DSt}{d:D}{ds:List D}{Y Y1 Y2:DSt}{Ω Ω1:Sto}(h1:tg d Y=some Y1)(h2:g Y1 Ω=some (.ok (.nx Y2),Ω1)):forE g tg (d::ds) Y Ω=forE g tg ds Y2 Ω1:=by
 conv=>lhs;unfold forE
 rw[h1];dsimp only;rw[s_b,h2,jho]
structure Wd(nm:D)(frm:Str->Fm)(w:Str):Prop where
 p1:(w == Str.ofString "(")=false
 p2:(w == Str.ofString ")")=false
 p3:jc3 w=false
 fw:jcs [nm,.str w]=oK (fm (frm w))
def Stk.inv{Ω:Sto}{a:OS}{os:List OS}{r:List Nat}(h:Stk Ω r (a::os)):∃ i r',r=i::r':=by
 cases r with
 | nil=>exact h.elim
 | cons i r'=>exact⟨i,r',rfl⟩
def jrw{g:DSt->MS Out}{tg:D->DSt->Option DSt}{d:D}{ds:List D}{Y Y1:DSt}{Ω Ω1:Sto}{x:XD}(h1:tg d Y=some Y1)(h2:g Y1 Ω=some (.error x,Ω1)):forE g tg (d::ds) Y Ω=some (.error x,Ω1):=by
 conv=>lhs;unfold forE
 rw[h1];dsimp only;unfold MS.b;rw[h2]
def jHd{s:Int}(h:s=1\/s=-1):Bt KB s:=by
 have:Bt 1 s:=by unfold Bt;rcases h with rfl|rfl<;>decide
 exact this.mono (by decide)
def jyk:jc3 "-"=true:=by decide +kernel
def jtv(o:OS)(p:Int):signF o "*" p={ o with star:=some p }:=if_pos rfl
def jtu(o:OS)(p:Int):signF o "+" p=⟨wholeF o,o.term,1,none⟩:=by unfold signF;rw[if_neg (by decide +kernel),if_neg (by decide +kernel)]
def jq6(o:OS)(p:Int):signF o "-" p=⟨wholeF o,o.term,-1,none⟩:=by unfold signF;rw[if_neg (by decide +kernel),if_pos rfl]
def jzh(f g:Fm)(t:Int):jhl (mulF f t) g=mulF (jhl f g) t:=by
 unfold jhl
 split
 ·exact jvs _ _ _
 ·show mulF g (f.2*t)=_;rw[jnh]
end
section
def S1(c:Nat):Str:=⟨#[c]⟩
def isL(c:Nat):Bool:=decide (97<=c)&&decide (c<=122)
def isG(c:Nat):Bool:=decide (48<=c)&&decide (c<=57)
def jr4(a b:Nat):gLe (.str (S1 a)) (.str (S1 b))=some (.bl (decide (a<=b))):=by
 show some (D.bl (!decide ([b]<[a])))=_;have:([b]<[a])↔b<a:=by
  constructor
  ·intro h
   cases h with
   | rel h=>exact h
   | cons h=>cases h
  ·exact fun h=>.rel h
 simp only[this]
 by_cases q:a<=b
 ·rw[decide_eq_true q,decide_eq_false (by omega)];rfl
 ·rw[decide_eq_false q,decide_eq_true (by omega)];rfl
def jI6:(Str.ofString "a")=S1 97:=by decide +kernel
def jI7:(Str.ofString "z")=S1 122:=by decide +kernel
def jFx:(Str.ofString "0")=S1 48:=by decide +kernel
def jI5:(Str.ofString "9")=S1 57:=by decide +kernel
def jrh{g g':D->D->Option D}{fa fb fc:DSt->M D}{Y:DSt}{x y z:D}{p q:Bool}(ha:fa Y=M.p x)(hb:fb Y=M.p y)(hc:fc Y=M.p z)(h1:g x y=some (.bl p))(h2:g' y z=some (.bl q)):jou g g' fa fb fc Y=M.p (.bl (p&&q)):=by
 unfold jou;rw[ha,hb,M.b_p,M.b_p,h1]
 cases p with
 | true=>dsimp only;rw[hc,M.b_p,h2];rfl
 | false=>rfl
def jft(c:Nat):jbn [.str (S1 c)]=oK (.bl (isL c)):=by
 unfold jbn;rw[jg8];unfold jie;rw[jx4,jrh (x:=.str (S1 97)) (y:=.str (S1 c)) (z:=.str (S1 122)) (p:=decide (97<=c)) (q:=decide (c<=122)) (by rw[jI6];rfl) rfl (by rw[jI7];rfl) (jr4 _ _) (jr4 _ _)];rfl
def jks(c:Nat):jc4 [.str (S1 c)]=oK (.bl (isG c)):=by
 unfold jc4;rw[jg8];unfold jid;rw[jx4,jrh (x:=.str (S1 48)) (y:=.str (S1 c)) (z:=.str (S1 57)) (p:=decide (48<=c)) (q:=decide (c<=57)) (by rw[jFx];rfl) rfl (by rw[jI5];rfl) (jr4 _ _) (jr4 _ _)];rfl
def len_str{x:Str}(h:x.length<=50000):kLen [.str x]=oI x.length:=if_pos (by rw[sizeLine_eq];exact zdy (by assumption) (by decide))
structure At(x:Str)(pre rest:List Nat):Prop where
 eq:x.cps.toList=pre++rest
 small:x.length<=50000
def At.len{x:Str}{pre rest:List Nat}(h:At x pre rest):x.length=pre.length+rest.length:=by
 have:x.length=x.cps.toList.length:=by simp[Str.length]
 rw[this,h.eq,zcb]
def At.ix{x:Str}{pre rest:List Nat}{c:Nat}(h:At x pre (c::rest)):gIx (.str x) (.int (pre.length:Nat))=oS (S1 c):=by
 show (if x.length<=sizeLine then (atI x.cps.toList (pre.length:Nat)).map fun c=>D.str ⟨#[c]⟩ else none)=_;rw[if_pos (by rw[sizeLine_eq];have:=h.small;exact zdy (by assumption) (by decide)),h.eq,DL.atI_get (v:=c) (by simp)];rfl
def At.step{x:Str}{pre a rest:List Nat}(h:At x pre (a++rest)):At x (pre++a) rest:=⟨by rw[h.eq,List.append_assoc],h.small⟩
def At.slice{x:Str}{pre a rest:List Nat}(h:At x pre (a++rest)):Txt.slice x (some (pre.length:Nat)) (some ((pre.length+a.length:Nat):Int))=⟨a.toArray⟩:=by
 have hb:=PyProof.Rows.slice_closes (x:=x) (i:=(pre.length:Nat)) (j:=((pre.length+a.length:Nat):Int)) ⟨by exact Int.natCast_nonneg _,by omega,by rw[h.eq];simp;omega⟩;rw[eq_of_beq hb,h.eq];congr 2;have:((pre.length:Nat):Int).toNat=pre.length:=Int.toNat_natCast _;rw[this,List.drop_left];have:(((pre.length+a.length:Nat):Int)-(pre.length:Nat)).toNat=a.length:=by omega
 rw[this,List.take_left]
def At.cut{x:Str}{pre a rest:List Nat}(h:At x pre (a++rest)):cutD (.str x) (some (pre.length:Nat)) (some ((pre.length+a.length:Nat):Int))=oS ⟨a.toArray⟩:=by
 show (if x.length<=sizeLine then some (D.str (Txt.slice x _ _)) else none)=_;rw[if_pos (by rw[sizeLine_eq];have:=h.small;exact zdy (by assumption) (by decide)),h.slice]
def jgy{t:DSt->M Bool}{g:DSt->M Out}{k:Nat}{Y Y':DSt}(h1:t Y=some (.ok true))(h2:g Y=some (.ok (.nx Y'))):jb0 t g (k+1) Y=jb0 t g k Y':=by
 conv=>lhs;unfold jb0
 rw[h1,M.b_ok,if_pos rfl,h2,M.b_ok]
def jeh{t:DSt->M Bool}{g:DSt->M Out}{k:Nat}{Y:DSt}(h1:t Y=some (.ok false)):jb0 t g (k+1) Y=nX Y:=by
 conv=>lhs;unfold jb0
 rw[h1,M.b_ok,if_neg (by decide)];rfl
def ed(x:Str)(p e:Nat):DSt:=[oS x,oI p,oI e]
def jIo(x:Str)(p e:Nat):jcy (ed x p e)=nX (ed x p (e+1)):=by
 unfold jcy ed;simp only[stpA,DL.add_int];rfl
def jIp(x:Str)(p e:Nat):jcz (ed x p e)=nX (ed x p (e+1)):=by
 unfold jcz ed;simp only[stpA,DL.add_int];rfl
def jHj{x:Str}{p:Nat}{pre rest:List Nat}{c:Nat}(h:At x pre (c::rest)):jbj (ed x p pre.length)=oK (isL c&&decide (pre.length<p+10)):=by
 unfold jbj ed;have hl:=h.len;rw[List.length_cons] at hl;have e1:decide (((pre.length:Nat):Int)<(x.length:Nat))=true:=decide_eq_true (by omega);simp only[stpA,len_str h.small,lt_int,e1,h.ix,jft,sub_int]
 cases isL c with
 | false=>rfl
 | true =>
  have:decide (((pre.length:Nat):Int)-(p:Nat)<10)=decide (pre.length<p+10):=by
   by_cases q:pre.length<p+10
   ·rw[decide_eq_true q,decide_eq_true (by omega)]
   ·rw[decide_eq_false q,decide_eq_false (by omega)]
  simp only[stpA,this];rfl
def jHk{x:Str}{p:Nat}{pre:List Nat}(h:At x pre []):jbj (ed x p pre.length)=oK false:=by
 unfold jbj ed;have hl:=h.len;rw[List.length_nil] at hl;have e1:decide (((pre.length:Nat):Int)<(x.length:Nat))=false:=decide_eq_false (by omega);simp only[stpA,len_str h.small,lt_int,e1];rfl
def jHl{x:Str}{p:Nat}{pre rest:List Nat}{c:Nat}(h:At x pre (c::rest)):jbl (ed x p pre.length)=oK (isG c):=by
 unfold jbl ed;have hl:=h.len;rw[List.length_cons] at hl;have e1:decide (((pre.length:Nat):Int)<(x.length:Nat))=true:=decide_eq_true (by omega);simp only[stpA,len_str h.small,lt_int,e1,h.ix,jks];rfl
def jHm{x:Str}{p:Nat}{pre:List Nat}(h:At x pre []):jbl (ed x p pre.length)=oK false:=by
 unfold jbl ed;have hl:=h.len;rw[List.length_nil] at hl;have e1:decide (((pre.length:Nat):Int)<(x.length:Nat))=false:=decide_eq_false (by omega);simp only[stpA,len_str h.small,lt_int,e1];rfl
def Stop(q:Nat->Bool):List Nat->Prop
 | []=>True
 | c::_=>q c=false
theorem jl5{x:Str}{p:Nat}{rest:List Nat}(hr:Stop isL rest):∀ (a pre:List Nat) (k:Nat),At x pre (a++rest)->(∀ c∈a,isL c=true)->pre.length+a.length<=p+10->a.length<k ->
  jb0 jbj jcy k (ed x p pre.length)=nX (ed x p (pre.length+a.length))
 | [],pre,k,h,ha,hb,hk=>by
  obtain⟨k,rfl⟩:∃ j,k=j+1:=⟨k-1,by simp at hk;omega⟩
  rw[List.nil_append] at h
  cases rest with
  | nil=>exact jeh (jHk h)
  | cons c rest =>
   have:isL c=false:=hr;exact jeh (by rw[jHj h,this];rfl)
 | c::a,pre,k,h,ha,hb,hk=>by
  obtain⟨k,rfl⟩:∃ j,k=j+1:=⟨k-1,by simp at hk;omega⟩
  rw[List.length_cons] at hb hk;have e:jbj (ed x p pre.length)=oK true:=by
   rw[jHj (rest:=a++rest) h,ha c zaa,decide_eq_true (show pre.length<p+10 by omega)];rfl
  rw[jgy e (jIo x p pre.length)];have h':At x (pre++[c]) (a++rest):=At.step (a:=[c]) h;have:=jl5 (p:=p) hr a (pre++[c]) k h' (fun d hd=>ha d (zaw _ hd)) (by simp;omega) (by exact Nat.le_of_succ_le_succ (by assumption));rw[zcb,List.length_singleton] at this;rw[this,List.length_cons];rw[Nat.add_assoc,Nat.add_comm 1]
theorem jl0{x:Str}{p:Nat}{rest:List Nat}(hr:Stop isG rest):∀ (a pre:List Nat) (k:Nat),At x pre (a++rest)->(∀ c∈a,isG c=true)->a.length<k ->
  jb0 jbl jcz k (ed x p pre.length)=nX (ed x p (pre.length+a.length))
 | [],pre,k,h,ha,hk=>by
  obtain⟨k,rfl⟩:∃ j,k=j+1:=⟨k-1,by simp at hk;omega⟩
  rw[List.nil_append] at h
  cases rest with
  | nil=>exact jeh (jHm h)
  | cons c rest =>
   have:isG c=false:=hr;exact jeh (by rw[jHl h,this])
 | c::a,pre,k,h,ha,hk=>by
  obtain⟨k,rfl⟩:∃ j,k=j+1:=⟨k-1,by simp at hk;omega⟩
  rw[List.length_cons] at hk;have e:jbl (ed x p pre.length)=oK true:=by
   rw[jHl (rest:=a++rest) h,ha c zaa]
  rw[jgy e (jIp x p pre.length)];have h':At x (pre++[c]) (a++rest):=At.step (a:=[c]) h;have:=jl0 (p:=p) hr a (pre++[c]) k h' (fun d hd=>ha d (zaw _ hd)) (by exact Nat.le_of_succ_le_succ (by assumption));rw[zcb,List.length_singleton] at this;rw[this,List.length_cons];rw[Nat.add_assoc,Nat.add_comm 1]
inductive Piece:List Nat->List Nat->Prop
 | sign {c:Nat} {rest:List Nat}:isL c=false->isG c=false->Piece [c] rest
 | zero {rest:List Nat}:Piece [48] rest
 | name {a rest:List Nat}:a≠[]->(∀ c∈a,isL c=true)->a.length<=10->Stop isL rest->Piece a rest
 | num {a rest:List Nat}:a≠[]->(∀ c∈a,isG c=true)->a.head?≠some 48->Stop isG rest->Piece a rest
def jgi{c:Nat}(h:isG c=true):isL c=false:=by
 unfold isG isL at *;simp only[Bool.and_eq_true,decide_eq_true_eq] at h;rw[decide_eq_false (by omega)];rfl
def jC6(c:Nat):gNe (.str (S1 c)) (.str "0")=some (.bl !(c == 48)):=by
 rw[jFx];show some (D.bl !(S1 c == S1 48))=_;have:(S1 c == S1 48)=(c == 48):=by
  by_cases q:c=48
  ·subst q;simp
  ·rw[beq_eq_false_iff_ne.mpr q,beq_eq_false_iff_ne.mpr (fun z=>q (by unfold S1 at z;simpa using z))]
 rw[this]
def jav{g1 g2:DSt->M Out}{Y Y':DSt}(h:g1 Y=some (.ok (.nx Y'))):gSeq g1 g2 Y=g2 Y':=by rw[jmu,h,M.b_ok,jnz]
def jcx{t:DSt->M Bool}{g1 g2:DSt->M Out}{Y:DSt}{b:Bool}(h:t Y=some (.ok b)):gIf t g1 g2 Y=if b=true then g1 Y else g2 Y:=by rw[jB5,h,M.b_ok]
def jFf{x:Str}{pre a rest:List Nat}(h:At x pre (a++rest))(P:Piece a rest)(hf:x.length<FUEL):jcr [.str x,.int (pre.length:Nat)]=oK (.int ((pre.length+a.length:Nat):Int)):=by
 have cz:a≠[]:=by cases P<;>first|assumption|simp
 obtain⟨c,a',rfl⟩:∃ c a',a=c::a':=by cases a with|nil=>exact absurd rfl cz|cons c a'=>exact⟨c,a',rfl⟩
 have ix:gIx (.str x) (.int (pre.length:Nat))=oS (S1 c):=At.ix (rest:=a'++rest) h;have h':At x (pre++[c]) (a'++rest):=At.step (a:=[c]) h;have hl:=h.len;rw[zcb,List.length_cons] at hl;have hp:(pre++[c]).length=pre.length+1:=by simp
 have s0:gSet 2 (f2 gCat (vR 1) (cI 1)) [oS x,oI (pre.length:Nat),none]=nX (ed x pre.length (pre++[c]).length):=by
  unfold ed;simp only[stpA,hp];rfl
 have t1:tTru (jbg jbn (jac (f2 gIx (vR 0) (vR 1)) fNil)) (ed x pre.length (pre++[c]).length)=oK (isL c):=by
  unfold ed;simp only[stpA,ix,jft];rfl
 have t2:DL.tAnd (tTru (jbg jc4 (jac (f2 gIx (vR 0) (vR 1)) fNil))) (t2 gNe (f2 gIx (vR 0) (vR 1)) (cS "0")) (ed x pre.length (pre++[c]).length)=oK (isG c&&!(c == 48)):=by
  unfold ed;simp only[stpA,ix,jks,jC6];cases isG c<;>rfl
 have body:gIf (tTru (jbg jbn (jac (f2 gIx (vR 0) (vR 1)) fNil))) (jb0 jbj jcy FUEL) (gIf (DL.tAnd (tTru (jbg jc4 (jac (f2 gIx (vR 0) (vR 1)) fNil))) (DL.t2 gNe (f2 gIx (vR 0) (vR 1)) (cS "0"))) (jb0 jbl jcz FUEL) gNx) (ed x pre.length (pre++[c]).length)=nX (ed x pre.length ((pre++[c]).length+a'.length)):=by
  rw[jcx t1,jcx t2]
  cases P with
  | sign q1 q2=>rw[q1,q2];rfl
  | zero=>rfl
  | name _ q1 q2 q3 =>
   rw[q1 c zaa,if_pos rfl];exact jl5 q3 a' (pre++[c]) FUEL h' (fun d hd=>q1 d (zaw _ hd)) (by rw[hp];simp at q2;omega) (by omega)
  | num _ q1 q2 q3 =>
   have hg:=q1 c zaa;have hc:(c == 48)=false:=beq_eq_false_iff_ne.mpr (fun z=>q2 (by rw[z];rfl));rw[jgi hg,hg,hc,if_neg (by decide),if_pos (by decide)];exact jl0 q3 a' (pre++[c]) FUEL h' (fun d hd=>q1 d (zaw _ hd)) (by omega)
 unfold jcr;rw[jh7];show (jd6 [oS x,oI (pre.length:Nat),none]).b outD=_;unfold jd6;rw[jav s0,jav body];unfold ed;simp only[stpA];rw[hp,List.length_cons,show pre.length+1+a'.length=pre.length+(a'.length+1) by omega];rfl
end
section
def St(a:List Nat):Str:=⟨a.toArray⟩
abbrev sT(a:List Nat):D:=.str (St a)
def jh8(a:List Nat):(St a).length=a.length:=by simp[St,Str.length]
def jpw(c:Nat):St [c]=S1 c:=rfl
def jHg{a b:List Nat}(h:St a=St b):a=b:=by
 unfold St at h;simpa using h
def jcf(a b:List Nat):(St a == St b)=(a == b):=by
 by_cases q:a=b
 ·subst q;simp
 ·rw[beq_eq_false_iff_ne.mpr q,beq_eq_false_iff_ne.mpr (fun z=>q (jHg z))]
def jm7:(Str.ofString "(")=St [40]:=by decide +kernel
def jql:(Str.ofString ")")=St [41]:=by decide +kernel
def jkz:(Str.ofString "-")=St [45]:=by decide +kernel
def jyo:(Str.ofString "+")=St [43]:=by decide +kernel
def jyp:(Str.ofString "*")=St [42]:=by decide +kernel
def jJc:(Str.ofString " ")=St [32]:=by decide +kernel
def jlf(a:List Nat):jc3 (St a)=([43] == a || ([45] == a || ([42] == a || false))):=by
 unfold jc3;rw[jyo,jkz,jyp];show (St [43] == St a || (St [45] == St a || (St [42] == St a || false)))=_;rw[jcf,jcf,jcf]
def jEy:(Str.ofString "behind" == Str.ofString "behind")=true:=by decide +kernel
def jIn:(Str.ofString "beginning" == Str.ofString "behind")=false:=by decide +kernel
def jtz{c:Nat}{d:Int}(h:jc3 (St [c])=true):ja5 [.str (S1 c),.str "behind",.int d]=oK (.bl true):=by
 unfold ja5;rw[jrt];unfold jdz;have e:gIn (.str (S1 c)) (.tup [.str "+",.str "-",.str "*"])=some (.bl true):=by rw[jhw,<- jpw,h]
 have t:DL.t2 gEq (vR 1) (cS "behind") [oS (S1 c),oS "behind",oI d]=oK true:=by simp only[stpA,jbf,jEy];rfl
 show (gSeq _ _ [oS (S1 c),oS "behind",oI d]).b outD=_;rw[jmu,jcx t,if_pos rfl];simp only[stpA,e_or,e,jJe];rfl
def jw8{d:Int}(h:0<d):ja5 [.str (S1 41),.str "behind",.int d]=oK (.bl true):=by
 unfold ja5;rw[jrt];unfold jdz;have e:gIn (.str (S1 41)) (.tup [.str "+",.str "-",.str "*"])=some (.bl false):=by rw[jhw,<- jpw,jlf];rfl
 have t:DL.t2 gEq (vR 1) (cS "behind") [oS (S1 41),oS "behind",oI d]=oK true:=by simp only[stpA,jbf,jEy];rfl
 have q:(S1 41 == Str.ofString ")")=true:=by decide +kernel
 show (gSeq _ _ [oS (S1 41),oS "behind",oI d]).b outD=_;rw[jmu,jcx t,if_pos rfl];simp only[stpA,e_or,e,jGh,jB2,jbf,q,jz4,gt_int,decide_eq_true h];rfl
def jw9{d:Int}:ja5 [.str (S1 45),.str "beginning",.int d]=oK (.bl true):=by
 unfold ja5;rw[jrt];unfold jdz;have t:DL.t2 gEq (vR 1) (cS "behind") [oS (S1 45),oS "beginning",oI d]=oK false:=by simp only[stpA,jbf,jIn];rfl
 have q:(S1 45 == Str.ofString "-")=true:=by decide +kernel
 have q2:(Str.ofString "beginning" == Str.ofString "beginning")=true:=by decide +kernel
 have c7:DL.t2 gEq (vR 0) (cS "-") [oS (S1 45),oS "beginning",oI d]=oK true:=by simp only[stpA,jbf,q];rfl
 show (gSeq _ _ [oS (S1 45),oS "beginning",oI d]).b outD=_;rw[jav (Y':=[oS (S1 45),oS "beginning",oI d]) (by rw[jcx t,if_neg (by decide)];rfl),jmu,jcx c7,if_pos rfl];simp only[stpA,jbf,q2];rfl
def jpx{c:Nat}{wt:Str}{d:Int}(hw:(wt == Str.ofString "behind")=false)(hc:c≠45)(h:c=40\/isL c=true\/isG c=true):ja5 [.str (S1 c),.str wt,.int d]=oK (.bl true):=by
 unfold ja5;rw[jrt];unfold jdz;have t:DL.t2 gEq (vR 1) (cS "behind") [oS (S1 c),oS wt,oI d]=oK false:=by simp only[stpA,jbf,hw];rfl
 have q:(S1 c == Str.ofString "-")=false:=by rw[jkz,<- jpw,jcf];exact beq_eq_false_iff_ne.mpr (by simpa using hc)
 have c7:DL.t2 gEq (vR 0) (cS "-") [oS (S1 c),oS wt,oI d]=oK false:=by simp only[stpA,jbf,q];rfl
 show (gSeq _ _ [oS (S1 c),oS wt,oI d]).b outD=_;rw[jav (Y':=[oS (S1 c),oS wt,oI d]) (by rw[jcx t,if_neg (by decide)];rfl),jav (Y':=[oS (S1 c),oS wt,oI d]) (by rw[jcx c7,if_neg (by decide)];rfl)];have q2:(S1 c == Str.ofString "(")=(c == 40):=by rw[jm7,<- jpw,jcf];simp
 simp only[stpA,e_or,jbf,q2,jft,jks]
 by_cases h1:c=40
 ·subst h1;rfl
 ·rw[beq_eq_false_iff_ne.mpr h1,jGh];rcases h with h|h|h
  ·exact absurd h h1
  ·rw[h];rfl
  ·rw[h];cases isL c<;>rfl
def dby(a:List Nat):Int:=if a=[40] then 1 else if a=[41] then -1 else 0
def wby(a:List Nat):Str:=if a=[40] then "beginning" else if jc3 (St a)=true then "factor" else "behind"
def jx2(a:List Nat):jfv [sT a]=oK (.int (dby a)):=by
 unfold jfv;rw[jg8];unfold jji dby;have q1:(St a == Str.ofString "(")=(a == [40]):=by rw[jm7,jcf]
 have q2:(St a == Str.ofString ")")=(a == [41]):=by rw[jql,jcf]
 simp only[stpA,jbf,q1,q2]
 by_cases h:a=[40]
 ·rw[beq_iff_eq.mpr h,if_pos h];rfl
 ·rw[beq_eq_false_iff_ne.mpr h,if_neg h];simp only[stpA,jbf,q2]
  by_cases h2:a=[41]
  ·rw[beq_iff_eq.mpr h2,if_pos h2];rfl
  ·rw[beq_eq_false_iff_ne.mpr h2,if_neg h2];rfl
def jxm(a:List Nat):jc5 [sT a]=oK (.str (wby a)):=by
 unfold jc5;rw[jg8];unfold je6 wby;have q1:(St a == Str.ofString "(")=(a == [40]):=by rw[jm7,jcf]
 simp only[stpA,jbf,q1,jhw]
 by_cases h:a=[40]
 ·rw[beq_iff_eq.mpr h,if_pos h];rfl
 ·rw[beq_eq_false_iff_ne.mpr h,if_neg h];simp only[stpA,jhw];cases jc3 (St a)<;>rfl
def pd(x:Str)(ps:List (Str×Int))(d:Int)(wt:Str)(pl:Nat)(e w:Option D):DSt:=[oS x,oL (ps.map pcD),oI d,oS wt,oI pl,e,w]
def jtw{fa:DSt->M D}{fl fh:DSt->M (Option Int)}{Y:DSt}{x d:D}{lo hi:Option Int}(ha:fa Y=M.p x)(hl:fl Y=M.p lo)(hh:fh Y=M.p hi)(h:cutD x lo hi=some d):fSl fa fl fh Y=M.p d:=by
 unfold fSl;rw[ha,hl,hh];show M.o (cutD x lo hi)=_;rw[h];rfl
def jua{i:Nat}{fa:DSt->M D}{Y:DSt}{ds:List D}{d:D}(h:fa Y=M.p d)(hi:(Y[i]?).join=oL ds)(hl:ds.length<sizeLine):gApp i fa Y=nX (Y.set i (oL (ds++[d]))):=by
 rw[jB3,h,M.b_p,hi,jrc hl];rfl
def jl2{x:Str}{pre a rest:List Nat}{ps:List (Str×Int)}{d:Int}{wt:Str}{e w:Option D}(h:At x pre (a++rest))(P:Piece a rest)(hf:x.length<FUEL){G:DSt->M Out} :
  gSeq (gSet 5 (jbg jcr (jac (vR 0) (jac (vR 4) fNil)))) (gSeq (gSet 6 (fSl (vR 0) (jcc (vR 4)) (jcc (vR 5)))) G) (pd x ps d wt pre.length e w)=G (pd x ps d wt pre.length (oI ((pre.length+a.length:Nat):Int)) (some (sT a))):=by
 have e1:gSet 5 (jbg jcr (jac (vR 0) (jac (vR 4) fNil))) (pd x ps d wt pre.length e w)=nX (pd x ps d wt pre.length (oI ((pre.length+a.length:Nat):Int)) w):=by
  have:=jFf h P hf;unfold pd;simp only[stpA,this];rfl
 have e2:gSet 6 (fSl (vR 0) (jcc (vR 4)) (jcc (vR 5))) (pd x ps d wt pre.length (oI ((pre.length+a.length:Nat):Int)) w)=nX (pd x ps d wt pre.length (oI ((pre.length+a.length:Nat):Int)) (some (sT a))):=by
  have:=jtw (fa:=vR 0) (fl:=jcc (vR 4)) (fh:=jcc (vR 5)) (Y:=pd x ps d wt pre.length (oI ((pre.length+a.length:Nat):Int)) w) rfl rfl rfl h.cut;rw[jB9,this];rfl
 rw[jav e1,jav e2]
def jC5(a:List Nat):gNe (sT a) (.str " ")=some (.bl !(a == [32])):=by
 rw[jJc];show some (D.bl !(St a == St [32]))=_;rw[jcf]
def jt0{x:Str}{pre rest:List Nat}{ps:List (Str×Int)}{d:Int}{wt:Str}{e w:Option D}(h:At x pre (32::rest))(hf:x.length<FUEL) :
  ∃ e' w',jbh (pd x ps d wt pre.length e w)=nX (pd x ps d wt (pre++[32]).length e' w'):=by
 have P:Piece [32] rest:=.sign rfl rfl;refine⟨oI ((pre.length+[32].length:Nat):Int),some (sT [32]),?_⟩
 ·unfold jbh;rw[jl2 (a:=[32]) h P hf];have t:DL.t2 gNe (vR 6) (fC (.str " ")) (pd x ps d wt pre.length (oI ((pre.length+[32].length:Nat):Int)) (some (sT [32])))=oK false:=by
   unfold pd;simp only[stpA,jC5];rfl
  rw[jav (Y':=pd x ps d wt pre.length (oI ((pre.length+[32].length:Nat):Int)) (some (sT [32]))) (by rw[jcx t,if_neg (by decide)];rfl)];unfold pd;simp only[stpA,zcb];rfl
def jzu{x:Str}{pre a rest:List Nat}{c:Nat}{ps:List (Str×Int)}{d:Int}{wt:Str}{e w:Option D}(h:At x pre ((c::a)++rest))(P:Piece (c::a) rest)(hf:x.length<FUEL)(hs:(c::a)≠[32])(hm:ja5 [.str (S1 c),.str wt,.int d]=oK (.bl true))(hz:ps.length<=100000) :
  ∃ e' w',jbh (pd x ps d wt pre.length e w)=nX (pd x (ps++[(St (c::a),(pre.length:Int))]) (d+dby (c::a)) (wby (c::a)) (pre++(c::a)).length e' w'):=by
 refine⟨oI ((pre.length+(c::a).length:Nat):Int),some (sT (c::a)),?_⟩
 ·unfold jbh;rw[jl2 h P hf];have hx:(St (c::a)).length<=50000:=by
   have:=h.len;rw[jh8];have hsm:=h.small;simp at this |-
   omega
  have ix:gIx (sT (c::a)) (.int 0)=oS (S1 c):=by
   show (if (St (c::a)).length<=sizeLine then (atI (St (c::a)).cps.toList 0).map fun c=>D.str ⟨#[c]⟩ else none)=_;rw[if_pos (by rw[sizeLine_eq];omega)];unfold St;simp;rfl
  let Y1:=pd x ps d wt pre.length (oI ((pre.length+(c::a).length:Nat):Int)) (some (sT (c::a)))
  have t:DL.t2 gNe (vR 6) (fC (.str " ")) Y1=oK true:=by
   show DL.t2 gNe (vR 6) (fC (.str " ")) (pd _ _ _ _ _ _ _)=_;unfold pd;simp only[stpA,jC5];rw[beq_eq_false_iff_ne.mpr hs];rfl
  have t0:DL.tNot (tTru (jbg ja5 (jac (f2 gIx (vR 6) (cI 0)) (jac (vR 3) (jac (vR 2) fNil))))) Y1=oK false:=by
   show DL.tNot _ (pd _ _ _ _ _ _ _)=_;unfold pd;simp only[stpA,ix,hm];rfl
  have t1:gIf (DL.tNot (tTru (jbg ja5 (jac (f2 gIx (vR 6) (cI 0)) (jac (vR 3) (jac (vR 2) fNil)))))) jow gNx Y1=nX Y1:=by
   rw[jcx t0,if_neg (by decide)];rfl
  let Y2:=pd x (ps++[(St (c::a),(pre.length:Int))]) d wt pre.length (oI ((pre.length+(c::a).length:Nat):Int)) (some (sT (c::a)))
  have c7:gApp 1 (fL jb3 (jac (vR 6) (jac (vR 4) fNil))) Y1=nX Y2:=by
   have:=jua (i:=1) (fa:=fL jb3 (jac (vR 6) (jac (vR 4) fNil))) (Y:=Y1) (ds:=ps.map pcD) (d:=pcD (St (c::a),(pre.length:Int))) rfl rfl (by rw[zav,sizeLine_eq];omega);rw[this];show some (Except.ok (Out.nx (List.set (pd _ _ _ _ _ _ _) 1 _)))=nX (pd _ _ _ _ _ _ _);unfold pd;rw[List.map_append];rfl
  let Y3:=pd x (ps++[(St (c::a),(pre.length:Int))]) (d+dby (c::a)) wt pre.length (oI ((pre.length+(c::a).length:Nat):Int)) (some (sT (c::a)))
  have t3:gAug 2 gAdd (jbg jfv (jac (vR 6) fNil)) Y2=nX Y3:=by
   show gAug _ _ _ (pd _ _ _ _ _ _ _)=nX (pd _ _ _ _ _ _ _);unfold pd;simp only[stpA,jx2,DL.add_int];rfl
  let Y4:=pd x (ps++[(St (c::a),(pre.length:Int))]) (d+dby (c::a)) (wby (c::a)) pre.length (oI ((pre.length+(c::a).length:Nat):Int)) (some (sT (c::a)))
  have t4:gSet 3 (jbg jc5 (jac (vR 6) fNil)) Y3=nX Y4:=by
   show gSet _ _ (pd _ _ _ _ _ _ _)=nX (pd _ _ _ _ _ _ _);unfold pd;simp only[stpA,jxm];rfl
  rw[jav (Y':=Y4) (by rw[jcx t,if_pos rfl,jav t1,jav c7,jav t3,t4])];show gSet 4 (vR 5) (pd _ _ _ _ _ _ _)=nX (pd _ _ _ _ _ _ _);unfold pd;rw[zcb];rfl
end
section
inductive Word:List Nat->Prop
 | zero:Word [48]
 | name {a:List Nat}:a≠[]->(∀ c∈a,isL c=true)->a.length<=10->Word a
 | num {a:List Nat}:a≠[]->(∀ c∈a,isG c=true)->a.head?≠some 48->Word a
inductive Acc:LL->Str->Nat->Prop
 | done:Acc [] "behind" 0
 | word {a:List Nat} {ts:LL} {wt:Str} {d:Nat}:Word a->(wt == Str.ofString "behind")=false->Acc ts "behind" d->Acc (a::ts) wt d
 | opn {ts:LL} {wt:Str} {d:Nat}:(wt == Str.ofString "behind")=false->Acc ts "beginning" (d+1)->Acc ([40]::ts) wt d
 | cls {ts:LL} {d:Nat}:Acc ts "behind" d->Acc ([41]::ts) "behind" (d+1)
 | neg {ts:LL} {d:Nat}:Acc ts "factor" d->Acc ([45]::ts) "beginning" d
 | bin {a:Nat} {ts:LL} {d:Nat}:jc3 (St [a])=true->Acc ts "factor" d->Acc ([a]::ts) "behind" d
def jb1:List (Nat×List Nat)->Nat->List Nat
 | [],p=>List.replicate p 32
 | (k,a)::s,p=>List.replicate k 32++(a++jb1 s p)
def jcu{a:Nat}(h:jc3 (St [a])=true):a=43\/a=45\/a=42:=by
 rw[jlf] at h;simp at h;omega
def jn4{q:Nat->Bool}(dz:q 32=false)(h41:q 41=false)(hs:q 43=false/\q 45=false/\q 42=false):∀ (ac:List (Nat×List Nat)) (p d:Nat),Acc (ac.map (·.2)) "behind" d->Stop q (jb1 ac p)
 | [],0,_,_=>trivial
 | [],p+1,_,_=>dz
 | (k+1,a)::s,p,_,_=>dz
 | (0,a)::s,p,d,h=>by
  rw[List.map_cons] at h;generalize hw:(Str.ofString "behind")=wt at h;show Stop q ([]++(a++jb1 s p));rw[List.nil_append]
  cases h with
  | word _ hb _=>rw[<- hw] at hb;exact absurd hb (by decide +kernel)
  | opn hb _=>rw[<- hw] at hb;exact absurd hb (by decide +kernel)
  | cls _=>exact h41
  | neg _=>exact absurd hw (by decide +kernel)
  | bin hc _ =>
   rename_i c _;show q c=false;rcases jcu hc with rfl|rfl|rfl
   ·exact hs.1
   ·exact hs.2.1
   ·exact hs.2.2
def jHi{x:Str}{pre rest:List Nat}{c:Nat}{ps:List (Str×Int)}{d:Int}{wt:Str}{e w:Option D}(h:At x pre (c::rest)):jbk (pd x ps d wt pre.length e w)=oK true:=by
 unfold jbk pd;have hl:=h.len;rw[List.length_cons] at hl;simp only[stpA,len_str h.small,lt_int,decide_eq_true (show ((pre.length:Nat):Int)<(x.length:Nat) by omega)];rfl
def jHh{x:Str}{pre:List Nat}{ps:List (Str×Int)}{d:Int}{wt:Str}{e w:Option D}(h:At x pre []):jbk (pd x ps d wt pre.length e w)=oK false:=by
 unfold jbk pd;have hl:=h.len;rw[List.length_nil] at hl;simp only[stpA,len_str h.small,lt_int,decide_eq_false (show ¬ ((pre.length:Nat):Int)<(x.length:Nat) by omega)];rfl
theorem jlh{x:Str}{rest:List Nat}{ps:List (Str×Int)}{d:Int}{wt:Str}(hf:x.length<FUEL):∀ (k:Nat) (pre:List Nat) (m:Nat) (e w:Option D),At x pre (List.replicate k 32++rest) ->
  ∃ e' w',jb0 jbk jbh (m+k) (pd x ps d wt pre.length e w)=jb0 jbk jbh m (pd x ps d wt (pre++List.replicate k 32).length e' w')/\At x (pre++List.replicate k 32) rest
 | 0,pre,m,e,w,h=>⟨e,w,by simp,by simpa using h⟩
 | k+1,pre,m,e,w,h=>by
  rw[List.replicate_succ,List.cons_append] at h;obtain⟨e1,w1,q⟩:=jt0 (ps:=ps) (d:=d) (wt:=wt) (e:=e) (w:=w) h hf;obtain⟨e2,w2,q2,h2⟩:=jlh hf k (pre++[32]) m e1 w1 (At.step (a:=[32]) h);refine⟨e2,w2,?_,?_⟩
  ·rw[<- Nat.add_assoc,jgy (jHi h) q,q2];congr 2;simp
  ·rw[List.replicate_succ];simpa using h2
def jHr{x:Str}{pre a rest:List Nat}{c:Nat}{ps:List (Str×Int)}{d:Int}{wt:Str}{e w:Option D}{m:Nat}(h:At x pre ((c::a)++rest))(P:Piece (c::a) rest)(hf:x.length<FUEL)(hs:(c::a)≠[32])(hm:ja5 [.str (S1 c),.str wt,.int d]=oK (.bl true))(hz:ps.length<=100000) :
  ∃ e' w',jb0 jbk jbh (m+1) (pd x ps d wt pre.length e w)=jb0 jbk jbh m (pd x (ps++[(St (c::a),(pre.length:Int))]) (d+dby (c::a)) (wby (c::a)) (pre++(c::a)).length e' w')/\At x (pre++(c::a)) rest:=by
 obtain⟨e',w',q⟩:=jzu (e:=e) (w:=w) h P hf hs hm hz;exact⟨e',w',jgy (jHi (rest:=a++rest) h) q,h.step⟩
def jd3{a:List Nat}(h:Word a):dby a=0/\wby a="behind"/\a≠[32]/\∃ c a',a=c::a'/\c≠45/\(isL c=true\/isG c=true):=by
 have dr:∃ c a',a=c::a'/\(isL c=true\/isG c=true):=by
  cases h with
  | zero=>exact⟨48,[],rfl,.inr rfl⟩
  | name h1 h2 _=>cases a with
   | nil=>exact absurd rfl h1
   | cons c a'=>exact⟨c,a',rfl,.inl (h2 c zaa)⟩
  | num h1 h2 _=>cases a with
   | nil=>exact absurd rfl h1
   | cons c a'=>exact⟨c,a',rfl,.inr (h2 c zaa)⟩
 obtain⟨c,a',rfl,hc⟩:=dr;have ne:∀ k,isL k=false->isG k=false->c≠k:=fun k h1 h2 z=>by subst z;rw[h1,h2] at hc;simp at hc
 have n1:=ne 40 rfl rfl;have n2:=ne 41 rfl rfl;have n3:=ne 32 rfl rfl;have n4:=ne 45 rfl rfl;have n5:=ne 43 rfl rfl;have n6:=ne 42 rfl rfl;have s:jc3 (St (c::a'))=false:=by
  rw[jlf];simp;refine⟨fun z=>absurd z.symm n5,fun z=>absurd z.symm n4,fun z=>absurd z.symm n6⟩
 refine⟨?_,?_,by simp[n3],c,a',rfl,n4,hc⟩
 ·unfold dby;rw[if_neg (by simp[n1]),if_neg (by simp[n2])]
 ·unfold wby;rw[if_neg (by simp[n1]),s,if_neg (by decide)]
def jt4{a rest:List Nat}(h:Word a)(h1:Stop isL rest)(h2:Stop isG rest):Piece a rest:=by
 cases h with
 | zero=>exact .zero
 | name q1 q2 q3=>exact .name q1 q2 q3 h1
 | num q1 q2 q3=>exact .num q1 q2 q3 h2
def d40:dby [40]=1:=rfl
def d41:dby [41]=-1:=rfl
def w40:wby [40]="beginning":=rfl
def w41:wby [41]="behind":=by unfold wby;rw[if_neg (by decide),jlf];rfl
def dsg{a:Nat}(h:jc3 (St [a])=true):dby [a]=0/\wby [a]="factor":=by
 unfold wby;rw[h];rcases jcu h with rfl|rfl|rfl<;>exact⟨rfl,rfl⟩
def pcs:List (Nat×List Nat)->Nat->List (Str×Int)
 | [],_=>[]
 | (k,a)::s,o=>(St a,((o+k:Nat):Int))::pcs s (o+k+a.length)
def jqk{x:Str}{p:Nat}(hf:x.length<FUEL):∀ (ac:List (Nat×List Nat)) (pre:List Nat) (ps:List (Str×Int)) (d:Nat) (wt:Str) (e w:Option D) (m:Nat),At x pre (jb1 ac p)->Acc (ac.map (·.2)) wt d->(jb1 ac p).length<m->ps.length+ac.length<=100000 ->
  ∃ ps' e' w' pl,jb0 jbk jbh m (pd x ps d wt pre.length e w)=nX (pd x ps' (0:Nat) "behind" pl e' w')/\ps'=ps++pcs ac pre.length:=by
 intro ac
 induction ac with
 | nil =>
  intro pre ps d wt e w m h A hm hz;have hmm:∃ j,m=j+1+p:=⟨m-1-p,by simp[jb1] at hm;omega⟩
  obtain⟨j,rfl⟩:=hmm;have h0:At x pre (List.replicate p 32++[]):=by rw[List.append_nil];exact h
  obtain⟨e',w',q,h2⟩:=jlh (ps:=ps) (d:=(d:Int)) (wt:=wt) hf p pre (j+1) e w h0;rw[List.map_nil] at A
  cases A with
  | done =>
   refine⟨ps,e',w',(pre++List.replicate p 32).length,?_,by simp[pcs]⟩;rw[q,jeh (jHh h2)]
 | cons sg ac ih =>
  intro pre ps d wt e w m h A hm hz;obtain⟨k,a⟩:=sg;rw[List.map_cons] at A;have hr:(jb1 ((k,a)::ac) p).length=k+(a.length+(jb1 ac p).length):=by rw[show jb1 ((k,a)::ac) p=List.replicate k 32++(a++jb1 ac p) from rfl];simp
  rw[hr] at hm;rw[List.length_cons] at hz;have ha:a≠[]:=by
   dsimp only at A;intro z;subst z
   cases A with
   | word hw _ _=>obtain⟨_,_,_,c,a',z,_⟩:=jd3 hw;cases z
  have hal:1<=a.length:=by cases a with|nil=>exact absurd rfl ha|cons _ _=>simp
  obtain⟨j,rfl⟩:∃ j,m=j+1+k:=⟨m-1-k,by omega⟩
  obtain⟨e1,w1,q1,h1⟩:=jlh (ps:=ps) (d:=(d:Int)) (wt:=wt) hf k pre (j+1) e w h;rw[q1];have fin:∀ (c:Nat) (a':List Nat) (d':Nat) (cr:Str),a=c::a'->Piece (c::a') (jb1 ac p)->(c::a')≠[32]->ja5 [.str (S1 c),.str wt,.int d]=oK (.bl true)->(d:Int)+dby (c::a')=(d':Nat)->wby (c::a')=cr->Acc (ac.map (·.2)) cr d' ->
    ∃ ps' e' w' pl,jb0 jbk jbh (j+1) (pd x ps d wt (pre++List.replicate k 32).length e1 w1)=nX (pd x ps' (0:Nat) "behind" pl e' w')/\ps'=ps++pcs ((k,a)::ac) pre.length:=by
   rintro c a' d' cr rfl P hs hm' hd hw A';obtain⟨e2,w2,q2,h2⟩:=jHr (ps:=ps) (m:=j) (e:=e1) (w:=w1) h1 P hf hs hm' (by omega);rw[q2,hd,hw];obtain⟨ps',e',w',pl,q3,q4⟩:=ih _ (ps++[(St (c::a'),((pre++List.replicate k 32).length:Int))]) d' cr e2 w2 j h2 A' (by omega) (by rw[zcb,List.length_singleton];omega);refine⟨ps',e',w',pl,q3,?_⟩;rw[q4];simp[pcs,Nat.add_assoc]
  cases A with
  | word hw hb A' =>
   obtain⟨f1,f2,f3,c,a',rfl,f4,f5⟩:=jd3 hw;exact fin c a' d "behind" rfl (jt4 hw (jn4 rfl rfl ⟨rfl,rfl,rfl⟩ ac p d A') (jn4 rfl rfl ⟨rfl,rfl,rfl⟩ ac p d A')) f3 (jpx hb f4 (.inr f5)) (by rw[f1,Int.add_zero]) f2 A'
  | opn hb A'=>exact fin 40 [] (d+1) "beginning" rfl (.sign rfl rfl) (by decide) (jpx hb (by decide) (.inl rfl)) (by rw[d40];rfl) w40 A'
  | cls A' =>
   rename_i d';exact fin 41 [] d' "behind" rfl (.sign rfl rfl) (by decide) (jw8 (by omega)) (by rw[d41];omega) w41 A'
  | neg A'=>exact fin 45 [] d "factor" rfl (.sign rfl rfl) (by decide) jw9 (by rw[(dsg (by decide +kernel)).1,Int.add_zero]) (dsg (by decide +kernel)).2 A'
  | bin hc A' =>
   rename_i c;have hl:isL c=false/\isG c=false/\c≠32:=by rcases jcu hc with rfl|rfl|rfl<;>exact⟨rfl,rfl,by decide⟩
   exact fin c [] d "factor" rfl (.sign hl.1 hl.2.1) (by simp[hl.2.2]) (jtz hc) (by rw[(dsg hc).1,Int.add_zero]) (dsg hc).2 A'
def jwg{x:Str}{ac:List (Nat×List Nat)}{p:Nat}(hx:x.cps.toList=jb1 ac p)(hs:x.length<=50000)(A:Acc (ac.map (·.2)) "beginning" 0)(hz:ac.length<=100000) :
  jgn [.str x]=oK (.lst ((pcs ac 0).map pcD)):=by
 have hf:x.length<FUEL:=by rw[jp2];exact Nat.lt_of_le_of_lt (by assumption) (by decide)
 have hl:(jb1 ac p).length=x.length:=by rw[<- hx];simp[Str.length]
 obtain⟨ps,e,w,pl,q,hp⟩:=jqk hf ac [] [] 0 "beginning" none none FUEL ⟨hx,hs⟩ A (by omega) (by simp;assumption);have hp':ps=pcs ac 0:=by simpa using hp
 rw[<- hp'];unfold jgn;rw[jg8];unfold jig;have e1:gSet 1 (fL jbq fNil) [oS x,none,none,none,none,none,none]=nX [oS x,oL [],none,none,none,none,none]:=rfl;have e2:gSet 2 (cI 0) [oS x,oL [],none,none,none,none,none]=nX [oS x,oL [],oI 0,none,none,none,none]:=rfl;have e3:gSet 3 (cS "beginning") [oS x,oL [],oI 0,none,none,none,none]=nX [oS x,oL [],oI 0,oS "beginning",none,none,none]:=rfl;have e4:gSet 4 (cI 0) [oS x,oL [],oI 0,oS "beginning",none,none,none]=nX (pd x [] (0:Nat) "beginning" ([]:List Nat).length none none):=rfl;have t:DL.tOr (DL.t2 gNe (vR 3) (cS "behind")) (DL.t2 gGt (vR 2) (cI 0)) (pd x ps (0:Nat) "behind" pl e w)=oK false:=by
  unfold pd;have:gNe (.str "behind") (.str "behind")=some (.bl false):=rfl;simp only[stpA,this,gt_int];rfl
 have e5:gIf (DL.tOr (DL.t2 gNe (vR 3) (cS "behind")) (DL.t2 gGt (vR 2) (cI 0))) jow gNx (pd x ps (0:Nat) "behind" pl e w)=nX (pd x ps (0:Nat) "behind" pl e w):=by
  rw[jcx t,if_neg (by decide)];rfl
 show (gSeq _ _ [oS x,none,none,none,none,none,none]).b outD=_;rw[jav e1,jav e2,jav e3,jav e4,jav q,jav e5];unfold pd;simp only[stpA];rfl
end
end MyLaw
namespace MyLaw
open L2 DL PySem.NumText
section
def jtx(x:Str)(u:Option Int):Txt.slice x none u=Txt.slice x (some 0) u:=by
 unfold Txt.slice;have:Builtin.Str.strSliceIndices none u 1 x.length=Builtin.Str.strSliceIndices (some 0) u 1 x.length:=by
  unfold Builtin.Str.strSliceIndices sliceRange;have z:max 0 (min 0 (x.length:Int))=0:=by omega
  cases u<;>simp[z]
 rw[this]
def jB1(b:List Nat):∀ (m:Nat),b.foldl (fun acc c=>acc*10+(c-48)) m=m*10 ^ b.length+b.foldl (fun acc c=>acc*10+(c-48)) 0:=by
 induction b with
 | nil=>intro m;simp
 | cons c b ih =>
  intro m;rw[List.foldl_cons,List.foldl_cons,ih,ih (0*10+(c-48)),List.length_cons,Nat.pow_succ];rw[Nat.add_mul,Nat.zero_mul,Nat.zero_add,Nat.mul_assoc,Nat.mul_comm 10 (10 ^ b.length)];omega
def jus(a b:List Nat):digitsVal (a++b)=digitsVal a*10 ^ b.length+digitsVal b:=by
 unfold digitsVal;rw[List.foldl_append,jB1]
theorem jz9:∀ (b:List Nat) (m:Nat),AllDigits b->b.foldl (fun acc c=>acc*10+(c-48)) m<(m+1)*10 ^ b.length
 | [],m,_=>by simp
 | c::b,m,h=>by
  have h2:=h.head;have:=jz9 b (m*10+(c-48)) h.tail;rw[List.foldl_cons,List.length_cons,Nat.pow_succ];refine zcx this ?_;rw[Nat.mul_comm (10 ^ b.length) 10,<- Nat.mul_assoc];exact Nat.mul_le_mul_right _ (by omega)
def jIr{a:List Nat}(h:AllDigits a):digitsVal a<10 ^ a.length:=by
 have:=jz9 a 0 h
 rwa [Nat.zero_add,Nat.one_mul] at this
def jz3{a:List Nat}(h:∀ c∈a,isG c=true):AllDigits a:=fun c hc=>by
 have:=h c hc;unfold isG at this;simpa using this
def ju5{a:List Nat}(h:AllDigits a)(h1:a≠[])(h2:a.length<=640):kIntT [sT a]=oI (digitsVal a:Nat):=by
 have hl:=jh8 a;have e:(St a).cps.toList=a:=by simp[St]
 show (if (St a).length<=640 then (intText? (St a)).map D.int else none)=_;rw[if_pos (by omega),intText_digits (x:=St a) (by rw[e];exact h) (by rw[e];exact h1) (by omega),e];rfl
def jE1{a:List Nat}(h:AllDigits a)(hl:a.length<=60):Bt 200 ((digitsVal a:Nat):Int):=by
 unfold Bt;have h1:=jIr h;have h2:10 ^ a.length<=10 ^ 60:=Nat.pow_le_pow_right (by decide) hl;have h3:(10:Nat) ^ 60<2 ^ 200:=by decide
 rw[Int.natAbs_natCast];omega
def jta{a:List Nat}(h:AllDigits a)(h1:a≠[])(hl:a.length<=40):jbz [sT a]=oK (.int (digitsVal a:Nat)):=by
 let f:=a.length % 18
 let k:=a.length / 18
 have jc:f+18*k=a.length:=Nat.mod_add_div _ _;have hz:(St a).length<=50000:=by rw[jh8];exact zdy hl (by decide)
 have hf:f<18:=Nat.mod_lt _ (by decide);have cu:kLen [sT a]=oI (a.length:Nat):=by rw[len_str hz,jh8]
 have cut:∀ (i n:Nat),i+n<=a.length->cutD (sT a) (some (i:Nat)) (some ((i+n:Nat):Int))=some (sT ((a.drop i).take n)):=fun i n dy=>by
  have e:a=a.take i++((a.drop i).take n++(a.drop i).drop n):=by rw[List.take_append_drop,List.take_append_drop]
  have A:At (St a) (a.take i) ((a.drop i).take n++(a.drop i).drop n):=⟨by show (St a).cps.toList=_;rw[<- e];simp[St],hz⟩
  have:=A.cut;have l1:(a.take i).length=i:=List.length_take_of_le (zdy (Nat.le_add_right i n) dy);have l2:((a.drop i).take n).length=n:=List.length_take_of_le (by rw[List.length_drop];exact Nat.le_sub_of_add_le (by rw[Nat.add_comm];exact dy));rw[l1,l2] at this;exact this
 have dig:∀ (i n:Nat),AllDigits ((a.drop i).take n):=fun i n c hc=>h c (List.mem_of_mem_drop (List.mem_of_mem_take hc))
 let Y0 (n:Nat) (z:Option D):DSt:=[some (sT a),oI (f:Nat),oI (n:Nat),z]
 have e1:gSet 1 (f2 gMod (fL kLen (jac (vR 0) fNil)) (cI 18)) [some (sT a),none,none,none]=nX [some (sT a),oI (f:Nat),none,none]:=by
  simp only[stpA,cu,jcv (i:=((a.length:Nat):Int)) (j:=18) (by decide)];rfl
 have e2:gSet 2 (fIf (DL.t2 gEq (vR 1) (cI 0)) (cI 0) (fL kIntT (jac (fSl (vR 0) jjq (jcc (vR 1))) fNil))) [some (sT a),oI (f:Nat),none,none]=nX (Y0 (digitsVal (a.take f)) none):=by
  by_cases q:f=0
  ·have q':(((f:Nat):Int) == 0)=true:=by rw[q];rfl
   have z:digitsVal (a.take f)=0:=by rw[q];rfl
   simp only[stpA,q',z];rfl
  ·have q':(((f:Nat):Int) == 0)=false:=beq_eq_false_iff_ne.mpr fun z=>q (Int.ofNat.inj z)
   have c:cutD (sT a) none (some (f:Nat))=some (sT (a.take f)):=by
    have:=cut 0 f (by rw[Nat.zero_add];exact Nat.mod_le _ _);rw[Nat.zero_add,List.drop_zero] at this;rw[<- this];show (if _ then some (D.str (Txt.slice _ none _)) else none)=(if _ then some (D.str (Txt.slice _ (some 0) _)) else none);rw[jtx]
   have s:fSl (vR 0) jjq (jcc (vR 1)) [some (sT a),oI (f:Nat),none,none]=M.p (sT (a.take f)):=jtw rfl rfl rfl c;have i:=ju5 (a:=a.take f) (fun c hc=>h c (List.mem_of_mem_take hc)) (fun z=>by have:=congrArg List.length z;rw[List.length_take_of_le (Nat.mod_le _ _)] at this;exact q this) (zdy (List.length_take_le _ _) (zdy (Nat.le_of_lt hf) (by decide)));simp only[stpA,q',s,i];rfl
 have rg:jf0 [.int (f:Nat),.int (a.length:Nat),.int 18]=some (jcq (f:Nat) 18 k):=by
  show (if (0:Int)<18/\(18:Int)<2 ^ 60 then some (jcq _ 18 (Builtin.Range.rangeSize ((f:Nat):Int) (a.length:Nat) 18).toNat) else none)=_;rw[if_pos (by decide)];have:(Builtin.Range.rangeSize ((f:Nat):Int) (a.length:Nat) 18).toNat=k:=by
   unfold Builtin.Range.rangeSize;rw[if_pos (by decide)]
   by_cases q:f<a.length
   ·rw[if_pos (by omega)];omega
   ·rw[if_neg (by omega)];omega
  rw[this]
 obtain⟨Y',e3,hd⟩:=jku (g:=jdf) (tg:=DL.gName 3) (jcq (f:Nat) 18 k) (fun j Y=>∃ z,Y=Y0 (digitsVal (a.take (f+18*j))) z) (fun j hj Y ⟨z,hz⟩=>by
  subst hz;have c9:j<k:=by simpa[jcq] using hj
  have hg:(jcq (f:Nat) 18 k)[j]=.int ((f+18*j:Nat):Int):=by simp[jcq];omega
  refine⟨Y0 (digitsVal (a.take (f+18*j))) (oI ((f+18*j:Nat):Int)),by rw[hg];rfl,Y0 (digitsVal (a.take (f+18*(j+1)))) (oI ((f+18*j:Nat):Int)),.inl ?_,_,rfl⟩;have jb:f+18*j+18<=a.length:=by rw[<- jc,Nat.add_assoc];exact Nat.add_le_add_left (Nat.mul_le_mul_left 18 c9) f
  have c:=cut (f+18*j) 18 jb;have s:fSl (vR 0) (jcc (vR 3)) (jcc (f2 gCat (vR 3) (cI 18))) (Y0 (digitsVal (a.take (f+18*j))) (oI ((f+18*j:Nat):Int)))=M.p (sT ((a.drop (f+18*j)).take 18)):=jtw rfl rfl rfl c;have l2:((a.drop (f+18*j)).take 18).length=18:=List.length_take_of_le (by rw[List.length_drop];exact Nat.le_sub_of_add_le (by rw[Nat.add_comm];exact jb));have i:=ju5 (dig (f+18*j) 18) (fun z=>by rw[z] at l2;cases l2) (by rw[l2];decide);have m:=jdl (i:=((digitsVal (a.take (f+18*j)):Nat):Int)) (j:=1000000000000000000) (a:=200) (b:=60) (jE1 (fun c hc=>h c (List.mem_of_mem_take hc)) (zdy (List.length_take_le' _ _) (zdy hl (by decide)))) (by unfold Bt;decide);have v:digitsVal (a.take (f+18*(j+1)))=digitsVal (a.take (f+18*j))*1000000000000000000+digitsVal ((a.drop (f+18*j)).take 18):=by
   have:a.take (f+18*(j+1))=a.take (f+18*j)++(a.drop (f+18*j)).take 18:=by rw[show f+18*(j+1)=(f+18*j)+18 from rfl,List.take_add]
   rw[this,jus,l2]
  rw[v];show gSet 2 (f2 gCat (f2 jci (vR 2) (cI 1000000000000000000)) (fL kIntT (jac (fSl (vR 0) (jcc (vR 3)) (jcc (f2 gCat (vR 3) (cI 18)))) fNil))) (Y0 _ _)=_;rw[jB9,e_2,e_2,e_L,juv,s];show ((M.o (jci (D.int ((digitsVal (a.take (f+18*j)):Nat):Int)) (D.int 1000000000000000000))).b fun x=>((M.o (kIntT [D.str (St ((a.drop (f+18*j)).take 18))])).b fun y=>M.o (gCat x y))).b _=_;rw[m,i];simp only[stpA];show some (Except.ok (Out.nx [_,_,some (D.int _),_]))=some (Except.ok (Out.nx [_,_,some (D.int _),_]));rw[show ((digitsVal (a.take (f+18*j))*1000000000000000000+digitsVal ((a.drop (f+18*j)).take 18):Nat):Int)=((digitsVal (a.take (f+18*j)):Nat):Int)*1000000000000000000+((digitsVal ((a.drop (f+18*j)).take 18):Nat):Int) by omega]) (Y0 (digitsVal (a.take f)) none) ⟨none,rfl⟩
 obtain⟨z,rfl⟩:=hd;have hk:(jcq (f:Nat) 18 k).length=k:=by simp[jcq]
 have all:a.take (f+18*(jcq (f:Nat) 18 k).length)=a:=by rw[hk,jc,List.take_length]
 rw[all] at e3;have e4:gFor (jih jf0 (jac (vR 1) (jac (fL kLen (jac (vR 0) fNil)) (jac (cI 18) fNil)))) (DL.gName 3) jdf (Y0 (digitsVal (a.take f)) none)=nX (Y0 (digitsVal a) z):=by
  show gFor _ _ _ [some (sT a),oI (f:Nat),oI (digitsVal (a.take f):Nat),none]=_;simp only[stpA,cu,rg];exact e3
 unfold jbz;rw[jg8];show (jcj [some (sT a),none,none,none]).b outD=_;unfold jcj;rw[jav e1,jav e2,jav e4];rfl
def jxa{c:Nat}{a:List Nat}(h:c≠45):Txt.startswith (St (c::a)) (Str.ofString "-")=false:=by
 rw[jkz];unfold Txt.startswith Builtin.Str.subAt St;simp;intro _;show ¬ List.take 1 (c::a)=[45];simp;exact h
def jvw{a:List Nat}(h:AllDigits a)(h1:a≠[])(hl:a.length<=40):jgm [sT a]=oK (.int (digitsVal a:Nat)):=by
 obtain⟨c,a',rfl⟩:∃ c a',a=c::a':=by cases a with|nil=>exact absurd rfl h1|cons c a'=>exact⟨c,a',rfl⟩
 have hc:=h.head;have s:=jxa (c:=c) (a:=a') (by omega);have t:tTru (fSm jm1 (vR 0) (cS "-")) [some (sT (c::a'))]=oK false:=by
  have:fSm jm1 (vR 0) (cS "-") [some (sT (c::a'))]=M.p (.bl (Txt.startswith (St (c::a')) (Str.ofString "-"))):=rfl;rw[jFe,this,s];rfl
 unfold jgm;rw[jg8];show (jgg [some (sT (c::a'))]).b outD=_;unfold jgg;rw[jav (Y':=[some (sT (c::a'))]) (by rw[jcx t,if_neg (by decide)];rfl)];simp only[stpA,jta h h1 hl];rfl
def nmD(aa:LL):List D:=aa.map fun a=>sT a
abbrev oN(l:LL):Option D:=oL (nmD l)
def jo8(a b:LL):nmD a++nmD b=nmD (a++b):=by unfold nmD;rw[List.map_append]
def frmW(aa:LL)(a:List Nat):Fm:=match a with
 | []=>([],0)
 | c::r=>if isL c=true then (aa.map fun b=>if b=c::r then 1 else 0,0) else (List.replicate aa.length 0,(digitsVal (c::r):Nat))
def ix0{c:Nat}{a:List Nat}(h:a.length<=40000):gIx (sT (c::a)) (.int 0)=oS (S1 c):=by
 show (if (St (c::a)).length<=sizeLine then (atI (St (c::a)).cps.toList 0).map fun c=>D.str ⟨#[c]⟩ else none)=_;rw[if_pos (by rw[sizeLine_eq,jh8,List.length_cons];omega)];unfold St;simp;rfl
def jCf{aa:LL}{a:List Nat}(hn:aa.length<=1000)(h:Word a)(hl:a.length<=40):jcs [.lst (nmD aa),sT a]=oK (fm (frmW aa a)):=by
 obtain⟨_,_,_,c,a',rfl,_,hc⟩:=jd3 h;have t:tTru (jbg jbn (jac (f2 gIx (vR 1) (cI 0)) fNil)) [oN aa,some (sT (c::a'))]=oK (isL c):=by
  simp only[stpA,ix0 (c:=c) (a:=a') (by simp at hl;omega),jft];rfl
 unfold jcs;rw[jh7];show (jd7 [oN aa,some (sT (c::a'))]).b outD=_;unfold jd7 frmW
 by_cases q:isL c=true
 ·rw[q] at t;rw[jmu,jcx t,if_pos rfl];have e:=jg4 (c:=[some (sT (c::a'))]) (fe:=jdo) (K:=fun b:List Nat=>D.str (St b)) (F:=fun b=>.int (if b=c::a' then 1 else 0)) aa none (fun b hb=>by
   unfold jdo;simp only[stpA,jbf,jcf]
   by_cases z:b=c::a'
   ·rw[beq_iff_eq.mpr z,if_pos z];rfl
   ·rw[beq_eq_false_iff_ne.mpr z,if_neg z];rfl)
  have e':jfr (DL.gName 0) tYes jdo (nmD aa) [none,some (sT (c::a'))]=some (aa.map fun b=>.int (if b=c::a' then 1 else 0)):=e;simp only[stpA,e',jj0 (ds:=aa.map fun b=>D.int (if b=c::a' then 1 else 0)) (by rw[zav];exact hn),if_pos q];unfold fm;rw[List.map_map];rfl
 ·have q':isL c=false:=by simpa using q
  rw[q'] at t;have hg:AllDigits (c::a')/\(c::a')≠[]:=by
   cases h with
   | zero=>exact⟨fun d hd=>by simp at hd;omega,by simp⟩
   | name _ h2 _=>rw[h2 c zaa] at q';cases q'
   | num _ h2 _=>exact⟨jz3 h2,by simp⟩
  rw[jav (Y':=[oN aa,some (sT (c::a'))]) (by rw[jcx t,if_neg (by decide)];rfl)];have ln:(nmD aa).length=aa.length:=by simp[nmD]
  have hr:=jB8 (Y:=[oN aa,some (sT (c::a'))]) (fl:=jac (cI 0) fNil) (fb:=fL kLen (jac (vR 0) fNil)) (.int 0) aa.length rfl (by simp only[stpA,jj6,ln]) hn;simp only[stpA,hr,jvw hg.1 hg.2 hl,if_neg q];unfold fm;rw[List.map_replicate];rfl
end
section
def frmS(aa:LL)(w:Str):Fm:=frmW aa w.cps.toList
def jqe(aa:LL)(a:List Nat):frmS aa (St a)=frmW aa a:=by unfold frmS St;simp
abbrev WdN(aa:LL):Str->Prop:=Wd (.lst (nmD aa)) (frmS aa)
def jH0{aa:LL}{a:List Nat}(hn:aa.length<=1000)(h:Word a)(hl:a.length<=40):WdN aa (St a):=by
 obtain⟨f1,f2,f3,c,a',rfl,f4,f5⟩:=jd3 h;have ne:∀ k,isL k=false->isG k=false->c≠k:=fun k h1 h2 z=>by subst z;rw[h1,h2] at f5;simp at f5
 have n1:=ne 40 rfl rfl;have n2:=ne 41 rfl rfl;have n5:=ne 43 rfl rfl;have n6:=ne 42 rfl rfl;refine⟨?_,?_,?_,?_⟩
 ·rw[jm7,jcf];exact beq_eq_false_iff_ne.mpr (by simp[n1])
 ·rw[jql,jcf];exact beq_eq_false_iff_ne.mpr (by simp[n2])
 ·rw[jlf];simp;exact⟨fun z=>absurd z.symm n5,fun z=>absurd z.symm f4,fun z=>absurd z.symm n6⟩
 ·rw[jqe];exact jCf hn h hl
def jhs(aa:LL):(nmD aa).all jiv=true:=by
 unfold nmD;rw[List.all_map];exact List.all_eq_true.mpr fun _ _=>rfl
end
section
abbrev scr(ns:List Int):D:=.lst (ns.map .int)
def v_at(ns:List Int)(k:Int)(h0:0<=k)(hk:k<=1000):∃ i,jhx [scr ns,.int k]=oK (.int i):=by
 unfold jhx;rw[jh7];unfold jm2;obtain⟨k,rfl⟩:=Int.eq_ofNat_of_zero_le h0
 by_cases h:k<ns.length
 ·refine⟨ns[k],?_⟩;have h2:((k:Int)<(ns.length:Int)):=by omega
  simp[h2,DL.atI_get (xs:=ns.map D.int) (j:=k) (v:=.int ns[k]) (by simp[h]),M.p]
 ·refine⟨19*(k:Int)+8,?_⟩;have h2:¬ ((k:Int)<(ns.length:Int)):=by omega
  have e:jci (.int 19) (.int (k:Int))=oI (19*(k:Int)):=jdl (a:=10) (b:=10) (by unfold Bt;decide) (by unfold Bt;omega);simp[h2,e,M.p]
def atF(ns:List Int)(k:Int):Int:=getI (jhx [scr ns,.int k])
def w_at{ns:List Int}{k:Int}(h0:0<=k)(hk:k<=1000):jhx [scr ns,.int k]=oK (.int (atF ns k)):=let ⟨_,h⟩:=v_at ns k h0 hk;juy h
def jGi:gPow (.int 10) (.int 12)=oI 1000000000000:=by rw[jDo (by decide)];rfl
def jxw{k m:Nat}{n:Int}(h0:0<=n)(h1:n<(m:Int))(h2:m<=2 ^ k):Bt k n:=by
 obtain⟨j,rfl⟩:=Int.eq_ofNat_of_zero_le h0;exact zcx (Int.ofNat_lt.mp h1) h2
def jHw(n p:Int)(h0:0<=p)(hp:p<=1000):∃ r,jcp [.int n,.int p]=oK (.int r)/\0<=r/\r<2147483648:=by
 unfold jcp;rw[jh7];unfold jkv
 by_cases h:1000000000000<=n
 ·obtain⟨Y',e,i⟩:=jqd (g:=jhq) (tg:=DL.gName 2) (fun _ Y=>∃ a b,Y=[oI a,oI p,b,none])
   (fun d ds Y ⟨a,b,hd⟩=>by
    subst hd;refine⟨_,rfl,[oI (a / 2147483648),oI p,some d,none],.inl ?_,_,_,rfl⟩;simp[jhq,jgc (i:=a) (j:=2147483648) (by decide) (by decide),M.p])
   (jdx 0 (p % 61).toNat) [oI (n / 1000000000000-1),oI p,none,none] ⟨_,_,rfl⟩
  obtain⟨a,b,rfl⟩:=i;refine⟨a % 2147483648,?_,zcw _ (by decide),zca _ (by decide)⟩;have e':forD jhq (DL.gName 2) (jdx 0 (p % 61).toNat) [oI (n / 1000000000000-1),oI p,none,none]=M.p (.nx [oI a,oI p,b,none]):=e;simp[jGi,h,jgc (i:=n) (j:=1000000000000) (by decide) (by decide),jcv (i:=p) (j:=61) (by decide),jcv (i:=a) (j:=2147483648) (by decide),e',List.replicate];rfl
 ·have h1:=zcw n (show (2147483629:Int)≠0 by decide);have h2:=zca n (show (0:Int)<2147483629 by decide);have bp:Bt 10 p:=jxw (m:=1001) h0 (Int.lt_add_one_of_le hp) (by decide);have a1:jci (.int 8) (.int p)=oI (8*p):=jdl (a:=4) (b:=10) (by unfold Bt;decide) bp;have b2:Bt 14 (8*p):=Bt.mul (a:=4) (by unfold Bt;decide) bp;have a2:jci (.int (8*p)) (.int p)=oI (8*p*p):=jdl b2 bp;have b3:Bt 33 (n % 2147483629+p+1):=((Bt.add (a:=31) (jxw (m:=2147483629) h1 h2 (by decide)) (bp.mono (by decide))).add (show Bt 32 1 by unfold Bt;decide)).mono (by decide);have b4:Bt 31 (8*p*p+48271):=(((b2.mul bp).mono (by decide)).add (show Bt 30 48271 by unfold Bt;decide)).mono (by decide);have a3:jci (.int (n % 2147483629+p+1)) (.int (8*p*p+48271))=oI ((n % 2147483629+p+1)*(8*p*p+48271)):=jdl b3 b4;generalize hx:(n % 2147483629+p+1)*(8*p*p+48271) % 2147483647=x;have x1:0<=x:=by rw[<- hx];exact zcw _ (by decide)
  have x2:x<2147483647:=by rw[<- hx];exact zca _ (by decide)
  have bx:Bt 32 x:=jxw (m:=2147483647) x1 x2 (by decide);have a4:jci (.int x) (.int x)=oI (x*x):=jdl bx bx;generalize hy:x*x % 2147483587=y;have y1:0<=y:=by rw[<- hy];exact zcw _ (by decide)
  have y2:y<2147483587:=by rw[<- hy];exact zca _ (by decide)
  have ji:Bt 32 y:=jxw (m:=2147483587) y1 y2 (by decide);have a5:jci (.int y) (.int (y+2))=oI (y*(y+2)):=jdl ji (ji.add (show Bt 32 2 by unfold Bt;decide));refine⟨y*(y+2) % 2147483579,?_,zcw _ (by decide),Int.lt_trans (zca (y*(y+2)) (show (0:Int)<2147483579 by decide)) (by decide)⟩;simp[jGi,h,jcv (i:=n) (j:=2147483629) (by decide),a1,a2,a3,jcv (i:=(n % 2147483629+p+1)*(8*p*p+48271)) (j:=2147483647) (by decide),hx,a4,jcv (i:=x*x) (j:=2147483587) (by decide),hy,a5,jcv (i:=y*(y+2)) (j:=2147483579) (by decide),List.replicate];rfl
def mixF(n p:Int):Int:=getI (jcp [.int n,.int p])
def jxl{n p:Int}(h0:0<=p)(hp:p<=1000):jcp [.int n,.int p]=oK (.int (mixF n p)):=let ⟨_,h,_⟩:=jHw n p h0 hp;juy h
def jDx{n p:Int}(h0:0<=p)(hp:p<=1000):0<=mixF n p/\mixF n p<2147483648:=by
 obtain⟨r,h,q⟩:=jHw n p h0 hp;unfold mixF;rw[h];exact q
end
section
def dg(m:Nat):List Nat:=(Nat.toDigits 10 m).map Char.toNat
def jw7(a b:List Nat):St a++St b=St (a++b):=by
 show (⟨_⟩:Str)=_;unfold St;simp
def juj{a b:List Nat}(h:a.length+b.length<=100000):gCat (sT a) (sT b)=some (sT (a++b)):=by
 rw[jBy (by rw[jh8,jh8,sizeLine_eq];omega),jw7]
def jrb:Str.ofString "abcdefghijklmnopqrstuvwxyz"=St (List.range' 97 26):=by decide +kernel
def jve{i:Int}(h0:0<=i)(h1:i<26):∃ c,isL c=true/\gIx (.str "abcdefghijklmnopqrstuvwxyz") (.int i)=some (sT [c]):=by
 obtain⟨j,rfl⟩:=Int.eq_ofNat_of_zero_le h0;have hj:j<26:=by omega
 refine⟨97+j,by unfold isL;simp;omega,?_⟩;rw[jrb];show (if (St (List.range' 97 26)).length<=sizeLine then (atI (St (List.range' 97 26)).cps.toList (j:Int)).map fun c=>D.str ⟨#[c]⟩ else none)=_;have e:(St (List.range' 97 26)).cps.toList=List.range' 97 26:=by unfold St;simp
 rw[if_pos (by rw[jh8,sizeLine_eq,List.length_range'];omega),e,DL.atI_get (v:=97+j) (by rw[List.getElem?_range' hj];simp)];rfl
structure Nm(a:List Nat):Prop where
 ne:a≠[]
 al:∀ c∈a,isL c=true
 le:a.length<=10
def jv1(m:Int)(n:Nat)(h:0<(n:Int)):1<=(1+m % (n:Int)).toNat/\(1+m % (n:Int)).toNat<=n:=by
 have h1:=zcw m (Int.ne_of_gt h);have h2:=zca m h;omega
def jC3{m:Int}(h0:0<=m):∃ a,jfx [.int m]=oK (sT a)/\Nm a:=by
 let k:=(1+m % 10).toNat
 have hk:1<=k/\k<=10:=jv1 m 10 (by decide);obtain⟨Y',e,a,z,hδ,h1,h2⟩:=jku (g:=jf5) (tg:=DL.gName 2) (jdx 0 k) (fun j Y=>∃ a z,Y=[oI m,some (sT a),z]/\a.length=j/\∀ c∈a,isL c=true) (fun j hj Y ⟨a,z,hδ,h1,h2⟩=>by
  subst hδ;have c9:j<k:=by simpa using hj
  have pj:0<=0+((j:Nat):Int)/\0+((j:Nat):Int)<=1000:=by omega
  have w:=jxl (n:=m) (p:=0+(j:Nat)) pj.1 pj.2;generalize mixF m (0+(j:Nat))=mx at w
  let d:=m / 10 % 2
  have hd:d=0\/d=1:=by show m / 10 % 2=0\/m / 10 % 2=1;omega
  let md:Int:=if d=0 then 26 else 2
  have g1:gIx (.lst [.int 26,.int 2]) (.int (m / 10 % 2))=oI md:=by
   rcases hd with hd|hd
   ·show gIx _ (.int d)=oI (if d=0 then 26 else 2);rw[hd];rfl
   ·show gIx _ (.int d)=oI (if d=0 then 26 else 2);rw[hd];rfl
  have hm:0<md/\md<=26:=by show 0<(if d=0 then (26:Int) else 2)/\(if d=0 then (26:Int) else 2)<=26;split<;>decide
  have r1:=zcw mx (Int.ne_of_gt hm.1);have r2:=zca mx hm.1;obtain⟨c,hc,g2⟩:=jve (i:=mx % md) r1 (Int.lt_of_lt_of_le r2 hm.2);refine⟨_,rfl,[oI m,some (sT (a++[c])),oI (0+(j:Nat))],.inl ?_,a++[c],_,rfl,by simp[h1],fun b hb=>?_⟩
  ·rw[jjs];unfold jf5;have f1:=jgc (i:=m) (j:=10) (by decide) (by decide);have f2':=jcv (i:=m / 10) (j:=2) (by decide);have f3:=jcv (i:=mx) (j:=md) hm.1;have f4:=juj (a:=a) (b:=[c]) (by show a.length+1<=100000;rw[h1];exact zdy c9 (zdy hk.2 (by decide)));simp only[stpA,f1,f2',w,g1,f3,g2,f4];rfl
  ·rcases zdx.mp hb with hb|hb
   ·exact h2 b hb
   ·rw[zcc.mp hb];exact hc) [oI m,some (sT []),none] ⟨[],none,rfl,rfl,fun c hc=>(nomatch hc)⟩
 subst hδ;rw[jjt] at h1;refine⟨a,?_,fun z=>by subst z;exact absurd h1.symm (Nat.ne_of_gt hk.1),h2,by rw[h1];exact hk.2⟩;unfold jfx;rw[jg8];show (jht [oI m,none,none]).b outD=_;unfold jht;have e1:gSet 1 (cS "") [oI m,none,none]=nX [oI m,some (sT []),none]:=rfl;have e2:gFor (jih jc6 (jac (f2 gCat (cI 1) (f2 gMod (vR 0) (cI 10))) fNil)) (DL.gName 2) jf5 [oI m,some (sT []),none]=nX [oI m,some (sT a),z]:=by
  have f1:=jcv (i:=m) (j:=10) (by decide);simp only[stpA,f1,range1];exact e
 rw[jav e1,jav e2];rfl
theorem jkw(a:List Nat):∀ aa:LL,inD (sT a) (nmD aa)=decide (a∈aa)
 | []=>by simp[nmD,inD]
 | b::aa=>by
  have:inD (sT a) (nmD (b::aa))=((St b == St a) || inD (sT a) (nmD aa)):=rfl;rw[this,jkw a aa,jcf]
  by_cases q:b=a
  ·subst q;simp
  ·rw[beq_eq_false_iff_ne.mpr q];simp[show ¬ a=b from fun z=>q z.symm]
def jyz{m:Int}(h0:0<=m):∃ aa:LL,jgl [.int m,.int 3]=oK (.lst (nmD aa))/\(∀ a∈aa,Nm a)/\aa.Nodup/\1<=aa.length/\aa.length<=3:=by
 let k:=(1+m % 3).toNat
 have hk:1<=k/\k<=3:=jv1 m 3 (by decide);obtain⟨Y',e,aa,y,z,hδ,h1,h2,h3,h4⟩:=jku (g:=jd9) (tg:=DL.gName 3) (jdx 0 k) (fun j Y=>∃ (aa:LL) (y z:Option D),Y=[oI m,oI 3,oN aa,y,z]/\(∀ a∈aa,Nm a)/\aa.Nodup/\aa.length<=j/\(1<=j->1<=aa.length)) (fun j hj Y ⟨aa,y,z,hδ,h1,h2,h3,h4⟩=>by
  subst hδ;have c9:j<k:=by simpa using hj
  have pj:0<=20+(0+((j:Nat):Int))/\20+(0+((j:Nat):Int))<=1000:=by omega
  have w:=jxl (n:=m) (p:=20+(0+(j:Nat))) pj.1 pj.2;have r:=jDx (n:=m) (p:=20+(0+(j:Nat))) pj.1 pj.2;generalize mixF m (20+(0+(j:Nat)))=mx at w r;obtain⟨a,ea,na⟩:=jC3 r.1;have e1:gSet 4 (jbg jfx (jac (jbg jcp (jac (vR 0) (jac (f2 gCat (cI 20) (vR 3)) fNil))) fNil)) [oI m,oI 3,oN aa,oI (0+(j:Nat)),z]=nX [oI m,oI 3,oN aa,oI (0+(j:Nat)),some (sT a)]:=by
   simp only[stpA,w,ea];rfl
  have dy:=jkw a aa;have g:je3 (sT a) (.lst (nmD aa))=some (.bl !decide (a∈aa)):=by
   show (if (true&&(nmD aa).all jiv)=true then some (D.bl !(inD _ (nmD aa))) else none)=_;rw[jhs,if_pos (by decide),dy]
  refine⟨[oI m,oI 3,oN aa,oI (0+(j:Nat)),z],by rw[jjs];rfl,?_⟩
  by_cases q:a∈aa
  ·refine⟨[oI m,oI 3,oN aa,oI (0+(j:Nat)),some (sT a)],.inl ?_,aa,_,_,rfl,h1,h2,Nat.le_succ_of_le h3,fun _=>?_⟩
   ·unfold jd9;rw[jav e1];simp only[stpA,g,decide_eq_true q,Bool.not_true];rfl
   ·cases aa with
    | nil=>cases q
    | cons _ _=>simp
  ·refine⟨[oI m,oI 3,oN (aa++[a]),oI (0+(j:Nat)),some (sT a)],.inl ?_,aa++[a],_,_,rfl,fun b hb=>?_,?_,by rw[zcb];exact Nat.succ_le_succ h3,fun _=>by simp⟩
   ·unfold jd9;rw[jav e1];have t:DL.t2 je3 (vR 4) (vR 2) [oI m,oI 3,oN aa,oI (0+(j:Nat)),some (sT a)]=oK true:=by
     simp only[stpA,g,decide_eq_false q,Bool.not_false];rfl
    rw[jcx t,if_pos rfl];have:=jua (i:=2) (fa:=vR 4) (Y:=[oI m,oI 3,oN aa,oI (0+(j:Nat)),some (sT a)]) (ds:=nmD aa) (d:=sT a) rfl rfl (by unfold nmD;rw[zav,sizeLine_eq];exact Nat.lt_of_le_of_lt h3 (Nat.lt_trans c9 (Nat.lt_of_le_of_lt hk.2 (by decide))));rw[this,show nmD aa++[sT a]=_ from jo8 aa [a]];rfl
   ·rcases zdx.mp hb with hb|hb
    ·exact h1 b hb
    ·rw[zcc.mp hb];exact na
   ·rw[List.nodup_append];exact⟨h2,by simp,fun x hx y hy=>by rw[zcc.mp hy];exact fun z=>q (z ▸ hx)⟩) [oI m,oI 3,oN [],none,none] ⟨[],none,none,rfl,fun a ha=>(nomatch ha),by simp,by simp,fun z=>absurd z (by decide)⟩
 subst hδ;rw[jjt] at h3 h4;refine⟨aa,?_,h1,h2,h4 hk.1,zdy h3 hk.2⟩;unfold jgl;rw[jh7];show (jgf [oI m,oI 3,none,none,none]).b outD=_;unfold jgf;have e1:gSet 2 (fL jbq fNil) [oI m,oI 3,none,none,none]=nX [oI m,oI 3,oN [],none,none]:=rfl;have e2:gFor (jih jc6 (jac (f2 gCat (cI 1) (f2 gMod (vR 0) (vR 1))) fNil)) (DL.gName 3) jd9 [oI m,oI 3,oN [],none,none]=nX [oI m,oI 3,oN aa,y,z]:=by
  have f1:=jcv (i:=m) (j:=4) (by decide);simp only[stpA,f1,range1];exact e
 rw[jav e1,jav e2];rfl
end
end MyLaw
namespace MyLaw
open L2 DL
section
inductive Ph
 | emp
 | one (F:Fm)
 | str (F:Fm) (p:Int)
 | two (F:Fm) (p:Int) (G:Fm)
structure Lv where
 op:Int
 sg:Option (Fm×Bool×Int)
 ph:Ph
def cur:Ph->Fm
 | .emp=>([],0)
 | .one F=>F
 | .str F _=>F
 | .two F _ G=>jhl F G
def sgn(b:Bool):Int:=if b=true then -1 else 1
def Lv.s(l:Lv):Int:=match l.sg with
 | none=>1
 | some (_,b,_)=>sgn b
def jkf(n:Nat):Fm:=(List.replicate n 0,0)
def Lv.tot(n:Nat)(l:Lv):Fm:=match l.sg with
 | none=>jkf n
 | some (T,_,_)=>T
def Lv.whole(l:Lv):Fm:=match l.sg with
 | none=>cur l.ph
 | some (T,b,_)=>addF T (mulF (cur l.ph) (sgn b))
def opd(l:Lv)(f:Fm):Except Int Lv:=match l.ph with
 | .emp=>.ok { l with ph:=.one f }
 | .str F p=>if (jau F || jau f)=true then .ok { l with ph:=.two F p f } else .error p
 | _=>.ok l
def signL(n:Nat)(l:Lv)(c:Nat)(p:Int):Lv:=if c=42 then { l with ph:=.str (cur l.ph) p } else
 { l with sg:=some (match l.ph with|.emp=>jkf n|_=>l.whole,c == 45,p),ph:=.emp }
def new(p:Int):Lv:=⟨p,none,.emp⟩
def Lv.wait(l:Lv):Prop:=match l.ph with
 | .emp=>True
 | .str _ _=>True
 | _=>False
def Lv.behind(l:Lv):Prop:=match l.ph with
 | .one _=>True
 | .two _ _ _=>True
 | _=>False
inductive Fits:List Lv->Str->Nat->Prop
 | beg (l:Lv) (r:List Lv) (h:l.ph=.emp) (hs:l.sg=none) (hr:∀ m∈r,m.wait):Fits (l::r) "beginning" r.length
 | fac (l:Lv) (r:List Lv) (h:l.wait) (hs:l.ph=.emp->l.sg≠none) (hr:∀ m∈r,m.wait):Fits (l::r) "factor" r.length
 | beh (l:Lv) (r:List Lv) (h:l.behind) (hr:∀ m∈r,m.wait):Fits (l::r) "behind" r.length
structure FB(n k:Nat)(f:Fm):Prop where
 len:f.1.length=n
 bf:BF k f
def FB.mono{n j k:Nat}{f:Fm}(h:FB n j f)(hk:j<=k):FB n k f:=⟨h.len,h.bf.mono hk⟩
def FB.zero(n:Nat):FB n 1 (jkf n):=⟨by simp[jkf],fun c hc=>by rw[(List.mem_replicate.mp hc).2];unfold Bt;decide,by show Bt 1 0;unfold Bt;decide⟩
def FB.prod{n j k:Nat}{f g:Fm}(h:FB n j f)(h':FB n k g):FB n (j+k) (jhl f g):=by
 unfold jhl
 split
 ·exact⟨by rw[jng];exact h.len,h.bf.mul h'.bf.2⟩
 ·exact⟨by rw[jng];exact h'.len,by rw[Nat.add_comm];exact h'.bf.mul h.bf.2⟩
def jBb(b:Bool):sgn b=1\/sgn b=-1:=by cases b;exact .inl rfl;exact .inr rfl
def FB.sg{n j:Nat}{f:Fm}{s:Int}(h:FB n j f)(hs:s=1\/s=-1):FB n j (mulF f s):=⟨by rw[jng];exact h.len,h.bf.sgn hs⟩
def FB.add{n j:Nat}{f g:Fm}(h:FB n j f)(h':FB n j g):FB n (j+1) (addF f g):=⟨by rw[jxr (by rw[h.len,h'.len])];exact h.len,h.bf.add h'.bf⟩
inductive PhB(n:Nat):Nat->Ph->Prop
 | emp (w:Nat):PhB n w .emp
 | one (w:Nat) (F:Fm) (h:FB n w F):PhB n w (.one F)
 | str (w:Nat) (F:Fm) (p:Int) (h:FB n w F):PhB n w (.str F p)
 | two (w a b:Nat) (F:Fm) (p:Int) (G:Fm) (hw:a+b<=w) (h:FB n a F) (h':FB n b G) (hp:(jau F || jau G)=true):PhB n w (.two F p G)
inductive LvB(n w:Nat)(l:Lv):Prop
 | mk (a b:Nat) (hw:a+b<=w) (h:PhB n a l.ph) (hs:∀ T c p,l.sg=some (T,c,p)->FB n b T)
def LsB(n:Nat):List Lv->Nat->Prop
 | [],_=>True
 | l::r,w=>∃ a b,a+b<=w/\LvB n a l/\LsB n r b
theorem PhB.cur{n w:Nat}{p:Ph}(h:PhB n w p)(hp:p≠.emp):FB n w (cur p):=by
 cases h with
 | emp=>exact absurd rfl hp
 | one F h=>exact h
 | str F p h=>exact h
 | two a b F p G hw h h' hp=>exact (h.prod h').mono hw
theorem LvB.whole{n w:Nat}{l:Lv}(h:LvB n w l)(hp:l.ph≠.emp):FB n (w+1) l.whole:=by
 obtain⟨a,b,hw,h,hs⟩:=h;have c:=h.cur hp;unfold Lv.whole
 cases e:l.sg with
 | none=>exact c.mono (by omega)
 | some t =>
  obtain⟨T,bb,p⟩:=t;exact (((hs T bb p e).mono (k:=w) (by omega)).add ((c.mono (k:=w) (by omega)).sg (jBb bb)))
def LvB.new(n w:Nat)(p:Int):LvB n w (new p):=⟨0,0,by omega,.emp 0,fun _ _ _ h=>nomatch h⟩
theorem LvB.opd{n w k:Nat}{l l':Lv}{f:Fm}(h:LvB n w l)(hf:FB n k f)(e:opd l f=.ok l'):LvB n (w+k) l':=by
 obtain⟨a,b,hw,h,hs⟩:=h;unfold MyLaw.opd at e
 cases q:l.ph with
 | emp=>rw[q] at e;cases e;exact⟨k,b,by omega,.one k f hf,hs⟩
 | one F=>rw[q] at e h;cases e;exact⟨a,b,by omega,by rw[q];exact h,hs⟩
 | two F p G=>rw[q] at e h;cases e;exact⟨a,b,by omega,by rw[q];exact h,hs⟩
 | str F p =>
  rw[q] at e h
  cases h with
  | str _ _ h =>
   dsimp only at e
   split at e
   ·rename_i hp;cases e;exact⟨a+k,b,by omega,.two _ a k F p f (zac _) h hf hp,hs⟩
   ·cases e
def LvB.sign{n w:Nat}{l:Lv}(c:Nat)(p:Int)(h:LvB n w l)(hc:c=42->l.ph≠.emp):LvB n (w+1) (signL n l c p):=by
 unfold signL
 split
 ·rename_i jg;obtain⟨a,b,hw,h,hs⟩:=h;exact⟨a,b,by omega,.str a _ p (h.cur (hc jg)),hs⟩
 ·refine⟨0,w+1,by omega,.emp 0,fun T b q e=>?_⟩;cases e
  split
  ·exact (FB.zero n).mono (by omega)
  ·rename_i cz;exact h.whole cz
structure OsOk(n:Nat)(l:Lv)(o:OS):Prop where
 tot:o.total=l.tot n
 sgn:o.sign=l.s
 ph:match l.ph with
  | .emp=>o.star=none/\(l.sg=none->o=fresh n)
  | .one F=>o.star=none/\o.term=mulF F l.s
  | .str F p=>o.star=some p/\o.term=mulF F l.s
  | .two F _ G=>o.term=mulF (jhl F G) l.s
def s_or(l:Lv):l.s=1\/l.s=-1:=by
 unfold Lv.s
 split
 ·exact .inl rfl
 ·exact jBb _
def jwh(f:Fm){s:Int}(h:s=1\/s=-1):jau (mulF f s)=jau f:=by
 unfold jau mulF;rw[List.all_map];congr 1
 funext c
 rw[Bool.eq_iff_iff];simp only[Function.comp_apply,beq_iff_eq];rcases h with rfl|rfl<;>omega
theorem OsOk.whole{n w:Nat}{l:Lv}{o:OS}(h:OsOk n l o)(hb:l.behind)(B:LvB n w l):wholeF o=l.whole:=by
 obtain⟨h1,h2,h3⟩:=h;have hc:FB n w (cur l.ph):=by
  obtain⟨a,b,hw,h,_⟩:=B;exact (h.cur (fun z=>by unfold Lv.behind at hb;rw[z] at hb;exact hb)).mono (by omega)
 have ht:o.term=mulF (cur l.ph) l.s:=by
  unfold Lv.behind at hb
  split at hb
  ·rename_i F e;rw[e] at h3;rw[e];exact h3.2
  ·rename_i F p G e;rw[e] at h3;rw[e];exact h3
  ·exact hb.elim
 unfold wholeF Lv.whole;rw[h1,ht];unfold Lv.tot Lv.s
 cases e:l.sg with
 | none =>
  dsimp only;rw[jsb];have:=@joa (cur l.ph);rw[hc.len] at this;exact this
 | some t=>obtain⟨T,b,p⟩:=t;rfl
def OsOk.take{n:Nat}{l:Lv}{o:OS}{f:Fm}(h:OsOk n l o)(hw:l.wait):match opd l f with
  | .ok l'=>jmw o f=none/\OsOk n l' (takeF o f)
  | .error p=>jmw o f=some p:=by
 obtain⟨h1,h2,h3⟩:=h;unfold Lv.wait at hw;unfold opd jmw takeF
 cases e:l.ph with
 | one F=>rw[e] at hw;exact hw.elim
 | two F p G=>rw[e] at hw;exact hw.elim
 | emp =>
  rw[e] at h3;have hs:o.star=none:=h3.1;dsimp only;rw[hs];exact⟨rfl,h1,h2,rfl,by show mulF f o.sign=_;rw[h2];rfl⟩
 | str F p =>
  rw[e] at h3;have hs:o.star=some p:=h3.1;dsimp only;rw[hs];dsimp only;rw[h3.2,jwh F (s_or l)]
  by_cases q:(jau F || jau f)=true
  ·rw[if_pos q,if_pos q];exact⟨rfl,h1,h2,jzh F f l.s⟩
  ·rw[if_neg q,if_neg q]
def OsOk.sign{n w:Nat}{l:Lv}{o:OS}{c:Nat}{p:Int}(h:OsOk n l o)(hc:jc3 (St [c])=true)(hb:l.behind\/c=45/\l.ph=.emp/\l.sg=none)(B:LvB n w l):OsOk n (signL n l c p) (signF o (St [c]) p):=by
 have tw:c≠42->(match l.ph with|.emp=>jkf n|_=>l.whole)=wholeF o:=fun jg=>by
  rcases hb with hb|⟨rfl,he,hs⟩
  ·rw[h.whole hb B]
   split
   ·rename_i e;unfold Lv.behind at hb;rw[e] at hb;exact hb.elim
   ·rfl
  ·have h3:=h.ph;rw[he] at h3;rw[he,h3.2 hs];have:=@joa (jkf n);rw[(FB.zero n).len] at this;exact this.symm
 unfold signL;rcases jcu hc with rfl|rfl|rfl
 ·rw[if_neg (by decide),<- jyo,jtu,tw (by decide)];exact⟨rfl,rfl,rfl,fun z=>nomatch z⟩
 ·rw[if_neg (by decide),<- jkz,jq6,tw (by decide)];exact⟨rfl,rfl,rfl,fun z=>nomatch z⟩
 ·rw[if_pos rfl,<- jyp,jtv];refine⟨h.tot,h.sgn,rfl,?_⟩;have h3:=h.ph;rcases hb with hb|⟨z,_⟩
  ·unfold Lv.behind at hb;show o.term=mulF (cur l.ph) l.s
   split at hb
   ·rename_i F e;rw[e] at h3;rw[e];exact h3.2
   ·rename_i F q G e;rw[e] at h3;rw[e];exact h3
   ·exact hb.elim
  ·cases z
def KL:Nat:=80000
section
variable (aa:LL)
inductive Go:List (List Nat×Int)->List Lv->Except Int Fm->Prop
 | done (l:Lv) (hb:l.behind) (B:LvB aa.length KL l):Go [] [l] (.ok l.whole)
 | opn (p:Int) (ts:List (List Nat×Int)) (ls:List Lv) (res:Except Int Fm) (h:Go ts (new p::ls) res):Go (([40],p)::ts) ls res
 | wrd (a:List Nat) (p:Int) (ts:List (List Nat×Int)) (l l':Lv) (r:List Lv) (res:Except Int Fm) (ha:Word a) (hl:a.length<=40) (hf:FB aa.length 4 (frmW aa a)) (hw:l.wait) (B:LvB aa.length KL l) (ho:opd l (frmW aa a)=.ok l') (h:Go ts (l'::r) res):Go ((a,p)::ts) (l::r) res
 | wrdE (a:List Nat) (p q:Int) (d:Nat) (ts:List (List Nat×Int)) (l:Lv) (r:List Lv) (ha:Word a) (hl:a.length<=40) (hf:FB aa.length 4 (frmW aa a)) (hw:l.wait) (B:LvB aa.length KL l) (ho:opd l (frmW aa a)=.error q) (h:Acc (ts.map (·.1)) "behind" d):Go ((a,p)::ts) (l::r) (.error q)
 | cls (p:Int) (ts:List (List Nat×Int)) (l m m':Lv) (r:List Lv) (res:Except Int Fm) (hb:l.behind) (hw:m.wait) (B:LvB aa.length KL l) (B':LvB aa.length KL m) (ho:opd m l.whole=.ok m') (h:Go ts (m'::r) res):Go (([41],p)::ts) (l::m::r) res
 | clsE (p q:Int) (d:Nat) (ts:List (List Nat×Int)) (l m:Lv) (r:List Lv) (hb:l.behind) (hw:m.wait) (B:LvB aa.length KL l) (B':LvB aa.length KL m) (ho:opd m l.whole=.error q) (h:Acc (ts.map (·.1)) "behind" d):Go (([41],p)::ts) (l::m::r) (.error q)
 | neg (p:Int) (ts:List (List Nat×Int)) (l:Lv) (r:List Lv) (res:Except Int Fm) (he:l.ph=.emp) (hs:l.sg=none) (B:LvB aa.length KL l) (h:Go ts (signL aa.length l 45 p::r) res):Go (([45],p)::ts) (l::r) res
 | bin (c:Nat) (p:Int) (ts:List (List Nat×Int)) (l:Lv) (r:List Lv) (res:Except Int Fm) (hc:jc3 (St [c])=true) (hb:l.behind) (B:LvB aa.length KL l) (h:Go ts (signL aa.length l c p::r) res):Go (([c],p)::ts) (l::r) res
end
def jea{l:Lv}(h:l.behind):l.ph≠.emp:=fun z=>by unfold Lv.behind at h;rw[z] at h;exact h
def jv5{l l':Lv}{f:Fm}(hw:l.wait)(h:opd l f=.ok l'):l'.behind:=by
 unfold opd at h;unfold Lv.wait at hw
 cases e:l.ph with
 | emp=>rw[e] at h;cases h;exact trivial
 | one _=>rw[e] at hw;exact hw.elim
 | two _ _ _=>rw[e] at hw;exact hw.elim
 | str F p =>
  rw[e] at h;dsimp only at h
  split at h
  ·cases h;exact trivial
  ·cases h
def jpu(n:Nat){l:Lv}{r:List Lv}(c:Nat)(p:Int)(hr:∀ m∈r,m.wait):Fits (signL n l c p::r) "factor" r.length:=by
 refine .fac _ r ?_ ?_ hr
 ·unfold signL;split<;>exact trivial
 ·unfold signL
  split
  ·intro z;cases z
  ·intro _ z;cases z
def LvB.mono{n j k:Nat}{l:Lv}(h:LvB n j l)(hk:j<=k):LvB n k l:=by
 obtain⟨a,b,hw,h,hs⟩:=h;exact⟨a,b,by omega,h,hs⟩
def go_of{aa:LL}{ws:LL}{wt:Str}{d:Nat}(A:Acc ws wt d):∀ (ts:List (List Nat×Int)) (ls:List Lv) (w:Nat),ts.map (·.1)=ws->Fits ls wt d->LsB aa.length ls w->w+5*ts.length<=KL->(∀ q∈ts,q.1.length<=40/\(Word q.1->FB aa.length 4 (frmW aa q.1)))->∃ res,Go aa ts ls res:=by
 induction A with
 | done =>
  intro ts ls w e F B hk hT;rw[List.map_eq_nil_iff] at e;subst e;generalize b7:(Str.ofString "behind")=wt at F;generalize hd:(0:Nat)=d at F
  cases F with
  | beg=>exact absurd b7 (by decide +kernel)
  | fac=>exact absurd b7 (by decide +kernel)
  | beh l r h hr =>
   cases r with
   | cons _ _=>cases hd
   | nil =>
    obtain⟨a,b,hw,h1,h2⟩:=B;exact⟨_,.done l h (h1.mono (by simp at hk;omega))⟩
 | @word a ts0 wt d ha b7 A ih =>
  intro ts ls w e F B hk hT;obtain⟨q,ts,rfl⟩:∃ q t,ts=q::t:=by cases ts with|nil=>cases e|cons q t=>exact⟨q,t,rfl⟩
  obtain⟨a',p⟩:=q;simp only[List.map_cons,List.cons.injEq] at e;obtain⟨rfl,e⟩:=e;have cv:=fun q hq=>hT q (zaw _ hq)
  obtain⟨h40,de⟩:=hT _ zaa;have de:=de ha;rw[List.length_cons] at hk;obtain⟨l,r,rfl,hw,hr,hd⟩:∃ l r,ls=l::r/\l.wait/\(∀ m∈r,m.wait)/\d=r.length:=by
   cases F with
   | beg l r h hs hr=>exact⟨l,r,rfl,by unfold Lv.wait;rw[h];exact trivial,hr,rfl⟩
   | fac l r h hs hr=>exact⟨l,r,rfl,h,hr,rfl⟩
   | beh l r h hr=>exact absurd b7 (by decide +kernel)
  obtain⟨x,y,hxy,h1,h2⟩:=B
  cases ho:opd l (frmW aa a') with
  | error q=>exact⟨_,.wrdE a' p q d ts l r ha h40 de hw (h1.mono (by omega)) ho (by rw[e];exact A)⟩
  | ok l' =>
   obtain⟨res,g⟩:=ih ts (l'::r) (w+4) e (by rw[hd];exact .beh l' r (jv5 hw ho) hr) ⟨x+4,y,by omega,h1.opd de ho,h2⟩ (by omega) cv;exact⟨res,.wrd a' p ts l l' r res ha h40 de hw (h1.mono (by omega)) ho g⟩
 | @opn ts0 wt d b7 A ih =>
  intro ts ls w e F B hk hT;obtain⟨q,ts,rfl⟩:∃ q t,ts=q::t:=by cases ts with|nil=>cases e|cons q t=>exact⟨q,t,rfl⟩
  obtain⟨a',p⟩:=q;simp only[List.map_cons,List.cons.injEq] at e;obtain⟨rfl,e⟩:=e;have cv:=fun q hq=>hT q (zaw _ hq)
  rw[List.length_cons] at hk;obtain⟨hr,hd⟩:(∀ m∈ls,m.wait)/\d+1=ls.length:=by
   cases F with
   | beg l r h hs hr=>exact⟨fun m hm=>by rcases List.mem_cons.mp hm with rfl|hm;unfold Lv.wait;rw[h];exact trivial;exact hr m hm,rfl⟩
   | fac l r h hs hr=>exact⟨fun m hm=>by rcases List.mem_cons.mp hm with rfl|hm;exact h;exact hr m hm,rfl⟩
   | beh l r h hr=>exact absurd b7 (by decide +kernel)
  obtain⟨res,g⟩:=ih ts (new p::ls) w e (by rw[hd];exact .beg _ ls rfl rfl hr) ⟨0,w,by omega,LvB.new _ _ p,B⟩ (by omega) cv;exact⟨res,.opn p ts ls res g⟩
 | @cls ts0 d A ih =>
  intro ts ls w e F B hk hT;obtain⟨q,ts,rfl⟩:∃ q t,ts=q::t:=by cases ts with|nil=>cases e|cons q t=>exact⟨q,t,rfl⟩
  obtain⟨a',p⟩:=q;simp only[List.map_cons,List.cons.injEq] at e;obtain⟨rfl,e⟩:=e;have cv:=fun q hq=>hT q (zaw _ hq)
  rw[List.length_cons] at hk;obtain⟨l,m,r,rfl,hb,hw,hr,hd⟩:∃ l m r,ls=l::m::r/\l.behind/\m.wait/\(∀ m∈r,m.wait)/\d=r.length:=by
   generalize b7:(Str.ofString "behind")=wt at F;generalize je:d+1=d' at F
   cases F with
   | beg=>exact absurd b7 (by decide +kernel)
   | fac=>exact absurd b7 (by decide +kernel)
   | beh l r h hr =>
    cases r with
    | nil=>cases je
    | cons m r=>exact⟨l,m,r,rfl,h,hr m zaa,fun x hx=>hr x (zaw _ hx),by simpa using je⟩
  obtain⟨x,y,hxy,h1,x',y',hxy',h1',h2'⟩:=B;have du:=h1.whole (jea hb)
  cases ho:opd m l.whole with
  | error q=>exact⟨_,.clsE p q d ts l m r hb hw (h1.mono (by omega)) (h1'.mono (by omega)) ho (by rw[e];exact A)⟩
  | ok m' =>
   obtain⟨res,g⟩:=ih ts (m'::r) (w+1) e (by rw[hd];exact .beh m' r (jv5 hw ho) hr) ⟨x'+(x+1),y',by omega,h1'.opd du ho,h2'⟩ (by omega) cv;exact⟨res,.cls p ts l m m' r res hb hw (h1.mono (by omega)) (h1'.mono (by omega)) ho g⟩
 | @neg ts0 d A ih =>
  intro ts ls w e F B hk hT;obtain⟨q,ts,rfl⟩:∃ q t,ts=q::t:=by cases ts with|nil=>cases e|cons q t=>exact⟨q,t,rfl⟩
  obtain⟨a',p⟩:=q;simp only[List.map_cons,List.cons.injEq] at e;obtain⟨rfl,e⟩:=e;have cv:=fun q hq=>hT q (zaw _ hq)
  rw[List.length_cons] at hk;obtain⟨l,r,rfl,he,hs,hr,hd⟩:∃ l r,ls=l::r/\l.ph=.emp/\l.sg=none/\(∀ m∈r,m.wait)/\d=r.length:=by
   generalize b7:(Str.ofString "beginning")=wt at F
   cases F with
   | beg l r h hs hr=>exact⟨l,r,rfl,h,hs,hr,rfl⟩
   | fac=>exact absurd b7 (by decide +kernel)
   | beh=>exact absurd b7 (by decide +kernel)
  obtain⟨x,y,hxy,h1,h2⟩:=B;obtain⟨res,g⟩:=ih ts (signL aa.length l 45 p::r) (w+1) e (by rw[hd];exact jpu _ _ _ hr) ⟨x+1,y,by omega,h1.sign 45 p (fun z=>by cases z),h2⟩ (by omega) cv;exact⟨res,.neg p ts l r res he hs (h1.mono (by omega)) g⟩
 | @bin c ts0 d hc A ih =>
  intro ts ls w e F B hk hT;obtain⟨q,ts,rfl⟩:∃ q t,ts=q::t:=by cases ts with|nil=>cases e|cons q t=>exact⟨q,t,rfl⟩
  obtain⟨a',p⟩:=q;simp only[List.map_cons,List.cons.injEq] at e;obtain⟨rfl,e⟩:=e;have cv:=fun q hq=>hT q (zaw _ hq)
  rw[List.length_cons] at hk;obtain⟨l,r,rfl,hb,hr,hd⟩:∃ l r,ls=l::r/\l.behind/\(∀ m∈r,m.wait)/\d=r.length:=by
   generalize b7:(Str.ofString "behind")=wt at F
   cases F with
   | beg=>exact absurd b7 (by decide +kernel)
   | fac=>exact absurd b7 (by decide +kernel)
   | beh l r h hr=>exact⟨l,r,rfl,h,hr,rfl⟩
  obtain⟨x,y,hxy,h1,h2⟩:=B;obtain⟨res,g⟩:=ih ts (signL aa.length l c p::r) (w+1) e (by rw[hd];exact jpu _ _ _ hr) ⟨x+1,y,by omega,h1.sign c p (fun _=>jea hb),h2⟩ (by omega) cv;exact⟨res,.bin c p ts l r res hc hb (h1.mono (by omega)) g⟩
end
section
def tkD(q:List Nat×Int):D:=.tup [sT q.1,.int q.2]
def All2(n:Nat):List Lv->List OS->Prop
 | [],[]=>True
 | l::r,o::os=>OsOk n l o/\All2 n r os
 | _,_=>False
def okT{n:Nat}{l:Lv}{o:OS}{f:Fm}(h:OsOk n l o)(hw:l.wait)(B:LvB n KL l)(hf:FB n (KL+1) f):OkT n o f:=by
 refine⟨hf.len,hf.bf.mono (by decide),by rw[h.sgn];exact jHd (s_or l),fun hs=>?_⟩;have h3:=h.ph;obtain⟨a,b,hab,hB,_⟩:=B;unfold Lv.wait at hw
 cases e:l.ph with
 | emp=>rw[e] at h3;exact absurd h3.1 hs
 | one _=>rw[e] at hw;exact hw.elim
 | two _ _ _=>rw[e] at hw;exact hw.elim
 | str F p =>
  rw[e] at h3 hB;have:=(hB.cur (fun z=>nomatch z)).sg (s_or l);rw[h3.2];exact⟨this.bf.mono (by have:KL<=KB:=(by decide);omega),this.len⟩
def jIm(aa:LL)(pc:D)(res:Except Int Fm)(v:Option (Except XD Out×Sto)):Prop:=match res with
 | .ok f=>∃ Y' i Ω' o,v=some (.ok (.nx Y'),Ω')/\RS1 (.lst (nmD aa)) pc [i] Y'/\Ω'[i]? = some (osO o)/\wholeF o=f/\o.total.1.length=aa.length
 | .error p=>∃ Ω',v=some (.error (xdO Ω'.length),errs Ω' false p)
def jlj{n w:Nat}{l:Lv}{o:OS}(h:OsOk n l o)(B:LvB n w l):o.total.1.length=n:=by
 rw[h.tot];unfold Lv.tot;obtain⟨a,b,hab,hB,hs⟩:=B
 cases e:l.sg with
 | none=>simp[jkf]
 | some t=>obtain⟨T,c,p⟩:=t;exact (hs T c p e).len
def jry(n:Nat)(p:Int):OsOk n (new p) (fresh n):=⟨rfl,rfl,rfl,fun _=>rfl⟩
def jwk{aa:LL}(hn:aa.length<=1000){pc:D}{ts:List (List Nat×Int)}{ls:List Lv}{res:Except Int Fm}(G:Go aa ts ls res) :
  ∀ (os:List OS) (r:List Nat) (Ω:Sto) (Y:DSt),All2 aa.length ls os->Stk Ω r os->RS1 (.lst (nmD aa)) pc r Y->r.length+ts.length<=1000000->jIm aa pc res (forE jbm (je4 3 4) (ts.map tkD) Y Ω):=by
 have hl:(nmD aa).length=aa.length:=by simp[nmD]
 have K1:∀ {f:Fm},FB aa.length 4 f->FB aa.length (KL+1) f:=fun h=>h.mono (by decide)
 induction G with
 | done l hb B =>
  intro os r Ω Y A S R hz;obtain⟨o,os,rfl⟩:∃ o os',os=o::os':=by cases os with|nil=>exact A.elim|cons o os=>exact⟨o,os,rfl⟩
  obtain rfl:os=[]:=by cases os with|nil=>rfl|cons _ _=>exact A.2.elim
  obtain⟨i,r1,rfl⟩:=S.inv;obtain rfl:r1=[]:=by cases r1 with|nil=>rfl|cons _ _=>exact S.2.2.elim
  exact⟨Y,i,Ω,o,rfl,R,S.1,A.1.whole hb B,jlj A.1 B⟩
 | opn p ts ls res h ih =>
  intro os r Ω Y A S R hz;obtain⟨x,y,z,rfl⟩:=R;rw[List.length_cons] at hz;obtain⟨e,S'⟩:=jzt (pc:=pc) (z:=z) (p:=p) hn hl S (by omega);rw[List.map_cons,jc1 (Y1:=[oN aa,some pc,some (idsD r),some (.str "("),oI p,z]) rfl e];exact ih (fresh aa.length::os) _ _ _ ⟨jry _ p,A⟩ S' ⟨_,_,_,rfl⟩ (by rw[List.length_cons];omega)
 | wrd a p ts l l' r0 res ha h40 hf hw B ho h ih =>
  intro os r Ω Y A S R hz;obtain⟨o,os,rfl⟩:∃ o os',os=o::os':=by cases os with|nil=>exact A.elim|cons o os=>exact⟨o,os,rfl⟩
  obtain⟨i,r1,rfl⟩:=S.inv;obtain⟨x,y,z,rfl⟩:=R;have W:=jH0 hn ha h40;have t:=A.1.take (f:=frmW aa a) hw;rw[ho] at t;have e:=jsv (pc:=pc) (z:=z) (p:=p) W.p1 W.p2 W.p3 (by rw[W.fw,jqe]) hn (okT A.1 hw B (K1 hf)) S;unfold jpy at e;rw[t.1] at e;rw[List.map_cons,jc1 rfl e];rw[List.length_cons (a:=(a,p))] at hz;exact ih (takeF o (frmW aa a)::os) _ _ _ ⟨t.2,A.2⟩ S.took ⟨_,_,_,rfl⟩ (by omega)
 | wrdE a p q d ts l r0 ha h40 hf hw B ho h =>
  intro os r Ω Y A S R hz;obtain⟨o,os,rfl⟩:∃ o os',os=o::os':=by cases os with|nil=>exact A.elim|cons o os=>exact⟨o,os,rfl⟩
  obtain⟨i,r1,rfl⟩:=S.inv;obtain⟨x,y,z,rfl⟩:=R;have W:=jH0 hn ha h40;have t:=A.1.take (f:=frmW aa a) hw;rw[ho] at t;have e:=jsv (pc:=pc) (z:=z) (p:=p) W.p1 W.p2 W.p3 (by rw[W.fw,jqe]) hn (okT A.1 hw B (K1 hf)) S;unfold jpy at e;rw[show jmw o (frmW aa a)=some q from t] at e;exact⟨Ω,by rw[List.map_cons,jrw rfl e]⟩
 | cls p ts l m m' r0 res hb hw B B' ho h ih =>
  intro os r Ω Y A S R hz;obtain⟨o,os,rfl⟩:∃ o os',os=o::os':=by cases os with|nil=>exact A.elim|cons o os=>exact⟨o,os,rfl⟩
  obtain⟨b,os,rfl⟩:∃ o os',os=o::os':=by cases os with|nil=>exact A.2.elim|cons o os=>exact⟨o,os,rfl⟩
  obtain⟨i,r1,rfl⟩:=S.inv;obtain⟨j,r2,rfl⟩:=Stk.inv S.2.2;obtain⟨x,y,z,rfl⟩:=R;have wh:=A.1.whole hb B;have t:=A.2.1.take (f:=wholeF o) hw;rw[wh,ho] at t;have e:=jst (nm:=.lst (nmD aa)) (pc:=pc) (z:=z) (p:=p) hn (jlj A.1 B) (by rw[wh];exact okT A.2.1 hw B' (B.whole (jea hb))) S;unfold jpy at e;rw[wh,t.1] at e;have S':Stk (Ω.set j (osO (takeF b l.whole))) (j::r2) (takeF b l.whole::os):=Stk.took S.2.2;rw[List.map_cons,jc1 rfl e];rw[List.length_cons (a:=(([41],p):List Nat×Int)),List.length_cons] at hz;exact ih (takeF b l.whole::os) _ _ _ ⟨t.2,A.2.2⟩ S' ⟨_,_,_,rfl⟩ (by omega)
 | clsE p q d ts l m r0 hb hw B B' ho h =>
  intro os r Ω Y A S R hz;obtain⟨o,os,rfl⟩:∃ o os',os=o::os':=by cases os with|nil=>exact A.elim|cons o os=>exact⟨o,os,rfl⟩
  obtain⟨b,os,rfl⟩:∃ o os',os=o::os':=by cases os with|nil=>exact A.2.elim|cons o os=>exact⟨o,os,rfl⟩
  obtain⟨i,r1,rfl⟩:=S.inv;obtain⟨j,r2,rfl⟩:=Stk.inv S.2.2;obtain⟨x,y,z,rfl⟩:=R;have wh:=A.1.whole hb B;have t:=A.2.1.take (f:=wholeF o) hw;rw[wh,ho] at t;have e:=jst (nm:=.lst (nmD aa)) (pc:=pc) (z:=z) (p:=p) hn (jlj A.1 B) (by rw[wh];exact okT A.2.1 hw B' (B.whole (jea hb))) S;unfold jpy at e;rw[wh,show jmw b l.whole=some q from t] at e;exact⟨Ω,by rw[List.map_cons,jrw rfl e]⟩
 | neg p ts l r0 res he hs B h ih =>
  intro os r Ω Y A S R hz;obtain⟨o,os,rfl⟩:∃ o os',os=o::os':=by cases os with|nil=>exact A.elim|cons o os=>exact⟨o,os,rfl⟩
  obtain⟨i,r1,rfl⟩:=S.inv;obtain⟨x,y,z,rfl⟩:=R;have hc:jc3 (St [45])=true:=by rw[<- jkz];exact jyk
  obtain⟨e,S'⟩:=jsu (nm:=.lst (nmD aa)) (pc:=pc) (z:=z) (p:=p) hc hn (jlj A.1 B) S;rw[List.map_cons,jc1 rfl e];rw[List.length_cons (a:=(([45],p):List Nat×Int))] at hz;exact ih (signF o (St [45]) p::os) _ _ _ ⟨A.1.sign hc (.inr ⟨rfl,he,hs⟩) B,A.2⟩ S' ⟨_,_,_,rfl⟩ (by omega)
 | bin c p ts l r0 res hc hb B h ih =>
  intro os r Ω Y A S R hz;obtain⟨o,os,rfl⟩:∃ o os',os=o::os':=by cases os with|nil=>exact A.elim|cons o os=>exact⟨o,os,rfl⟩
  obtain⟨i,r1,rfl⟩:=S.inv;obtain⟨x,y,z,rfl⟩:=R;obtain⟨e,S'⟩:=jsu (nm:=.lst (nmD aa)) (pc:=pc) (z:=z) (p:=p) hc hn (jlj A.1 B) S;rw[List.map_cons,jc1 rfl e];rw[List.length_cons (a:=(([c],p):List Nat×Int))] at hz;exact ih (signF o (St [c]) p::os) _ _ _ ⟨A.1.sign hc (.inl hb) B,A.2⟩ S' ⟨_,_,_,rfl⟩ (by omega)
def RecR(res:Except Int Fm)(v:Option (Except XD D×Sto)):Prop:=match res with
 | .ok f=>∃ Ω',v=some (.ok (fm f),Ω')
 | .error p=>∃ Ω',v=some (.error (xdO Ω'.length),errs Ω' false p)
def jq0{aa:LL}(hn:aa.length<=1000){ts:List (List Nat×Int)}{q:Int}{res:Except Int Fm}(G:Go aa ts [new q] res)(hz:ts.length<=100000)(Ω:Sto):RecR res (jd0 [.lst (nmD aa),.lst (ts.map tkD)] Ω):=by
 have hl:(nmD aa).length=aa.length:=by simp[nmD]
 unfold jd0;rw[jmd];have m:=jvi (Ω:=Ω) hn;have e1:eSet 2 (mL jbq (jfu (jo1 "OpenSum" jaz (lF (jac (fL kLen (jac (vR 0) fNil)) fNil))) (lF fNil))) [oN aa,oL (ts.map tkD),none,none,none,none] Ω=some (.ok (.nx [oN aa,oL (ts.map tkD),some (idsD [Ω.length]),none,none,none]),Ω++[osO (fresh aa.length)]):=by
  have l:lF (jac (fL kLen (jac (vR 0) fNil)) fNil) [oN aa,oL (ts.map tkD),none,none,none,none] Ω=some (.ok [.int aa.length],Ω):=by simp only[stsA,stpA,jj6,hl]
  have e:jo1 "OpenSum" jaz (lF (jac (fL kLen (jac (vR 0) fNil)) fNil)) [oN aa,oL (ts.map tkD),none,none,none,none] Ω=some (.ok (.obj Ω.length),Ω++[osO (fresh aa.length)]):=by
   rw[jw1,s_b,l,jho,m]
  rw[jG9,s_b,s_L,s_b,jA7,s_b,e,jho];rfl
 have S0:Stk (Ω++[osO (fresh aa.length)]) [Ω.length] [fresh aa.length]:=⟨by simp,by simp,trivial⟩
 have pl:=jwk hn (pc:=.lst (ts.map tkD)) G [fresh aa.length] [Ω.length] _ _ ⟨jry _ q,trivial⟩ S0 ⟨none,none,none,rfl⟩ (by simp;omega);have e4:eFor (lF (jed (vR 1))) (je4 3 4) jbm [oN aa,oL (ts.map tkD),some (idsD [Ω.length]),none,none,none] (Ω++[osO (fresh aa.length)])=forE jbm (je4 3 4) (ts.map tkD) [oN aa,oL (ts.map tkD),some (idsD [Ω.length]),none,none,none] (Ω++[osO (fresh aa.length)]):=by
  rw[jG5,s_b];have i0:lF (jed (vR 1)) [oN aa,oL (ts.map tkD),some (idsD [Ω.length]),none,none,none] (Ω++[osO (fresh aa.length)])=some (.ok (ts.map tkD),Ω++[osO (fresh aa.length)]):=by simp only[stsA,stpA]
  rw[i0,jho]
 show RecR res (((jhv [oN aa,oL (ts.map tkD),none,none,none,none]).b outE) Ω);unfold jhv
 cases res with
 | error p =>
  obtain⟨Ω',pl⟩:=pl;exact⟨Ω',b_err (by rw[eseq e1];exact jx6 (by rw[e4,pl]))⟩
 | ok f =>
  obtain⟨Y',i,Ω',o,e2,⟨x,y,z,rfl⟩,hi,wf,tl⟩:=pl;have w:=jn6 hi (by omega);have y2:=fun (fl:DSt->MS (List D)) (Y:DSt)=>jk1 (m:=ja4) (fl:=fl) (Y:=Y) (f:="whole") hi rfl
  have e3:eRet (jj7 "OpenSum" "whole" ja4 (lF (f2 gIx (vR 2) (cI 0))) (lF fNil)) [oN aa,oL (ts.map tkD),some (idsD [i]),x,y,z] Ω'=some (.ok (.rt (fm f)),Ω'):=by
   have i0:lF (f2 gIx (vR 2) (cI 0)) [oN aa,oL (ts.map tkD),some (idsD [i]),x,y,z] Ω'=some (.ok (.obj i),Ω'):=by unfold idsD;simp only[stsA,stpA,List.reverse_cons,List.reverse_nil]
   rw[jG8,s_b,jA9,s_b,i0,jho];dsimp only;rw[y2,s_b,s_lF,jFb,s_lp,jho,w,jho,wf];rfl
  refine⟨Ω',?_⟩;rw[s_b,jD1,s_b,e1,jho,jq5,jD1,s_b,e4,e2,jho,jq5,e3,jho];rfl
end
section
def md(q:Nat×Int):D:=.tup [sT [q.1],.int q.2]
def LS(vs:List Fm)(ms:List (Nat×Int)):Sto:=[.lst (vs.map fm),.lst (ms.map md)]
def jvb{α:Type}(xs:List α)(x:α):(xs++[x])[(xs++[x]).length-1]? = some x:=by simp
def jGt(vs:List Fm)(x:Fm)(ms:List (Nat×Int)):popL (.obj 0) (LS (vs++[x]) ms)=some (.ok (fm x),LS vs ms):=by
 unfold popL LS;rw[List.map_append];show Option.map _ ((vs.map fm++[fm x])[(vs.map fm++[fm x]).length-1]?)=_;rw[jvb,Option.map_some,show (vs.map fm++List.map fm [x]).dropLast=vs.map fm from List.dropLast_concat];rfl
def jGs(vs:List Fm)(x:Nat×Int)(ms:List (Nat×Int)):popL (.obj 1) (LS vs (ms++[x]))=some (.ok (md x),LS vs ms):=by
 unfold popL LS;rw[List.map_append];show Option.map _ ((ms.map md++[md x])[(ms.map md++[md x]).length-1]?)=_;rw[jvb,Option.map_some,show (ms.map md++List.map md [x]).dropLast=ms.map md from List.dropLast_concat];rfl
def small{n:Nat}(h:n<=1000):n<sizeLine:=by rw[sizeLine_eq];exact Nat.lt_of_le_of_lt h (by decide)
def jxu{vs:List Fm}{x:Fm}{ms:List (Nat×Int)}{Y:DSt}{fo:DSt->MS D}{fa:DSt->MS D}(h1:fo Y (LS vs ms)=some (.ok (.obj 0),LS vs ms))(h2:fa Y (LS vs ms)=some (.ok (fm x),LS vs ms))(hl:vs.length<=1000):je9 (jjl fo fa) Y (LS vs ms)=some (.ok (.nx Y),LS (vs++[x]) ms):=by
 unfold je9 jjl;refine (MS.b_ok (a:=.non) (Ω1:=LS (vs++[x]) ms) ?_).trans rfl;rw[MS.b_ok h1,MS.b_ok (a:=.obj 0) (Ω1:=LS vs ms) rfl,MS.b_ok h2];show Option.map _ (gApL (fm x) (vs.map fm))=_;unfold gApL;rw[if_pos (by rw[zav];exact small hl)];unfold LS;rw[List.map_append];rfl
def jBn{vs:List Fm}{x:Nat×Int}{ms:List (Nat×Int)}{Y:DSt}{fo:DSt->MS D}{fa:DSt->MS D}(h1:fo Y (LS vs ms)=some (.ok (.obj 1),LS vs ms))(h2:fa Y (LS vs ms)=some (.ok (md x),LS vs ms))(hl:ms.length<=1000):je9 (jjl fo fa) Y (LS vs ms)=some (.ok (.nx Y),LS vs (ms++[x])):=by
 unfold je9 jjl;refine (MS.b_ok (a:=.non) (Ω1:=LS vs (ms++[x])) ?_).trans rfl;rw[MS.b_ok h1,MS.b_ok (a:=.obj 1) (Ω1:=LS vs ms) rfl,MS.b_ok h2];show Option.map _ (gApL (md x) (ms.map md))=_;unfold gApL;rw[if_pos (by rw[zav];exact small hl)];unfold LS;rw[List.map_append];rfl
theorem jmr{t:DSt->M Bool}{fe:DSt->M D}{q:Int->Bool}{c:DSt}(ht:∀ n:Int,t (oI n::c)=oK (q n))(he:∀ n:Int,fe (oI n::c)=oK (.int n)):∀ (ns:List Int) (x:Option D),jfr (DL.gName 0) t fe (ns.map D.int) (x::c)=some ((ns.filter q).map D.int)
 | [],_=>rfl
 | n::ns,x=>by
  rw[List.map_cons];unfold jfr;rw[show DL.gName 0 (.int n) (x::c)=some (oI n::c) from rfl];dsimp only;rw[ht n,List.filter_cons]
  cases q n with
  | true=>dsimp only;rw[he n,if_pos rfl];dsimp only;rw[jmr ht he ns];rfl
  | false=>rw[if_neg (by decide)];exact jmr ht he ns _
def juw(f:Fm):(decide ((0:Int)<(f.1.filter fun c=>!(c == 0)).length))=!jau f:=by
 unfold jau;rw[Bool.eq_iff_iff,decide_eq_true_iff,Bool.not_eq_true',List.all_eq_false];constructor
 ·intro h;have:0<(f.1.filter fun c=>!(c == 0)).length:=by omega
  obtain⟨c,hc⟩:=List.exists_mem_of_length_pos this;obtain⟨h1,h2⟩:=List.mem_filter.mp hc;exact⟨c,h1,by simpa using h2⟩
 ·rintro⟨c,h1,h2⟩;have:0<(f.1.filter fun c=>!(c == 0)).length:=List.length_pos_of_mem (List.mem_filter.mpr ⟨h1,by simpa using h2⟩);omega
def jni{i:Nat}{Y:DSt}{f:Fm}{fe:DSt->M D}(h:(Y[i]?).join=of f)(hl:f.1.length<=1000)(he:fe=vR 0):t2 gGt (fL kLen (jac (jha 1 [] (jed (f2 gIx (vR i) (cI 0))) (DL.gName 0) (t2 gNe (vR 0) (cI 0)) fe) fNil)) (cI 0) Y=oK (!jau f):=by
 subst he;have e:=jmr (c:=[]) (t:=t2 gNe (vR 0) (cI 0)) (fe:=vR 0) (q:=fun c=>!(c == 0)) (fun n=>by simp only[stpA];rfl) (fun n=>rfl) f.1 none;have e2:gIx (fm f) (.int 0)=some (.tup (f.1.map .int)):=by unfold fm;simp
 have l:kLen [.lst ((f.1.filter fun c=>!(c == 0)).map D.int)]=some (.int (f.1.filter fun c=>!(c == 0)).length):=by
  rw[jj6,zav]
 simp only[stpA,h,e2,e,List.replicate_one,List.map_nil,List.append_nil,List.replicate,jj0 (ds:=(f.1.filter fun c=>!(c == 0)).map D.int) (by rw[zav];exact zdy (List.length_filter_le _ _) hl),l];rw[<- juw];rfl
def fm0(f:Fm):gIx (fm f) (.int 0)=some (.tup (f.1.map .int)):=by unfold fm;simp
def fm1(f:Fm):gIx (fm f) (.int 1)=oI f.2:=by unfold fm;simp
section
variable {vs:List Fm}{ms:List (Nat×Int)}{F G:Fm}{n:Nat}{p:Int}
def jyy(G:Fm){a:Fm}{k:Nat}(ha:Bt k a.2)(hG:BF k G)(hk:k<=100000):jfr (DL.gName 0) tYes jep (G.1.map D.int) [none,of a]=some (G.1.map fun c=>.int (a.2*c)) :=
 jg4 (c:=[of a]) (K:=D.int) (F:=fun c=>.int (a.2*c)) G.1 none (fun c hc=>by unfold jep;simp only[stpA,Nat.reduceSub,fm1,jdl ha (hG.1 c hc) hk hk];rfl)
def pop3{q:Nat×Int}{g:DSt->MS Out}:eSeq (eAsg (je4 2 3) (jjm (lF (vR 1)))) (eSeq (eSet 4 (jjm (lF (vR 0)))) (eSeq (eSet 5 (jjm (lF (vR 0)))) g)) [some (.obj 0),some (.obj 1),none,none,none,none,none,none] (LS (vs++[F,G]) (ms++[q]))=g [some (.obj 0),some (.obj 1),some (sT [q.1]),oI q.2,of G,of F,none,none] (LS vs ms):=by
 rw[eseq (Y':=[some (.obj 0),some (.obj 1),some (sT [q.1]),oI q.2,none,none,none,none]) (Ω':=LS (vs++[F,G]) ms) (by
  unfold eAsg jjm;rw[MS.b_ok (a:=md q) (Ω1:=LS (vs++[F,G]) ms) (by rw[MS.b_ok (a:=.obj 1) (Ω1:=LS (vs++[F,G]) (ms++[q])) rfl,jGs])];rfl)]
 rw[eseq (Y':=[some (.obj 0),some (.obj 1),some (sT [q.1]),oI q.2,of G,none,none,none]) (Ω':=LS (vs++[F]) ms) (by
  unfold eSet jjm;rw[MS.b_ok (a:=fm G) (Ω1:=LS (vs++[F]) ms) (by rw[MS.b_ok (a:=.obj 0) (Ω1:=LS (vs++[F,G]) ms) rfl,show vs++[F,G]=(vs++[F])++[G] by simp,jGt])];rfl)]
 rw[eseq (Y':=[some (.obj 0),some (.obj 1),some (sT [q.1]),oI q.2,of G,of F,none,none]) (Ω':=LS vs ms) (by
  unfold eSet jjm;rw[MS.b_ok (a:=fm F) (Ω1:=LS vs ms) (by rw[MS.b_ok (a:=.obj 0) (Ω1:=LS (vs++[F]) ms) rfl,jGt])];rfl)]
def jn3:(St [42] == Str.ofString "*")=true:=by decide +kernel
def jz5(hF:F.1.length<=1000)(hG:G.1.length<=1000){Y:DSt}(h5:(Y[5]?).join=of F)(h4:(Y[4]?).join=of G):DL.tAnd (t2 gGt (fL kLen (jac (jha 1 [] (jed (f2 gIx (vR 5) (cI 0))) (DL.gName 0) (t2 gNe (vR 0) (cI 0)) jf8) fNil)) (cI 0)) (t2 gGt (fL kLen (jac (jha 1 [] (jed (f2 gIx (vR 4) (cI 0))) (DL.gName 0) (t2 gNe (vR 0) (cI 0)) jf7) fNil)) (cI 0)) Y=oK (!jau F&&!jau G):=by
 have e1:=jni (fe:=jf8) h5 hF rfl;have e2:=jni (fe:=jf7) h4 hG rfl;unfold DL.tAnd;rw[e1]
 cases jau F with
 | true=>rfl
 | false=>exact e2
def jGb(a b:Fm):(D.tup [.tup (b.1.map fun c=>.int (a.2*c)),.int (a.2*b.2)])=fm (mulF b a.2):=by
 unfold fm mulF;rw[List.map_map,Int.mul_comm a.2 b.2,show (fun c=>D.int (a.2*c))=(D.int ∘ fun c=>c*a.2) from funext fun c=>by show D.int _=D.int _;rw[Int.mul_comm]]
def jmb{k:Nat}(hF:FB n k F)(hG:FB n k G)(hk:k<=100000)(hn:n<=1000)(hv:vs.length<=1000) :
  jb7 [.obj 0,.obj 1] (LS (vs++[F,G]) (ms++[(42,p)]))=if (jau F || jau G)=true then some (.ok .non,LS (vs++[jhl F G]) ms) else some (.ok (.int p),LS vs ms):=by
 have dq:F.1.length<=1000:=by rw[hF.len];exact hn
 have i9:G.1.length<=1000:=by rw[hG.len];exact hn
 unfold jb7;rw[jmd];show MS.b (jdn [some (.obj 0),some (.obj 1),none,none,none,none,none,none]) outE _=_;unfold jdn;have dr:∀ (a b:Fm) (Y:DSt),Y=[some (.obj 0),some (.obj 1),some (sT [42]),oI p,of b,of a,none,none]->FB n k a->FB n k b->je9 (jjl (lF (vR 0)) (lF (fL jb3 (jac (fL kTuple (jac (jha 1 [("_law_one",5)] (jed (f2 gIx (vR 4) (cI 0))) (DL.gName 0) tYes jep) fNil)) (jac (f2 jci (f2 gIx (vR 5) (cI 1)) (f2 gIx (vR 4) (cI 1))) fNil))))) Y (LS vs ms)=some (.ok (.nx Y),LS (vs++[mulF b a.2]) ms):=fun a b Y hδ ha hb=>by
  subst hδ;refine jxu (lft rfl) (lft ?_) hv;have e:=jyy b ha.bf.2 hb.bf hk;simp only[stpA,fm0,fm1,e,List.replicate_one,List.map_cons,List.map_nil,List.cons_append,List.nil_append,List.replicate,jdl ha.bf.2 hb.bf.2 hk hk,jj0 (ds:=b.1.map fun c=>D.int (a.2*c)) (by rw[zav,hb.len];exact hn)];rw[<- jGb];rfl
 by_cases q:(jau F || jau G)=true
 ·rw[if_pos q];refine (MS.b_ok (a:=.rt .non) (Ω1:=LS (vs++[jhl F G]) ms) ?_).trans rfl;rw[pop3];refine jg9 ?_;rw[eif (c:=true) (Ω':=LS vs ms) (lft (by simp only[stpA,jbf,jn3];rfl)),if_pos rfl];rw[eseq (Ω':=LS vs ms) (lft (by rw[jcx (jz5 dq i9 rfl rfl),show (!jau F&&!jau G)=false by revert q;cases jau F<;>cases jau G<;>decide,if_neg (by decide)];rfl))]
  by_cases qF:jau F=true
  ·rw[eseq (Y':=[some (.obj 0),some (.obj 1),some (sT [42]),oI p,of G,of F,none,none]) (Ω':=LS vs ms) (lft (by rw[jcx (jni (fe:=jf9) (i:=5) (f:=F) rfl dq rfl),qF];rfl))];rw[eseq (dr F G _ rfl hF hG),jwj qF (by rw[hF.len,hG.len])];rfl
  ·rw[Bool.not_eq_true] at qF;have qG:jau G=true:=by rw[qF,Bool.false_or] at q;exact q
   rw[eseq (Y':=[some (.obj 0),some (.obj 1),some (sT [42]),oI p,of F,of G,none,none]) (Ω':=LS vs ms) (lft (by rw[jcx (jni (fe:=jf9) (i:=5) (f:=F) rfl dq rfl),qF];rfl))];rw[eseq (dr G F _ rfl hG hF),jto qG];rfl
 ·rw[if_neg q];rw[Bool.not_eq_true] at q;refine (MS.b_ok (a:=.rt (.int p)) (Ω1:=LS vs ms) ?_).trans rfl;rw[pop3];refine jg9 ?_;rw[eif (c:=true) (Ω':=LS vs ms) (lft (by simp only[stpA,jbf,jn3];rfl)),if_pos rfl];exact jg9 (lft (by rw[jcx (jz5 dq i9 rfl rfl),show (!jau F&&!jau G)=true by revert q;cases jau F<;>cases jau G<;>decide,if_pos rfl];rfl))
end
end
section
section
variable {vs:List Fm}{ms:List (Nat×Int)}{F T:Fm}{n:Nat}{p:Int}
def jEu{T F:Fm}{s:Int}:(D.tup [.tup ((T.1.zip F.1).map fun q=>.int (q.1+s*q.2)),.int (T.2+s*F.2)])=fm (addF T (mulF F s)):=by
 unfold fm addF mulF;dsimp only;rw[List.zip_map_right,List.map_map,List.map_map,Int.mul_comm s F.2,show (fun q:Int×Int=>D.int (q.1+s*q.2))=(D.int ∘ ((fun p:Int×Int=>p.1+p.2) ∘ Prod.map id fun c=>c*s)) from funext fun q=>by show D.int _=D.int _;rw[Int.mul_comm];rfl];rfl
def c43:(St [43] == Str.ofString "*")=false:=by decide +kernel
def c45:(St [45] == Str.ofString "*")=false:=by decide +kernel
def p43:(St [43] == Str.ofString "+")=true:=by decide +kernel
def p45:(St [45] == Str.ofString "+")=false:=by decide +kernel
def sgC(b:Bool):Nat:=if b=true then 45 else 43
def jtq{k:Nat}(b:Bool)(hT:FB n k T)(hF:FB n k F)(hk:k<=100000)(hn:n<=1000)(hv:vs.length<=1000) :
  jb7 [.obj 0,.obj 1] (LS (vs++[T,F]) (ms++[(sgC b,p)]))=some (.ok .non,LS (vs++[addF T (mulF F (sgn b))]) ms):=by
 have hs:Bt 1 (sgn b):=by unfold Bt;cases b<;>decide
 unfold jb7;rw[jmd];show MS.b (jdn [some (.obj 0),some (.obj 1),none,none,none,none,none,none]) outE _=_;unfold jdn;refine (MS.b_ok (a:=.rt .non) (Ω1:=LS (vs++[addF T (mulF F (sgn b))]) ms) ?_).trans rfl;rw[pop3];have q1:(St [sgC b] == Str.ofString "*")=false:=by cases b;exact c43;exact c45
 have q2:(St [sgC b] == Str.ofString "+")=!b:=by cases b;exact p43;exact p45
 rw[eseq (Y':=[some (.obj 0),some (.obj 1),oS (St [sgC b]),oI p,of F,of T,none,none]) (Ω':=LS vs ms) (by rw[eif (c:=false) (Ω':=LS vs ms) (lft (by simp only[stpA,jbf,q1];rfl)),if_neg (by decide)];rfl)];rw[eseq (Y':=[some (.obj 0),some (.obj 1),oS (St [sgC b]),oI p,of F,of T,oI (sgn b),none]) (Ω':=LS vs ms) (lft (by
  simp only[stpA,jbf,q2];cases b<;>rfl))]
 have e:=jon (c:=[oI (sgn b)]) (fe:=jga) (K:=fun p:Int×Int=>(D.int p.1,D.int p.2)) (F:=fun p=>.int (p.1+sgn b*p.2)) (T.1.zip F.1) none none (fun q hq=>by
  have h2:=(List.of_mem_zip hq).2;unfold jga;simp only[stpA,Nat.reduceSub,jdl hs (hF.bf.1 _ h2) (by decide) hk];rfl)
 have z:jfp [.tup (T.1.map D.int),.tup (F.1.map D.int)]=some ((T.1.zip F.1).map fun p=>.tup [.int p.1,.int p.2]):=by
  rw[zip_tt,jra,List.zip_map,List.map_map];rfl
 rw[eseq (Y':=[some (.obj 0),some (.obj 1),oS (St [sgC b]),oI p,of F,of T,oI (sgn b),some (.tup ((T.1.zip F.1).map fun q=>.int (q.1+sgn b*q.2)))]) (Ω':=LS vs ms) (lft (by
  simp only[stpA,fm0,z,e,List.replicate,List.map_cons,List.map_nil,List.cons_append,List.nil_append,jj0 (ds:=(T.1.zip F.1).map fun q=>D.int (q.1+sgn b*q.2)) (by rw[zav,List.length_zip,hT.len];omega)];rfl))]
 rw[eseq (jxu (x:=addF T (mulF F (sgn b))) (lft rfl) (lft (by
  simp only[stpA,fm1,jdl hs hF.bf.2 (by decide) hk];rw[<- jEu];rfl)) hv)]
 rfl
end
section
variable {t:DSt->MS Bool}{g:DSt->MS Out}{k:Nat}{Y Y':DSt}{Ω Ω':Sto}
def jH1(h:t Y Ω=some (.ok false,Ω)):jcg t g (k+1) Y Ω=some (.ok (.nx Y),Ω):=by
 unfold jcg;rw[MS.b_ok h];rfl
def jH2(h:t Y Ω=some (.ok true,Ω))(h2:g Y Ω=some (.ok (.nx Y'),Ω')):jcg t g (k+1) Y Ω=jcg t g k Y' Ω':=by
 conv=>lhs;unfold jcg
 rw[MS.b_ok h,if_pos rfl,MS.b_ok h2]
def jKb{d:D}(h:t Y Ω=some (.ok true,Ω))(h2:g Y Ω=some (.ok (.rt d),Ω')):jcg t g (k+1) Y Ω=some (.ok (.rt d),Ω'):=by
 unfold jcg;rw[MS.b_ok h,if_pos rfl,MS.b_ok h2];rfl
end
def dv(aa:LL)(tk:D)(bg:Bool)(a b c lo e:Option D):DSt:=[oN aa,some tk,some (.tup (List.replicate aa.length (.int 0))),some (.obj 0),some (.obj 1),some (.bl bg),a,b,c,lo,e]
section
variable {aa:LL}{tk:D}{bg:Bool}{a b c e:Option D}{vs:List Fm}{ms:List (Nat×Int)}{lo:Nat}
def jm6{lo:Option D}(hm:ms.length<=1000):jiz 4 (fL kLen (jac (vR 4) fNil)) (dv aa tk bg a b c lo e) (LS vs ms)=some (.ok (.int ms.length),LS vs ms):=by
 have l:kLen [.lst (ms.map md)]=oI ms.length:=by rw[jj6,zav]
 unfold jiz;show MS.l ((fL kLen (jac (vR 4) fNil) ((dv aa tk bg a b c lo e).set 4 (oL (ms.map md)))).b _) (LS vs ms)=_;rw[show fL kLen (jac (vR 4) fNil) ((dv aa tk bg a b c lo e).set 4 (oL (ms.map md)))=oK (.int ms.length) from by
  unfold dv;simp only[stpA,List.set,l];rfl]
 rfl
def jBd{lo:Option D}{q:Nat×Int}:m2 gIx (mIxL (lF (vR 4)) (lF (f1 gNeg (cI 1)))) (lF (cI 0)) (dv aa tk bg a b c lo e) (LS vs (ms++[q]))=some (.ok (sT [q.1]),LS vs (ms++[q])):=by
 have h:mIxL (lF (vR 4)) (lF (f1 gNeg (cI 1))) (dv aa tk bg a b c lo e) (LS vs (ms++[q]))=some (.ok (md q),LS vs (ms++[q])):=by
  unfold mIxL;rw[MS.b_ok (a:=.obj 1) (Ω1:=LS vs (ms++[q])) rfl,MS.b_ok (a:=.int (-1)) (Ω1:=LS vs (ms++[q])) (lft rfl)];show Option.map _ (L2.atI ((ms++[q]).map md) (-1))=_;rw[List.map_append,List.map_singleton,jp3];rfl
 rw[s_2,MS.b_ok h];rfl
def jJs(x:Nat)(s:Str):gNe (sT [x]) (.str s)=some (.bl !(St [x] == s)):=rfl
def jJ4{lo:Option D}:jbb (dv aa tk bg a b c lo e) (LS vs [])=some (.ok false,LS vs []):=by
 unfold jbb mAnd mB;rw[s_2,MS.b_ok (a:=false) (Ω1:=LS vs []) (by rw[MS.b_ok (a:=.bl false) (Ω1:=LS vs []) (by rw[MS.b_ok (jm6 (by decide))];rfl)];rfl)];rfl
def jsw{q:Nat×Int}(hm:ms.length<=999):jbb (dv aa tk bg a b c (some (sT [lo])) e) (LS vs (ms++[q]))=some (.ok (!(St [q.1] == Str.ofString "(")&&((St [lo] == Str.ofString "(") || (St [q.1] == Str.ofString "*"))),LS vs (ms++[q])):=by
 unfold jbb mAnd mB;rw[MS.b_ok (a:=true) (Ω1:=LS vs (ms++[q])) (by
  rw[MS.b_ok (a:=.bl true) (Ω1:=LS vs (ms++[q])) (by
   rw[s_2,MS.b_ok (jm6 (by rw[zcb];show _+1<=_;omega))];show MS.o (gGt (.int _) (.int 0)) _=_;have:gGt (.int ((ms++[q]).length:Nat)) (.int 0)=some (.bl true):=by
    show some (D.bl (decide _))=_;rw[decide_eq_true (by rw[zcb];show (0:Int)<((_+1:Nat):Int);omega)]
   rw[this];rfl)]
  rfl),if_pos rfl]
 rw[MS.b_ok (a:=!(St [q.1] == Str.ofString "(")) (Ω1:=LS vs (ms++[q])) (by
  rw[MS.b_ok (a:=.bl !(St [q.1] == Str.ofString "(")) (Ω1:=LS vs (ms++[q])) (by rw[s_2,MS.b_ok jBd];rfl)];rfl)]
 cases St [q.1] == Str.ofString "(" with
 | true=>rfl
 | false =>
  rw[Bool.not_false,if_pos rfl,Bool.true_and];unfold mOr;rw[MS.b_ok (a:=(St [lo] == Str.ofString "(")) (Ω1:=LS vs (ms++[q])) (lft (by unfold dv;simp only[stpA,jbf];rfl))]
  cases St [lo] == Str.ofString "(" with
  | true=>rfl
  | false =>
   rw[if_neg (by decide),Bool.false_or];exact (MS.b_ok (a:=D.bl (St [q.1] == Str.ofString "*")) (Ω1:=LS vs (ms++[q])) (by rw[s_2,MS.b_ok jBd];rfl)).trans rfl
def b_go{lo:Option D}{bv:List Fm}{bo:List (Nat×Int)}(h:jb7 [.obj 0,.obj 1] (LS vs ms)=some (.ok .non,LS bv bo)):ja9 (dv aa tk bg a b c lo e) (LS vs ms)=some (.ok (.nx (dv aa tk bg a b c lo (some .non))),LS bv bo):=by
 unfold ja9;rw[eseq (Y':=dv aa tk bg a b c lo (some .non)) (Ω':=LS bv bo) (by
  unfold eSet jgj;rw[MS.b_ok (a:=.non) (Ω1:=LS bv bo) (by rw[MS.b_ok (a:=[.obj 0,.obj 1]) (Ω1:=LS vs ms) rfl,h])];rfl)]
 rfl
def b_rt{lo:Option D}{bv:List Fm}{bo:List (Nat×Int)}{p:Int}(h:jb7 [.obj 0,.obj 1] (LS vs ms)=some (.ok (.int p),LS bv bo)):ja9 (dv aa tk bg a b c lo e) (LS vs ms)=some (.ok (.rt (.tup [.int p,.non])),LS bv bo):=by
 unfold ja9;rw[eseq (Y':=dv aa tk bg a b c lo (oI p)) (Ω':=LS bv bo) (by
  unfold eSet jgj;rw[MS.b_ok (a:=.int p) (Ω1:=LS bv bo) (by rw[MS.b_ok (a:=[.obj 0,.obj 1]) (Ω1:=LS vs ms) rfl,h])];rfl)]
 rfl
end
end
end MyLaw
namespace MyLaw
open L2 DL PySem.NumText
section
def jE7:(Str.ofString "0123456789")=St (List.range' 48 10):=by decide +kernel
def jEs:∀ i∈List.range 26,(St (List.range' 97 26)).cps.extract i (i+1)=#[97+i]:=by decide +kernel
def jEt:∀ c∈List.range' 97 26,(Builtin.Str.occurrences (St (List.range' 97 26)) (S1 c) 0 26 1).isEmpty=false:=by decide +kernel
def jE5:∀ i∈List.range 10,(St (List.range' 48 10)).cps.extract i (i+1)=#[48+i]:=by decide +kernel
def jE6:∀ c∈List.range' 48 10,(Builtin.Str.occurrences (St (List.range' 48 10)) (S1 c) 0 10 1).isEmpty=false:=by decide +kernel
def jFl(c:Nat):gInS (.str (S1 c)) (.str "abcdefghijklmnopqrstuvwxyz")=some (.bl (isL c)):=by
 rw[jrb];show some (D.bl (!(Builtin.Str.occurrences (St (List.range' 97 26)) (S1 c) 0 26 1).isEmpty))=_
 cases h:isL c with
 | true =>
  unfold isL at h;rw[Bool.and_eq_true,decide_eq_true_eq,decide_eq_true_eq] at h;rw[jEt c (by rw[List.mem_range'_1];omega)];rfl
 | false =>
  rw[jsc fun i hi=>by
   have hi':i+1<=26:=hi;unfold Builtin.Str.subAt;show ((St (List.range' 97 26)).cps.extract i (i+1) == #[c])=false;rw[jEs i (List.mem_range.mpr (by omega)),beq_eq_false_iff_ne];intro z;have e:97+i=c:=by simpa using z
   unfold isL at h;rw[<- e,decide_eq_true (show 97<=97+i by omega),decide_eq_true (show 97+i<=122 by omega)] at h;cases h]
  rfl
def jAf(c:Nat):gInS (.str (S1 c)) (.str "0123456789")=some (.bl (isG c)):=by
 rw[jE7];show some (D.bl (!(Builtin.Str.occurrences (St (List.range' 48 10)) (S1 c) 0 10 1).isEmpty))=_
 cases h:isG c with
 | true =>
  unfold isG at h;rw[Bool.and_eq_true,decide_eq_true_eq,decide_eq_true_eq] at h;rw[jE6 c (by rw[List.mem_range'_1];omega)];rfl
 | false =>
  rw[jsc fun i hi=>by
   have hi':i+1<=10:=hi;unfold Builtin.Str.subAt;show ((St (List.range' 48 10)).cps.extract i (i+1) == #[c])=false;rw[jE5 i (List.mem_range.mpr (by omega)),beq_eq_false_iff_ne];intro z;have e:48+i=c:=by simpa using z
   unfold isG at h;rw[<- e,decide_eq_true (show 48<=48+i by omega),decide_eq_true (show 48+i<=57 by omega)] at h;cases h]
  rfl
section
variable {aa:LL}{tk:D}{bg:Bool}{c lo e:Option D}{vs:List Fm}{ms:List (Nat×Int)}{p:Int}{a:List Nat}
def jx1{y:Option D}:DL.tOr (t2 gEq (vR 6) (fC (.str "("))) (DL.tAnd (t2 gEq (vR 6) (cS "-")) (tTru (vR 5))) (dv aa tk bg (some (sT a)) y c lo e)=oK ((a == [40]) || ((a == [45])&&bg)):=by
 have e1:t2 gEq (vR 6) (fC (.str "(")) (dv aa tk bg (some (sT a)) y c lo e)=oK (a == [40]):=by
  unfold dv;simp only[stpA,jbf,jm7,jcf];rfl
 have e2:t2 gEq (vR 6) (cS "-") (dv aa tk bg (some (sT a)) y c lo e)=oK (a == [45]):=by
  unfold dv;simp only[stpA,jbf,jkz,jcf];rfl
 unfold DL.tOr DL.tAnd;rw[e1]
 cases a == [40] with
 | true=>rfl
 | false =>
  rw[M.b_ok,if_neg (by decide),e2]
  cases a == [45] with
  | true=>rw[M.b_ok,if_pos rfl];cases bg<;>rfl
  | false=>rfl
def jye:gIn (sT a) (.lst (nmD aa))=some (.bl (decide (a∈aa))):=by
 show (if (true&&(nmD aa).all jiv)=true then some (D.bl (inD _ (nmD aa))) else none)=_;rw[jhs,if_pos (by decide),jkw]
def jE3{y:Option D}{x:Nat}{r:List Nat}(hr:r.length<=40000):DL.tOr (t2 gIn (vR 6) (vR 0)) (t2 gInS (f2 gIx (vR 6) (cI 0)) (cS "0123456789")) (dv aa tk bg (some (sT (x::r))) y c lo e)=oK (decide ((x::r)∈aa) || isG x):=by
 have e1:t2 gIn (vR 6) (vR 0) (dv aa tk bg (some (sT (x::r))) y c lo e)=oK (decide ((x::r)∈aa)):=by
  unfold dv;simp only[stpA,jye];rfl
 have e2:t2 gInS (f2 gIx (vR 6) (cI 0)) (cS "0123456789") (dv aa tk bg (some (sT (x::r))) y c lo e)=oK (isG x):=by
  unfold dv;simp only[stpA,ix0 hr,jAf];rfl
 unfold DL.tOr;rw[e1]
 cases decide ((x::r)∈aa) with
 | true=>rfl
 | false=>exact e2
def jEh(hm:ms.length<=1000):jba (dv aa tk bg (some (sT [40])) (oI p) c lo e) (LS vs ms)=some (.ok (.ct (dv aa tk true (some (sT [40])) (oI p) c lo e)),LS vs (ms++[(40,p)])):=by
 unfold jba;refine jqa ?_;rw[eif (c:=true) (Ω':=LS vs ms) (lft (by rw[jx1];rfl)),if_pos rfl];rw[eseq (Y':=dv aa tk bg (some (sT [40])) (oI p) c lo e) (Ω':=LS vs ms) (by
  rw[eif (c:=false) (Ω':=LS vs ms) (lft (by unfold dv;simp only[stpA,jbf,jkz,jcf];rfl)),if_neg (by decide)];rfl)]
 rw[eseq (jBn (x:=(40,p)) (lft rfl) (lft rfl) hm)];rw[eseq (Y':=dv aa tk true (some (sT [40])) (oI p) c lo e) (Ω':=LS vs (ms++[(40,p)])) (lft (by unfold dv;simp only[stpA,jbf,jm7,jcf];rfl))];rfl
def jEg(hv:vs.length<=1000)(hm:ms.length<=1000):jba (dv aa tk true (some (sT [45])) (oI p) c lo e) (LS vs ms)=some (.ok (.ct (dv aa tk false (some (sT [45])) (oI p) c lo e)),LS (vs++[jkf aa.length]) (ms++[(45,p)])):=by
 unfold jba;refine jqa ?_;rw[eif (c:=true) (Ω':=LS vs ms) (lft (by rw[jx1];rfl)),if_pos rfl];rw[eseq (Y':=dv aa tk true (some (sT [45])) (oI p) c lo e) (Ω':=LS (vs++[jkf aa.length]) ms) (by
  rw[eif (c:=true) (Ω':=LS vs ms) (lft (by unfold dv;simp only[stpA,jbf,jkz,jcf];rfl)),if_pos rfl];exact jxu (lft rfl) (lft (by unfold dv fm jkf;rw[List.map_replicate];rfl)) hv)]
 rw[eseq (jBn (x:=(45,p)) (lft rfl) (lft rfl) hm)];rw[eseq (Y':=dv aa tk false (some (sT [45])) (oI p) c lo e) (Ω':=LS (vs++[jkf aa.length]) (ms++[(45,p)])) (lft (by unfold dv;simp only[stpA,jbf,jm7,jcf];rfl))];rfl
structure LW(aa:LL)(a:List Nat):Prop where
 w:Word a
 len:a.length<=40
 ok:a∈aa\/(∀ c∈a,isG c=true)
def jCg(hN:∀ b∈aa,Nm b)(h:LW aa a):frmW aa a=((aa.map fun b=>if b=a then (1:Int) else 0,if a∈aa then (0:Int) else ((digitsVal a:Nat):Int)):Fm):=by
 have hL:∀ b∈aa,∃ x r,b=x::r/\isL x=true:=fun b hb=>by
  obtain⟨h1,h2,_⟩:=hN b hb
  cases b with
  | nil=>exact absurd rfl h1
  | cons x r=>exact⟨x,r,rfl,h2 x zaa⟩
 obtain⟨_,_,_,x,r,rfl,_,_⟩:=jd3 h.w;unfold frmW;dsimp only
 by_cases hm:(x::r)∈aa
 ·obtain⟨x',r',e,hx⟩:=hL _ hm;cases e;rw[if_pos hx,if_pos hm]
 ·have hg:=(h.ok.resolve_left hm) x zaa;rw[if_neg (by rw[jgi hg];decide),if_neg hm];congr 1
  symm
  rw[List.eq_replicate_iff];refine⟨zav _,fun y hy=>?_⟩;obtain⟨b,hb,rfl⟩:=List.mem_map.mp hy;exact if_neg fun (z:b=x::r)=>hm (by rw[<- z];exact hb)
def jxf(hN:∀ b∈aa,Nm b)(hn:aa.length<=1000)(h:LW aa a)(hv:vs.length<=1000):∃ c',jba (dv aa tk bg (some (sT a)) (oI p) c lo e) (LS vs ms)=some (.ok (.ct (dv aa tk false (some (sT a)) (oI p) c' lo e)),LS (vs++[frmW aa a]) ms):=by
 obtain⟨_,_,_,x,r,ea,hx,hxx⟩:=jd3 h.w;have ne1:(a == [40])=false:=beq_eq_false_iff_ne.mpr fun z=>by
  rw[z] at ea;cases ea;rcases hxx with q|q<;>exact absurd q (by decide)
 have ne2:(a == [45])=false:=beq_eq_false_iff_ne.mpr fun z=>by rw[z] at ea;cases ea;exact hx rfl
 have hg:(decide (a∈aa) || isG x)=true:=by
  rcases h.ok with q|q
  ·rw[decide_eq_true q,Bool.true_or]
  ·rw[q x (by rw[ea];exact zaa),Bool.or_true]
 let nu:Int:=if a∈aa then (0:Int) else ((digitsVal a:Nat):Int)
 refine⟨oI nu,?_⟩;unfold jba;rw[eseq (Y':=dv aa tk bg (some (sT a)) (oI p) c lo e) (Ω':=LS vs ms) (by
  rw[eif (c:=false) (Ω':=LS vs ms) (lft (by rw[jx1,ne1,ne2];rfl)),if_neg (by decide)];rfl)]
 refine jqa ?_;rw[eif (c:=true) (Ω':=LS vs ms) (lft (by rw[ea,jE3 (by have:=h.len;rw[ea,List.length_cons] at this;omega),<- ea,hg])),if_pos rfl];rw[eseq (Y':=dv aa tk bg (some (sT a)) (oI p) (oI 0) lo e) (Ω':=LS vs ms) (lft rfl)];have gn:je3 (sT a) (.lst (nmD aa))=some (.bl !decide (a∈aa)):=by
  show (if (true&&(nmD aa).all jiv)=true then some (D.bl !(inD _ (nmD aa))) else none)=_;rw[jhs,if_pos (by decide),jkw]
 rw[eseq (Y':=dv aa tk bg (some (sT a)) (oI p) (oI nu) lo e) (Ω':=LS vs ms) (lft (by
  have t:t2 je3 (vR 6) (vR 0) (dv aa tk bg (some (sT a)) (oI p) (oI 0) lo e)=oK (!decide (a∈aa)):=by
   unfold dv;simp only[stpA,gn];rfl
  rw[jcx t]
  by_cases hm:a∈aa
  ·rw[decide_eq_true hm,if_neg (by decide)];show some _=_;rw[show nu=0 from if_pos hm]
  ·rw[decide_eq_false hm,if_pos (by decide),show nu=(digitsVal a:Nat) from if_neg hm];have q:=h.ok.resolve_left hm;have i:=ju5 (jz3 q) (by rw[ea];exact fun z=>nomatch z) (zdy h.len (by decide));unfold dv;simp only[stpA,i];rfl))]
 have ec:jfr (DL.gName 0) tYes jhr (nmD aa) [none,some (sT a)]=some (aa.map fun b=>D.int (if b=a then 1 else 0)):=jg4 (c:=[some (sT a)]) (fe:=jhr) (K:=fun b:List Nat=>D.str (St b)) (F:=fun b=>.int (if b=a then 1 else 0)) aa none (fun b hb=>by
  unfold jhr;simp only[stpA,jbf,jcf]
  by_cases q:b=a
  ·rw[beq_iff_eq.mpr q,if_pos q];rfl
  ·rw[beq_eq_false_iff_ne.mpr q,if_neg q];rfl)
 rw[eseq (Y':=dv aa tk bg (some (sT a)) (oI p) (oI nu) lo e) (Ω':=LS (vs++[frmW aa a]) ms) (jxu (lft rfl) (lft (by
  rw[jCg hN h];unfold dv fm;simp only[stpA,ec,List.replicate,List.map_cons,List.map_nil,List.cons_append,List.nil_append,jj0 (ds:=aa.map fun b=>D.int (if b=a then 1 else 0)) (by rw[zav];exact hn)];rw[List.map_map];rfl)) hv)]
 rfl
end
end
section
def MkC(c:Nat):Prop:=c=41\/c=42\/c=43\/c=45
def loC(c:Nat):Nat:=if c=42 then 42 else 40
def pm{c:Nat}(h:MkC c):gInS (sT [c]) (.str "+-")=some (.bl (c == 43 || c == 45)):=by
 have e:∀ c,(c=41\/c=42\/c=43\/c=45)->(!(Builtin.Str.occurrences (Str.ofString "+-") (St [c]) 0 (Str.ofString "+-").length 1).isEmpty)=(c == 43 || c == 45):=fun c h=>by
  rcases h with rfl|rfl|rfl|rfl<;>decide +kernel
 show some (D.bl _)=_;rw[e c h]
def m20:jci (.int 2) (.int 0)=oI 0:=jdl (a:=3) (b:=3) (by unfold Bt;decide) (by unfold Bt;decide)
def m21:jci (.int 2) (.int 1)=oI 2:=jdl (a:=3) (b:=3) (by unfold Bt;decide) (by unfold Bt;decide)
section
variable {aa:LL}{tk:D}{bg:Bool}{c:Nat}{cc lo e e':Option D}{vs bv V:List Fm}{ms bo Mq:List (Nat×Int)}{p:Int}{Ω:Sto}
def jD5(h:MkC c):gSet 9 (f2 gIx (fL jbq (jac (cS "*") (jac (fC (.str "(")) (jac (fC (.str "(")) fNil)))) (f2 gCat (fL kIntT (jac (f2 gInS (vR 6) (cS "+-")) fNil)) (f2 jci (cI 2) (fL kIntT (jac (f2 gEq (vR 6) (fC (.str ")"))) fNil))))) (dv aa tk bg (some (sT [c])) (oI p) cc lo e)=nX (dv aa tk bg (some (sT [c])) (oI p) cc (oS (St [loC c])) e):=by
 have e1:=pm h;unfold dv;have cl:(St [c] == Str.ofString ")")=(c == 41):=by rw[jql,jcf];rcases h with rfl|rfl|rfl|rfl<;>rfl
 simp only[stpA,e1,jbf,cl];rcases h with rfl|rfl|rfl|rfl
 ·show M.b (M.o (jci (.int 2) (.int 1))) _=_;rw[m21];rfl
 ·show M.b (M.o (jci (.int 2) (.int 0))) _=_;rw[m20];rfl
 ·show M.b (M.o (jci (.int 2) (.int 0))) _=_;rw[m20];rfl
 ·show M.b (M.o (jci (.int 2) (.int 0))) _=_;rw[m20];rfl
def jC7(h:MkC c)(hN:∀ b∈aa,Nm b):[c]∉aa:=fun z=>by
 have:=(hN _ z).al c zaa;rcases h with rfl|rfl|rfl|rfl<;>exact absurd this (by decide)
def jo2(h:MkC c)(hb:c=45->bg=false)(hN:∀ b∈aa,Nm b):jba (dv aa tk bg (some (sT [c])) (oI p) cc lo e) (LS vs ms)=eSeq (jcg jbb ja9 FUEL) (eSeq (eIf (mAnd (lF (t2 gEq (vR 6) (fC (.str ")")))) (mB (m2 gGt (jiz 4 (fL kLen (jac (vR 4) fNil))) (lF (cI 0))))) (je9 (jjm (lF (vR 4)))) eNx) (eIf (lF (t2 gNe (vR 6) (fC (.str ")")))) (je9 (jjl (lF (vR 4)) (lF (fL jb3 (jac (vR 6) (jac (vR 7) fNil)))))) eNx)) (dv aa tk bg (some (sT [c])) (oI p) cc (oS (St [loC c])) e) (LS vs ms):=by
 have q1:(([c] == [40]) || (([c] == [45])&&bg))=false:=by
  rcases h with rfl|rfl|rfl|rfl
  ·rfl
  ·rfl
  ·rfl
  ·rw[hb rfl];rfl
 have q2:(decide ([c]∈aa) || isG c)=false:=by
  rw[decide_eq_false (jC7 h hN)];rcases h with rfl|rfl|rfl|rfl<;>rfl
 unfold jba;rw[eseq (Y':=dv aa tk bg (some (sT [c])) (oI p) cc lo e) (Ω':=LS vs ms) (by
  rw[eif (c:=false) (Ω':=LS vs ms) (lft (by rw[jx1,q1])),if_neg (by decide)];rfl)]
 rw[eseq (Y':=dv aa tk bg (some (sT [c])) (oI p) cc lo e) (Ω':=LS vs ms) (by
  rw[eif (c:=false) (Ω':=LS vs ms) (lft (by rw[jE3 (by decide),q2])),if_neg (by decide)];rfl)]
 rw[eseq (lft (jD5 h))]
def jxe{d:D}(h:MkC c)(hb:c=45->bg=false)(hN:∀ b∈aa,Nm b)(hw:jcg jbb ja9 FUEL (dv aa tk bg (some (sT [c])) (oI p) cc (oS (St [loC c])) e) (LS vs ms)=some (.ok (.rt d),Ω)):jba (dv aa tk bg (some (sT [c])) (oI p) cc lo e) (LS vs ms)=some (.ok (.rt d),Ω):=by
 rw[jo2 h hb hN];exact jg9 hw
def jjb(h:MkC c)(hb:c=45->bg=false)(hN:∀ b∈aa,Nm b)(hm:bo.length<=1000)(hw:jcg jbb ja9 FUEL (dv aa tk bg (some (sT [c])) (oI p) cc (oS (St [loC c])) e) (LS vs ms)=some (.ok (.nx (dv aa tk bg (some (sT [c])) (oI p) cc (oS (St [loC c])) e')),LS bv bo)) :
  jba (dv aa tk bg (some (sT [c])) (oI p) cc lo e) (LS vs ms)=some (.ok (.nx (dv aa tk bg (some (sT [c])) (oI p) cc (oS (St [loC c])) e')),LS bv (if c=41 then bo.dropLast else bo++[(c,p)])):=by
 rw[jo2 h hb hN,eseq hw];have cl:(St [c] == Str.ofString ")")=(c == 41):=by rw[jql,jcf];rcases h with rfl|rfl|rfl|rfl<;>rfl
 have e1:lF (t2 gEq (vR 6) (fC (.str ")"))) (dv aa tk bg (some (sT [c])) (oI p) cc (oS (St [loC c])) e') (LS bv bo)=some (.ok (c == 41),LS bv bo):=lft (by unfold dv;simp only[stpA,jbf,cl];rfl);have e2:∀ Ω,lF (t2 gNe (vR 6) (fC (.str ")"))) (dv aa tk bg (some (sT [c])) (oI p) cc (oS (St [loC c])) e') Ω=some (.ok (!(c == 41)),Ω):=fun Ω=>lft (by unfold dv;simp only[stpA,jJs,cl];rfl)
 by_cases q:c=41
 ·subst q;rw[if_pos rfl];have t:mAnd (lF (t2 gEq (vR 6) (fC (.str ")")))) (mB (m2 gGt (jiz 4 (fL kLen (jac (vR 4) fNil))) (lF (cI 0)))) (dv aa tk bg (some (sT [41])) (oI p) cc (oS (St [loC 41])) e') (LS bv bo)=some (.ok (decide (0<bo.length)),LS bv bo):=by
   unfold mAnd mB;rw[MS.b_ok e1,if_pos (by decide)];refine (MS.b_ok (a:=D.bl (decide (0<bo.length))) (Ω1:=LS bv bo) ?_).trans rfl;rw[s_2,MS.b_ok (jm6 hm)];show MS.o (gGt (.int (bo.length:Nat)) (.int 0)) _=_;rw[show gGt (.int ((bo.length:Nat):Int)) (.int 0)=some (.bl (decide (0<bo.length))) from by
    show some (D.bl (decide _))=_;congr 2;rw[decide_eq_decide];omega]
   rfl
  rcases List.eq_nil_or_concat bo with rfl|⟨m0,q0,rfl⟩
  ·rw[eseq (Y':=dv aa tk bg (some (sT [41])) (oI p) cc (oS (St [loC 41])) e') (Ω':=LS bv []) (by rw[eif t];rfl),eif (e2 _)];rfl
  ·rw[List.concat_eq_append] at t |-
   rw[eseq (Y':=dv aa tk bg (some (sT [41])) (oI p) cc (oS (St [loC 41])) e') (Ω':=LS bv m0) (by
    rw[eif t,decide_eq_true (by rw[zcb];show 0<_+1;omega),if_pos rfl];unfold je9 jjm;rw[MS.b_ok (a:=md q0) (Ω1:=LS bv m0) (by rw[MS.b_ok (a:=.obj 1) (Ω1:=LS bv (m0++[q0])) rfl,jGs])];rfl),eif (e2 _),List.dropLast_concat]
   rfl
 ·rw[if_neg q];have qb:(c == 41)=false:=beq_eq_false_iff_ne.mpr q;rw[qb] at e1 e2;have t:mAnd (lF (t2 gEq (vR 6) (fC (.str ")")))) (mB (m2 gGt (jiz 4 (fL kLen (jac (vR 4) fNil))) (lF (cI 0)))) (dv aa tk bg (some (sT [c])) (oI p) cc (oS (St [loC c])) e') (LS bv bo)=some (.ok false,LS bv bo):=by
   unfold mAnd;rw[MS.b_ok e1];rfl
  rw[eseq (Y':=dv aa tk bg (some (sT [c])) (oI p) cc (oS (St [loC c])) e') (Ω':=LS bv bo) (by rw[eif t];rfl),eif (e2 _),Bool.not_false,if_pos rfl];exact jBn (lft rfl) (lft rfl) hm
def sgV(l:Lv):List Fm:=match l.sg with
 | none=>[]
 | some (T,_,_)=>[T]
def sgM(l:Lv):List (Nat×Int):=match l.sg with
 | none=>[]
 | some (_,b,p)=>[(sgC b,p)]
def phV:Ph->List Fm
 | .emp=>[]
 | .one F=>[F]
 | .str F _=>[F]
 | .two F _ G=>[F,G]
def phM:Ph->List (Nat×Int)
 | .str _ p=>[(42,p)]
 | .two _ p _=>[(42,p)]
 | _=>[]
def o42:(St [42] == Str.ofString "(")=false:=by decide +kernel
def o40:(St [40] == Str.ofString "(")=true:=by decide +kernel
def osg(b:Bool):(St [sgC b] == Str.ofString "(")=false:=by cases b<;>decide +kernel
variable {a b:Option D}{n w k:Nat}{l:Lv}
def jso(hb:l.behind)(B:PhB n w l.ph)(hw:w<=100000)(hn:n<=1000)(hV:V.length<=900)(hM:Mq.length<=900)(q:Nat):∃ e' j,k<=j/\jcg jbb ja9 (k+1) (dv aa tk bg a b cc (some (sT [q])) e) (LS (V++phV l.ph) (Mq++phM l.ph))=jcg jbb ja9 j (dv aa tk bg a b cc (some (sT [q])) e') (LS (V++[cur l.ph]) Mq):=by
 unfold Lv.behind at hb
 cases h:l.ph with
 | emp=>rw[h] at hb;exact hb.elim
 | str _ _=>rw[h] at hb;exact hb.elim
 | one F=>exact⟨e,k+1,by omega,by show jcg _ _ _ _ (LS (V++[F]) (Mq++[]))=_;rw[List.append_nil];rfl⟩
 | two F p G =>
  rw[h] at B
  cases B with
  | two x y _ _ _ hxy hF hG hp =>
   refine⟨some .non,k,zac _,jH2 ?_ (b_go ?_)⟩
   ·have:=jsw (aa:=aa) (tk:=tk) (bg:=bg) (a:=a) (b:=b) (c:=cc) (e:=e) (lo:=q) (vs:=V++phV (.two F p G)) (ms:=Mq) (q:=(42,p)) (by omega);rw[o42,jn3] at this;rw[show phM (.two F p G)=[(42,p)] from rfl,this,Bool.or_true];rfl
   ·show jb7 _ (LS (V++[F,G]) (Mq++[(42,p)]))=_;rw[jmb (hF.mono (k:=w) (by omega)) (hG.mono (k:=w) (by omega)) hw hn (by omega),if_pos hp];rfl
def jBj(Mq:List (Nat×Int))(q:Nat):Prop:=Mq=[]\/∃ Mq' x,Mq=Mq'++[x]/\(!(St [x.1] == Str.ofString "(")&&((St [q] == Str.ofString "(") || (St [x.1] == Str.ofString "*")))=false
def jwt{q:Nat}(h:jBj Mq q)(hM:Mq.length<=900):jcg jbb ja9 (k+1) (dv aa tk bg a b cc (some (sT [q])) e) (LS V Mq)=some (.ok (.nx (dv aa tk bg a b cc (some (sT [q])) e)),LS V Mq):=by
 refine jH1 ?_;rcases h with rfl|⟨Mq',x,rfl,hx⟩
 ·exact jJ4
 ·rw[zcb] at hM;rw[jsw (by simp at hM;omega),hx]
def jG1(B:LvB n w l)(hp:l.ph≠.emp)(hw:w<=90000)(hn:n<=1000)(hV:V.length<=900)(hM:Mq.length<=900):∃ e' j,k<=j/\jcg jbb ja9 (k+1) (dv aa tk bg a b cc (some (sT [40])) e) (LS (V++sgV l++[cur l.ph]) (Mq++sgM l))=jcg jbb ja9 j (dv aa tk bg a b cc (some (sT [40])) e') (LS (V++[l.whole]) Mq):=by
 obtain⟨x,y,hxy,hB,hs⟩:=B;have hc:=hB.cur hp;unfold sgV sgM Lv.whole
 cases h:l.sg with
 | none=>exact⟨e,k+1,by omega,by dsimp only;rw[List.append_nil,List.append_nil]⟩
 | some t =>
  obtain⟨T,bb,p⟩:=t;have hT:=hs T bb p h;dsimp only;refine⟨some .non,k,zac _,jH2 ?_ (b_go ?_)⟩
  ·rw[jsw (by omega),osg,o40];rfl
  ·rw[List.append_assoc];exact jtq bb (hT.mono (k:=w) (by omega)) (hc.mono (k:=w) (by omega)) (by omega) hn (by omega)
end
end
section
def jmy{g:DSt->MS Out}{tg:D->DSt->Option DSt}{d:D}{ds:List D}{Y Y1 Y2:DSt}{Ω Ω1:Sto}(h1:tg d Y=some Y1)(h2:g Y1 Ω=some (.ok (.ct Y2),Ω1)):forE g tg (d::ds) Y Ω=forE g tg ds Y2 Ω1:=by
 conv=>lhs;unfold forE
 rw[h1];dsimp only;rw[s_b,h2,jho]
def jCe{g:DSt->MS Out}{tg:D->DSt->Option DSt}{d v:D}{ds:List D}{Y Y1:DSt}{Ω Ω1:Sto}(h1:tg d Y=some Y1)(h2:g Y1 Ω=some (.ok (.rt v),Ω1)):forE g tg (d::ds) Y Ω=some (.ok (.rt v),Ω1):=by
 conv=>lhs;unfold forE
 rw[h1];dsimp only;rw[s_b,h2,jho];rfl
def opM(r:List Lv)(l:Lv):List (Nat×Int):=match r with
 | []=>[]
 | _::_=>[(40,l.op)]
def vals:List Lv->List Fm
 | []=>[]
 | l::r=>vals r++(sgV l++phV l.ph)
def jb9:List Lv->List (Nat×Int)
 | []=>[]
 | l::r=>(jb9 r++opM r l)++(sgM l++phM l.ph)
def bgL:List Lv->Bool
 | []=>true
 | l::_=>match l.ph,l.sg with
  | .emp,none=>true
  | _,_=>false
def jeg(l:Lv)(r:List Lv):vals (l::r)=vals r++(sgV l++phV l.ph):=rfl
def jct(l:Lv)(r:List Lv):jb9 (l::r)=(jb9 r++opM r l)++(sgM l++phM l.ph):=rfl
theorem PhB.mono{n j k:Nat}{p:Ph}(h:PhB n j p)(hk:j<=k):PhB n k p:=by
 cases h with
 | emp=>exact .emp _
 | one F h=>exact .one _ F (h.mono hk)
 | str F p h=>exact .str _ F p (h.mono hk)
 | two c d F p G hw h h' hp=>exact .two _ c d F p G (zdy hw hk) h h' hp
def jn0(l:Lv):(sgV l).length<=1:=by unfold sgV;split<;>simp
def jle(l:Lv):(sgM l).length<=1:=by unfold sgM;split<;>simp
def jDl(p:Ph):(phV p).length<=2:=by cases p<;>simp[phV]
def jDk(p:Ph):(phM p).length<=1:=by cases p<;>simp[phM]
def jk6(r:List Lv)(l:Lv):(opM r l).length<=1:=by unfold opM;split<;>simp
theorem jgx:∀ ls:List Lv,(vals ls).length<=3*ls.length
 | []=>by simp[vals]
 | l::r=>by
  have:=jgx r;have h1:=jn0 l;have h2:=jDl l.ph;simp only[vals,zcb,List.length_cons];omega
theorem jds:∀ ls:List Lv,(jb9 ls).length<=3*ls.length
 | []=>by simp[jb9]
 | l::r=>by
  have:=jds r;have h1:=jle l;have h2:=jDk l.ph;have h3:=jk6 r l;simp only[jb9,zcb,List.length_cons];omega
def jEa(r:List Lv)(l:Lv):jBj (jb9 r++opM r l) 40:=by
 cases r with
 | nil=>exact .inl rfl
 | cons m r=>exact .inr ⟨jb9 (m::r),(40,l.op),rfl,by rw[o40];rfl⟩
def jEb(r:List Lv)(l:Lv):jBj (jb9 r++opM r l++sgM l) 42:=by
 unfold sgM
 cases l.sg with
 | none =>
  dsimp only;rw[List.append_nil]
  cases r with
  | nil=>exact .inl rfl
  | cons m r=>exact .inr ⟨jb9 (m::r),(40,l.op),rfl,by rw[o40];rfl⟩
 | some t =>
  obtain⟨T,b,p⟩:=t;refine .inr ⟨jb9 r++opM r l,(sgC b,p),rfl,?_⟩;have:(St [sgC b] == Str.ofString "*")=false:=by cases b;exact c43;exact c45
  rw[osg,o42,this];rfl
def jse{l l':Lv}{f:Fm}(r:List Lv)(hw:l.wait)(h:opd l f=.ok l'):vals (l'::r)=vals (l::r)++[f]/\jb9 (l'::r)=jb9 (l::r)/\bgL (l'::r)=false:=by
 unfold opd at h;unfold Lv.wait at hw;rw[jeg,jeg,jct,jct];unfold bgL
 cases e:l.ph with
 | emp=>rw[e] at h;cases h;refine⟨?_,rfl,rfl⟩;show _++(sgV l++[f])=_++(sgV l++[])++[f];simp
 | one _=>rw[e] at hw;exact hw.elim
 | two _ _ _=>rw[e] at hw;exact hw.elim
 | str F p =>
  rw[e] at h;dsimp only at h
  split at h
  ·cases h;refine⟨?_,rfl,rfl⟩;show _++(sgV l++[F,f])=_++(sgV l++[F])++[f];simp
  ·cases h
def jv6{n w k:Nat}{l:Lv}{f:Fm}{q:Int}(r:List Lv)(B:LvB n w l)(hf:FB n k f)(h:opd l f=.error q):∃ V M F,vals (l::r)++[f]=V++[F,f]/\jb9 (l::r)=M++[(42,q)]/\V.length<=3*r.length+1/\M.length<=3*r.length+2/\FB n w F/\(jau F || jau f)=false:=by
 unfold opd at h
 cases e:l.ph with
 | emp=>rw[e] at h;cases h
 | one _=>rw[e] at h;cases h
 | two _ _ _=>rw[e] at h;cases h
 | str F p =>
  rw[e] at h;dsimp only at h
  split at h
  ·cases h
  ·rename_i hp;cases h;obtain⟨a,b,hab,hB,_⟩:=B;rw[e] at hB;have v:=jgx r;have m:=jds r;have h1:=jn0 l;have h2:=jle l;have h3:=jk6 r l;refine⟨vals r++sgV l,jb9 r++opM r l++sgM l,F,?_,?_,by rw[zcb];omega,by rw[zcb,zcb];omega,(hB.cur (fun z=>nomatch z)).mono (by omega),by rw[Bool.not_eq_true] at hp;exact hp⟩
   ·rw[jeg,e];show _++(sgV l++[F])++[f]=_;simp
   ·rw[jct,e];show _++(sgM l++[(42,q)])=_;simp
section
variable {aa:LL}{tk:D}{bg:Bool}{a b cc e:Option D}{V:List Fm}{M:List (Nat×Int)}{l:Lv}{r:List Lv}
def jCh:∃ m,FUEL=m+5:=⟨99995,by rw[jp2]⟩
def jnu(hb:l.behind)(B:LvB aa.length KL l)(hn:aa.length<=1000)(hr:r.length<=298):∃ e',jcg jbb ja9 FUEL (dv aa tk bg a b cc (some (sT [40])) e) (LS (vals (l::r)) (jb9 (l::r)))=some (.ok (.nx (dv aa tk bg a b cc (some (sT [40])) e')),LS (vals r++[l.whole]) (jb9 r++opM r l)):=by
 obtain⟨m,hm⟩:=jCh;have v:=jgx r;have mm:=jds r;have h1:=jn0 l;have h2:=jle l;have h3:=jk6 r l;have lM:(jb9 r++opM r l).length<=899:=by rw[zcb];omega
 have hB:PhB aa.length KL l.ph:=by
  obtain⟨x,y,hxy,hB,_⟩:=B;exact hB.mono (by omega)
 obtain⟨e1,j1,k1,q1⟩:=jso (aa:=aa) (tk:=tk) (bg:=bg) (a:=a) (b:=b) (cc:=cc) (e:=e) (k:=m+4) (V:=vals r++sgV l) (Mq:=jb9 r++opM r l++sgM l) hb hB (by decide) hn (by rw[zcb];omega) (by rw[zcb];omega) 40;obtain⟨j1,rfl⟩:∃ j,j1=j+1:=⟨j1-1,by omega⟩
 obtain⟨e2,j2,k2,q2⟩:=jG1 (aa:=aa) (tk:=tk) (bg:=bg) (a:=a) (b:=b) (cc:=cc) (e:=e1) (k:=j1) (V:=vals r) (Mq:=jb9 r++opM r l) B (jea hb) (by decide) hn (by omega) (by omega);obtain⟨j2,rfl⟩:∃ j,j2=j+1:=⟨j2-1,by omega⟩
 refine⟨e2,?_⟩;rw[hm,jeg,jct,<- List.append_assoc (vals r),<- List.append_assoc (jb9 r++opM r l),q1,q2,jwt (jEa r l) (by omega)]
def jDz(hb:l.behind)(B:LvB aa.length KL l)(hn:aa.length<=1000)(hr:r.length<=298):∃ e',jcg jbb ja9 FUEL (dv aa tk bg a b cc (some (sT [42])) e) (LS (vals (l::r)) (jb9 (l::r)))=some (.ok (.nx (dv aa tk bg a b cc (some (sT [42])) e')),LS (vals r++sgV l++[cur l.ph]) (jb9 r++opM r l++sgM l)):=by
 obtain⟨m,hm⟩:=jCh;have v:=jgx r;have mm:=jds r;have h1:=jn0 l;have h2:=jle l;have h3:=jk6 r l;have lM:(jb9 r++opM r l++sgM l).length<=900:=by rw[zcb,zcb];omega
 have hB:PhB aa.length KL l.ph:=by
  obtain⟨x,y,hxy,hB,_⟩:=B;exact hB.mono (by omega)
 obtain⟨e1,j1,k1,q1⟩:=jso (aa:=aa) (tk:=tk) (bg:=bg) (a:=a) (b:=b) (cc:=cc) (e:=e) (k:=m+4) (V:=vals r++sgV l) (Mq:=jb9 r++opM r l++sgM l) hb hB (by decide) hn (by rw[zcb];omega) lM 42;obtain⟨j1,rfl⟩:∃ j,j1=j+1:=⟨j1-1,by omega⟩
 refine⟨e1,?_⟩;rw[hm,jeg,jct,<- List.append_assoc (vals r),<- List.append_assoc (jb9 r++opM r l),q1,jwt (jEb r l) lM]
def jwu{F f:Fm}{q:Int}{x n:Nat}(hF:FB n KL F)(hf:FB n (KL+1) f)(hn:n<=1000)(hV:V.length<=1000)(hM:M.length<=999)(hp:(jau F || jau f)=false):∃ Ω',jcg jbb ja9 FUEL (dv aa tk bg a b cc (some (sT [x])) e) (LS (V++[F,f]) (M++[(42,q)]))=some (.ok (.rt (.tup [.int q,.non])),Ω'):=by
 obtain⟨m,hm⟩:=jCh;refine⟨LS V M,?_⟩;rw[hm];refine jKb ?_ (b_rt ?_)
 ·rw[jsw hM,o42,jn3,Bool.or_true];rfl
 ·rw[jmb (hF.mono (Nat.le_succ KL)) hf (by decide) hn hV,if_neg (by rw[hp];decide)]
end
def LawR(aa:LL)(tk:D)(res:Except Int Fm)(v:Option (Except XD Out×Sto)):Prop:=match res with
 | .ok f=>∃ bg a b c lo e,v=some (.ok (.nx (dv aa tk bg a b c lo e)),LS [f] [])
 | .error q=>∃ Ω',v=some (.ok (.rt (.tup [.int q,.non])),Ω')
def snt:D:=tkD ([41],-1)
section
variable {aa:LL}{tk:D}
def joz(hN:∀ b∈aa,Nm b){V:List Fm}{M:List (Nat×Int)}{F f:Fm}{q:Int}{n d:Nat}{ts:List (List Nat×Int)}{a b c lo e:Option D}(hF:FB n KL F)(hf:FB n (KL+1) f)(hn:n<=1000)(hV:V.length<=1000)(hM:M.length<=999)(hp:(jau F || jau f)=false)(A:Acc (ts.map (·.1)) "behind" d) :
  ∃ Ω',forE jba (je4 6 7) (ts.map tkD++[snt]) (dv aa tk false a b c lo e) (LS (V++[F,f]) (M++[(42,q)]))=some (.ok (.rt (.tup [.int q,.non])),Ω'):=by
 have go:∀ (x:Nat) (p:Int) (rest:List D),MkC x->∃ Ω',forE jba (je4 6 7) (tkD ([x],p)::rest) (dv aa tk false a b c lo e) (LS (V++[F,f]) (M++[(42,q)]))=some (.ok (.rt (.tup [.int q,.non])),Ω'):=fun x p rest hx=>by
  obtain⟨Ω',h⟩:=jwu (aa:=aa) (tk:=tk) (bg:=false) (a:=some (sT [x])) (b:=oI p) (cc:=c) (e:=e) (x:=loC x) (q:=q) hF hf hn hV hM hp;exact⟨Ω',jCe (Y1:=dv aa tk false (some (sT [x])) (oI p) c lo e) rfl (jxe hx (fun _=>rfl) hN h)⟩
 cases ts with
 | nil=>exact go 41 (-1) [] (.inl rfl)
 | cons t ts =>
  obtain⟨x,p⟩:=t;rw[List.map_cons] at A;generalize gw:x::ts.map (·.1)=ws at A;generalize b7:(Str.ofString "behind")=wt at A
  cases A with
  | done=>cases gw
  | word _ h=>rw[<- b7] at h;exact absurd h (by decide +kernel)
  | opn h=>rw[<- b7] at h;exact absurd h (by decide +kernel)
  | cls h=>cases gw;exact go 41 p _ (.inl rfl)
  | neg h=>exact absurd b7 (by decide +kernel)
  | bin hs h =>
   cases gw;refine go _ p _ ?_;rcases jcu hs with rfl|rfl|rfl
   ·exact .inr (.inr (.inl rfl))
   ·exact .inr (.inr (.inr rfl))
   ·exact .inr (.inl rfl)
end
end
section
section
variable {aa:LL}{tk:D}
def juc{l:Lv}{r:List Lv}(h:l.behind):bgL (l::r)=false:=by
 unfold Lv.behind at h
 show (match l.ph,l.sg with
  | .emp,none=>true
  | _,_=>false)=false
 cases e:l.ph with
 | emp=>rw[e] at h;exact h.elim
 | str _ _=>rfl
 | one _=>rfl
 | two _ _ _=>rfl
def jyn(hN:∀ b∈aa,Nm b)(hn:aa.length<=1000){ts:List (List Nat×Int)}{ls:List Lv}{res:Except Int Fm}(G:Go aa ts ls res) :
  ∀ (a b c lo e:Option D),ls≠[]->ls.length+ts.length<=290->(∀ q∈ts,Word q.1->LW aa q.1)->LawR aa tk res (forE jba (je4 6 7) (ts.map tkD++[snt]) (dv aa tk (bgL ls) a b c lo e) (LS (vals ls) (jb9 ls))):=by
 induction G with
 | done l hb B =>
  intro a b c lo e _ hz hT;obtain⟨e',h⟩:=jnu (aa:=aa) (tk:=tk) (bg:=bgL [l]) (a:=some (sT [41])) (b:=oI (-1)) (cc:=c) (e:=e) (r:=[]) hb B hn (by decide);exact⟨_,_,_,_,_,_,by
   rw[List.map_nil,List.nil_append,jc1 (Y1:=dv aa tk (bgL [l]) (some (sT [41])) (oI (-1)) c lo e) rfl (jjb (.inl rfl) (fun z=>nomatch z) hN (Nat.zero_le _) h)];rfl⟩
 | opn p ts ls res h ih =>
  intro a b c lo e h0 hz hT;have ml:=jds ls;rw[List.length_cons] at hz;rw[List.map_cons,List.cons_append,jmy (Y1:=dv aa tk (bgL ls) (some (sT [40])) (oI p) c lo e) rfl (jEh (by omega))];have em:jb9 (new p::ls)=jb9 ls++[(40,p)]:=by
   rw[jct]
   cases ls with
   | nil=>exact absurd rfl h0
   | cons m r=>exact List.append_nil _
  have ev:vals (new p::ls)=vals ls:=List.append_nil _;have:=ih (some (sT [40])) (oI p) c lo e (fun z=>nomatch z) (by rw[List.length_cons];omega) (fun q hq=>hT q (zaw _ hq));rw[em,ev] at this;exact this
 | wrd x p ts l l' r res ha h40 hf hw B ho h ih =>
  intro a b c lo e h0 hz hT;have vl:=jgx (l::r);simp only[List.length_cons] at hz vl;obtain⟨c',hs⟩:=jxf (aa:=aa) (tk:=tk) (bg:=bgL (l::r)) (c:=c) (lo:=lo) (e:=e) (p:=p) (vs:=vals (l::r)) (ms:=jb9 (l::r)) hN hn (hT _ zaa ha) (by omega);rw[List.map_cons,List.cons_append,jmy (Y1:=dv aa tk (bgL (l::r)) (some (sT x)) (oI p) c lo e) rfl hs];obtain⟨q1,q2,q3⟩:=jse r hw ho;have:=ih (some (sT x)) (oI p) c' lo e (fun z=>nomatch z) (by rw[List.length_cons];omega) (fun q hq=>hT q (zaw _ hq));rw[q1,q2,q3] at this;exact this
 | wrdE x p q d ts l r ha h40 hf hw B ho h =>
  intro a b c lo e h0 hz hT;have vl:=jgx (l::r);simp only[List.length_cons] at hz vl;obtain⟨c',hs⟩:=jxf (aa:=aa) (tk:=tk) (bg:=bgL (l::r)) (c:=c) (lo:=lo) (e:=e) (p:=p) (vs:=vals (l::r)) (ms:=jb9 (l::r)) hN hn (hT _ zaa ha) (by omega);rw[List.map_cons,List.cons_append,jmy (Y1:=dv aa tk (bgL (l::r)) (some (sT x)) (oI p) c lo e) rfl hs];obtain⟨V,M,F,q1,q2,q3,q4,q5,q6⟩:=jv6 r B hf ho;rw[q1,q2];exact joz hN q5 (hf.mono (by decide)) hn (by omega) (by omega) q6 h
 | cls p ts l m m' r res hb hw B B' ho h ih =>
  intro a b c lo e h0 hz hT;have ml:=jds (m::r);simp only[List.length_cons] at hz ml;obtain⟨e',hr⟩:=jnu (aa:=aa) (tk:=tk) (bg:=bgL (l::m::r)) (a:=some (sT [41])) (b:=oI p) (cc:=c) (e:=e) (r:=m::r) hb B hn (by rw[List.length_cons];omega);rw[List.map_cons,List.cons_append,jc1 (Y1:=dv aa tk (bgL (l::m::r)) (some (sT [41])) (oI p) c lo e) rfl (jjb (.inl rfl) (fun z=>nomatch z) hN (by rw[zcb];show _+1<=_;omega) hr),if_pos rfl,show (jb9 (m::r)++opM (m::r) l).dropLast=jb9 (m::r) from List.dropLast_concat];obtain⟨q1,q2,q3⟩:=jse r hw ho;have:=ih (some (sT [41])) (oI p) c (oS (St [loC 41])) e' (fun z=>nomatch z) (by rw[List.length_cons];omega) (fun q hq=>hT q (zaw _ hq));rw[q1,q2,q3] at this;rw[juc hb];exact this
 | clsE p q d ts l m r hb hw B B' ho h =>
  intro a b c lo e h0 hz hT;have ml:=jds (m::r);simp only[List.length_cons] at hz ml;obtain⟨e',hr⟩:=jnu (aa:=aa) (tk:=tk) (bg:=bgL (l::m::r)) (a:=some (sT [41])) (b:=oI p) (cc:=c) (e:=e) (r:=m::r) hb B hn (by rw[List.length_cons];omega);rw[List.map_cons,List.cons_append,jc1 (Y1:=dv aa tk (bgL (l::m::r)) (some (sT [41])) (oI p) c lo e) rfl (jjb (.inl rfl) (fun z=>nomatch z) hN (by rw[zcb];show _+1<=_;omega) hr),if_pos rfl,show (jb9 (m::r)++opM (m::r) l).dropLast=jb9 (m::r) from List.dropLast_concat];have du:=B.whole (jea hb);obtain⟨V,M,F,q1,q2,q3,q4,q5,q6⟩:=jv6 r B' du ho;rw[q1,q2,juc hb];exact joz hN q5 du hn (by omega) (by omega) q6 h
 | neg p ts l r res he hs B h ih =>
  intro a b c lo e h0 hz hT;have ml:=jds (l::r);have vl:=jgx (l::r);simp only[List.length_cons] at hz ml vl;have hbg:bgL (l::r)=true:=by
   show (match l.ph,l.sg with
    | .emp,none=>true
    | _,_=>false)=true
   rw[he,hs]
  rw[hbg,List.map_cons,List.cons_append,jmy (Y1:=dv aa tk true (some (sT [45])) (oI p) c lo e) rfl (jEg (by omega) (by omega))];have:=ih (some (sT [45])) (oI p) c lo e (fun z=>nomatch z) (by rw[List.length_cons];omega) (fun q hq=>hT q (zaw _ hq));have e1:vals (signL aa.length l 45 p::r)=vals (l::r)++[jkf aa.length]:=by
   rw[jeg,jeg];unfold signL sgV;rw[if_neg (by decide),he,hs];simp[phV]
  have e2:jb9 (signL aa.length l 45 p::r)=jb9 (l::r)++[(45,p)]:=by
   rw[jct,jct];unfold signL sgM opM;rw[if_neg (by decide),he,hs];simp[phM,sgC]
  have e3:bgL (signL aa.length l 45 p::r)=false:=by
   unfold signL bgL;rw[if_neg (by decide)]
  rw[e1,e2,e3] at this;exact this
 | bin x p ts l r res hc hb B h ih =>
  intro a b c lo e h0 hz hT;have ml:=jds r;have h2:=jle l;have h3:=jk6 r l;simp only[List.length_cons] at hz;have fin:=fun e'=>ih (some (sT [x])) (oI p) c (oS (St [loC x])) e' (fun z=>nomatch z) (by rw[List.length_cons];omega) (fun q hq=>hT q (zaw _ hq))
  rw[juc hb];rw[List.map_cons,List.cons_append];have hx:MkC x:=by
   rcases jcu hc with rfl|rfl|rfl
   ·exact .inr (.inr (.inl rfl))
   ·exact .inr (.inr (.inr rfl))
   ·exact .inr (.inl rfl)
  have i8:x≠41:=by rcases jcu hc with rfl|rfl|rfl<;>decide
  by_cases q:x=42
  ·subst q;obtain⟨e',hr⟩:=jDz (aa:=aa) (tk:=tk) (bg:=false) (a:=some (sT [42])) (b:=oI p) (cc:=c) (e:=e) (r:=r) hb B hn (by omega);rw[jc1 (Y1:=dv aa tk false (some (sT [42])) (oI p) c lo e) rfl (jjb hx (fun _=>rfl) hN (by rw[zcb,zcb];omega) hr),if_neg i8];have:=fin e';have e1:vals (signL aa.length l 42 p::r)=vals r++sgV l++[cur l.ph]:=by
    rw[jeg];unfold signL;rw[if_pos rfl,List.append_assoc];rfl
   have e2:jb9 (signL aa.length l 42 p::r)=jb9 r++opM r l++sgM l++[(42,p)]:=by
    rw[jct];unfold signL;rw[if_pos rfl,List.append_assoc (jb9 r++opM r l)];rfl
   have e3:bgL (signL aa.length l 42 p::r)=false:=by unfold signL;rw[if_pos rfl];rfl
   rw[e1,e2,e3] at this;exact this
  ·have hlo:loC x=40:=if_neg q;obtain⟨e',hr⟩:=jnu (aa:=aa) (tk:=tk) (bg:=false) (a:=some (sT [x])) (b:=oI p) (cc:=c) (e:=e) (r:=r) hb B hn (by omega);rw[<- hlo] at hr;rw[jc1 (Y1:=dv aa tk false (some (sT [x])) (oI p) c lo e) rfl (jjb hx (fun _=>rfl) hN (by rw[zcb];omega) hr),if_neg i8];have:=fin e';have e0:signL aa.length l x p={ l with sg:=some (l.whole,x == 45,p),ph:=.emp }:=by
    unfold signL;rw[if_neg q];have cz:=jea hb;congr 3
    cases e:l.ph with
    | emp=>exact absurd e cz
    | _=>rfl
   have e1:vals (signL aa.length l x p::r)=vals r++[l.whole]:=by rw[e0];rfl
   have e2:jb9 (signL aa.length l x p::r)=jb9 r++opM r l++[(x,p)]:=by
    rw[e0,jct];have:sgC (x == 45)=x:=by rcases jcu hc with rfl|rfl|rfl<;>first|rfl|exact absurd rfl q
    show jb9 r++opM r l++[(sgC (x == 45),p)]=_;rw[this]
   have e3:bgL (signL aa.length l x p::r)=false:=by rw[e0];rfl
   rw[e1,e2,e3] at this;exact this
end
end
section
section
variable {aa:LL}{ts:List (List Nat×Int)}{res:Except Int Fm}{q:Int}
def jEz{α β:Type}{m m':MS α}{f:α->MS β}{Ω:Sto}(h:m Ω=m' Ω):m.b f Ω=m'.b f Ω:=by unfold MS.b;rw[h]
def dueD:Except Int Fm->D
 | .ok f=>.tup [.non,fm f]
 | .error q=>.tup [.int q,.non]
def jE9(hN:∀ b∈aa,Nm b)(h1:1<=aa.length)(hn:aa.length<=1000)(G:Go aa ts [new q] res)(hz:ts.length<=200)(hT:∀ q∈ts,Word q.1->LW aa q.1):∃ Ω,jhg [.lst (nmD aa),.lst (ts.map tkD)] []=some (.ok (dueD res),Ω):=by
 have L:=jyn (tk:=.lst (ts.map tkD)) hN hn G none none none none none (fun z=>nomatch z) (by rw[List.length_singleton];omega) hT;have hl:(nmD aa).length=aa.length:=by simp[nmD]
 unfold jhg;rw[jmd];show ∃ Ω,MS.b (jiw [oN aa,oL (ts.map tkD),none,none,none,none,none,none,none,none,none]) outE []=_;unfold jiw;rw[MS.b,eseq (Y':=[oN aa,oL (ts.map tkD),some (.tup (List.replicate aa.length (.int 0))),none,none,none,none,none,none,none,none]) (Ω':=[]) (lft (by
  have t1:jb3 [.int 0]=some (.tup [.int 0]):=rfl;simp only[stpA,jj6,hl,t1,jyx h1 hn];rfl))]
 rw[eseq (Y':=[oN aa,oL (ts.map tkD),some (.tup (List.replicate aa.length (.int 0))),some (.obj 0),none,none,none,none,none,none,none]) (Ω':=[.lst []]) rfl];rw[eseq (Y':=[oN aa,oL (ts.map tkD),some (.tup (List.replicate aa.length (.int 0))),some (.obj 0),some (.obj 1),none,none,none,none,none,none]) (Ω':=LS [] []) rfl];rw[eseq (Y':=dv aa (.lst (ts.map tkD)) true none none none none none) (Ω':=LS [] []) (lft rfl)];have e4:eFor (lF (jed (f2 gCat (vR 1) (fL jbq (jac (fL jb3 (jac (fC (.str ")")) (jac (f2 gSub (cI 0) (cI 1)) fNil))) fNil))))) (je4 6 7) jba (dv aa (.lst (ts.map tkD)) true none none none none none) (LS [] [])=forE jba (je4 6 7) (ts.map tkD++[snt]) (dv aa (.lst (ts.map tkD)) true none none none none none) (LS [] []):=by
  unfold eFor;rw[MS.b_ok (a:=ts.map tkD++[snt]) (Ω1:=LS [] []) (lft (by
   have t1:jb3 [.str (Str.ofString ")"),.int (0-1)]=some snt:=by rw[jql];rfl
   have t2:jbq [snt]=oL [snt]:=rfl;unfold dv;simp only[stpA,sub_int,t1,t2,jui (x:=ts.map tkD) (y:=[snt]) (by rw[zav];show _+1<=_;exact Nat.le_of_lt (small (by omega)))];rfl))]
 cases res with
 | error p =>
  obtain⟨Ω',L⟩:=L;exact⟨Ω',by rw[jg9 (e4.trans L)];rfl⟩
 | ok f =>
  obtain⟨bg,a,b,c,lo,e,L⟩:=L;refine⟨LS [f] [],?_⟩;rw[eseq (e4.trans L)];rfl
def juk{a:List Nat}{x pc:Option D}{o:Int}(ha:a≠[])(hl:a.length<=40)(hm:(∃ c r,a=c::r/\isL c=true)->a∈aa)(Ω:Sto):jf6 [oN aa,x,pc,some (sT a),oI o] Ω=some (.ok (.nx [oN aa,x,pc,some (sT a),oI o]),Ω):=by
 cases a with
 | nil=>exact absurd rfl ha
 | cons c r =>
  rw[List.length_cons] at hl;have t:DL.tAnd (tTru (jbg jbn (jac (f2 gIx (vR 3) (cI 0)) fNil))) (t2 je3 (vR 3) (vR 0)) [oN aa,x,pc,some (sT (c::r)),oI o]=oK false:=by
   cases q:isL c with
   | false=>simp only[stpA,ix0 (c:=c) (a:=r) (by omega),jft,q];rfl
   | true =>
    have g:je3 (sT (c::r)) (.lst (nmD aa))=some (.bl false):=by
     show (if (true&&(nmD aa).all jiv)=true then some (D.bl !(inD _ (nmD aa))) else none)=_;rw[jhs,if_pos (by decide),jkw,decide_eq_true (hm ⟨c,r,rfl,q⟩)];rfl
    simp only[stpA,ix0 (c:=c) (a:=r) (by omega),jft,q,g];rfl
  unfold jf6;rw[eif (lft t)];rfl
theorem jol{x pc:Option D}(Ω:Sto):∀ (ts:List (List Nat×Int)) (y z:Option D),(∀ q∈ts,q.1≠[]/\q.1.length<=40/\((∃ c r,q.1=c::r/\isL c=true)->q.1∈aa))->∃ y' z',forE jf6 (je4 3 4) (ts.map tkD) [oN aa,x,pc,y,z] Ω=some (.ok (.nx [oN aa,x,pc,y',z']),Ω)
 | [],y,z,_=>⟨y,z,rfl⟩
 | (a,o)::ts,y,z,h=>by
  obtain⟨h1,h2,h3⟩:=h (a,o) zaa;obtain⟨y',z',ih⟩:=jol (x:=x) (pc:=pc) Ω ts (some (sT a)) (oI o) fun q hq=>h q (zaw _ hq)
  exact⟨y',z',by rw[List.map_cons,jc1 rfl (juk h1 h2 h3 Ω),ih]⟩
def pcw:List (Nat×List Nat)->Nat->List (List Nat×Int)
 | [],_=>[]
 | (k,a)::s,o=>(a,((o+k:Nat):Int))::pcw s (o+k+a.length)
theorem jAr:∀ (ac:List (Nat×List Nat)) (o:Nat),(pcs ac o).map pcD=(pcw ac o).map tkD
 | [],_=>rfl
 | (k,a)::s,o=>by
  have ih:=jAr s (o+k+a.length);unfold pcs pcw;rw[List.map_cons,List.map_cons,ih];rfl
theorem jjr:∀ (ac:List (Nat×List Nat)) (o:Nat),(pcw ac o).map (·.1)=ac.map (·.2)
 | [],_=>rfl
 | (k,a)::s,o=>by
  unfold pcw;rw[List.map_cons,List.map_cons,jjr s]
def jDy(hn:aa.length<=1000){x:Str}{ac:List (Nat×List Nat)}{p:Nat}(hx:x.cps.toList=jb1 ac p)(hs:x.length<=50000)(A:Acc (ac.map (·.2)) "beginning" 0)(hz:ac.length<=1000)(G:Go aa (pcw ac 0) [new q] res)(hw:∀ q∈ac,q.2≠[]/\q.2.length<=40/\((∃ c r,q.2=c::r/\isL c=true)->q.2∈aa))(Ω:Sto):RecR res (jew [.lst (nmD aa),.str x] Ω):=by
 have e1:=jwg hx hs A (by omega);rw[jAr] at e1;have cu:(pcw ac 0).length=ac.length:=by have:=congrArg List.length (jjr ac 0);simpa using this
 obtain⟨y,z,lp⟩:=jol (aa:=aa) (x:=oS x) (pc:=oL ((pcw ac 0).map tkD)) Ω (pcw ac 0) none none (fun q hq=>by
  have:q.1∈ac.map (·.2):=by rw[<- jjr ac 0];exact List.mem_map_of_mem hq
  obtain⟨s,h1,h2⟩:=List.mem_map.mp this;rw[<- h2];exact hw s h1)
 have rk:=jq0 hn G (by omega) Ω;have mc:jgj jd0 (lF (jac (vR 0) (jac (vR 2) fNil))) [oN aa,oS x,oL ((pcw ac 0).map tkD),y,z] Ω=jd0 [.lst (nmD aa),.lst ((pcw ac 0).map tkD)] Ω:=by
  unfold jgj;rw[MS.b_ok (a:=[.lst (nmD aa),.lst ((pcw ac 0).map tkD)]) (Ω1:=Ω) (lft rfl)]
 have head:jew [.lst (nmD aa),.str x] Ω=MS.b (eRet (jgj jd0 (lF (jac (vR 0) (jac (vR 2) fNil)))) [oN aa,oS x,oL ((pcw ac 0).map tkD),y,z]) outE Ω:=by
  show MS.b (jhu [oN aa,oS x,none,none,none]) outE Ω=_;refine jEz ?_;unfold jhu;rw[eseq (Y':=[oN aa,oS x,oL ((pcw ac 0).map tkD),none,none]) (Ω':=Ω) (lft (by simp only[stpA,e1];rfl))];rw[eseq (Y':=[oN aa,oS x,oL ((pcw ac 0).map tkD),y,z]) (Ω':=Ω) (by
   unfold eFor;rw[MS.b_ok (a:=(pcw ac 0).map tkD) (Ω1:=Ω) (lft rfl)];exact lp)]
 rw[head]
 cases res with
 | ok f =>
  obtain⟨Ω',rk⟩:=rk;refine⟨Ω',(MS.b_ok (a:=.rt (fm f)) (Ω1:=Ω') ?_).trans rfl⟩;unfold eRet;rw[MS.b_ok (mc.trans rk)];rfl
 | error p =>
  obtain⟨Ω',rk⟩:=rk;refine⟨Ω',?_⟩;exact b_err (b_err (mc.trans rk))
end
end
section
def tz(x:Str)(ps:List (List Nat×Int))(k:Nat)(e s:Option D):DSt:=[oS x,oL (ps.map tkD),oI (k:Nat),e,s]
structure Sg(s:Str)(q:Nat->Bool):Prop where
 ok:∀ c,gInS (.str (S1 c)) (.str s)=some (.bl (q c))
section
variable {x:Str}{ps:List (List Nat×Int)}{s:Str}{q:Nat->Bool}
def z_in(S:Sg s q){k:Nat}{pre rest:List Nat}{c:Nat}(h:At x pre (c::rest)):jdb (tz x ps k (oI (pre.length:Nat)) (oS s))=oK (q c):=by
 have hl:=h.len;have e1:t2 gLt (vR 3) (fL kLen (jac (vR 0) fNil)) (tz x ps k (oI (pre.length:Nat)) (oS s))=oK true:=by
  unfold tz;simp only[stpA,len_str h.small,lt_int];rw[decide_eq_true (by rw[hl,List.length_cons];omega)];rfl
 have e2:t2 gInS (f2 gIx (vR 0) (vR 3)) (vR 4) (tz x ps k (oI (pre.length:Nat)) (oS s))=oK (q c):=by
  unfold tz;simp only[stpA,h.ix,S.ok];rfl
 unfold jdb DL.tAnd;rw[e1,M.b_ok];exact e2
def jKf{k:Nat}{pre:List Nat}(h:At x pre []):jdb (tz x ps k (oI (pre.length:Nat)) (oS s))=oK false:=by
 have hl:=h.len;have e1:t2 gLt (vR 3) (fL kLen (jac (vR 0) fNil)) (tz x ps k (oI (pre.length:Nat)) (oS s))=oK false:=by
  unfold tz;simp only[stpA,len_str h.small,lt_int];rw[decide_eq_false (by rw[hl,List.length_nil];omega)];rfl
 unfold jdb DL.tAnd;rw[e1,M.b_ok];rfl
def jIb(k e:Nat)(y:Option D):jen (tz x ps k (oI (e:Nat)) y)=nX (tz x ps k (oI ((e+1:Nat):Int)) y):=by
 unfold jen tz;simp only[stpA];rfl
theorem jId(S:Sg s q){k:Nat}{rest:List Nat}(hr:Stop q rest):∀ (a pre:List Nat) (m:Nat),At x pre (a++rest)->(∀ c∈a,q c=true)->a.length<m ->
  jb0 jdb jen m (tz x ps k (oI (pre.length:Nat)) (oS s))=nX (tz x ps k (oI ((pre.length+a.length:Nat):Int)) (oS s))
 | [],pre,m,h,ha,hm=>by
  obtain⟨m,rfl⟩:∃ j,m=j+1:=⟨m-1,by simp at hm;omega⟩
  rw[List.nil_append] at h
  cases rest with
  | nil=>exact jeh (jKf h)
  | cons c rest=>exact jeh (by rw[z_in S h,show q c=false from hr])
 | c::a,pre,m,h,ha,hm=>by
  obtain⟨m,rfl⟩:∃ j,m=j+1:=⟨m-1,by simp at hm;omega⟩
  rw[List.length_cons] at hm;rw[jgy (by rw[z_in S (rest:=a++rest) h,ha c zaa]) (jIb k pre.length _)];have h':At x (pre++[c]) (a++rest):=At.step (a:=[c]) h;have:=jId S (k:=k) hr a (pre++[c]) m h' (fun d hd=>ha d (zaw _ hd)) (by omega);rw[zcb,List.length_singleton] at this;rw[this,List.length_cons,Nat.add_assoc,Nat.add_comm 1]
def z_sg(S:Sg s q){pre rest a:List Nat}{c:Nat}{e:Nat}{y:Option D}(h:At x pre ((c::a)++rest))(hf:x.length<FUEL)(he:e=pre.length+1\/q c=false)(hq:q c=true->Stop q rest/\∀ d∈a,q d=true) :
  jeo (tz x ps pre.length (oI (e:Nat)) (oS s))=nX (tz x ps pre.length (oI ((if q c=true then pre.length+(c::a).length else e:Nat):Int)) (oS s)):=by
 have t:t2 gInS (f2 gIx (vR 0) (vR 2)) (vR 4) (tz x ps pre.length (oI (e:Nat)) (oS s))=oK (q c):=by
  unfold tz;simp only[stpA,h.ix (rest:=a++rest),S.ok];rfl
 unfold jeo;rw[jcx t]
 cases e1:q c with
 | false=>rfl
 | true =>
  rw[if_pos rfl,if_pos rfl];obtain⟨h1,h2⟩:=hq e1;have he:e=(pre++[c]).length:=by
   rcases he with he|he
   ·rw[he,zcb];rfl
   ·rw[e1] at he;cases he
  have hl:=h.len;rw[zcb,List.length_cons] at hl;rw[he,jId S (k:=pre.length) h1 a (pre++[c]) FUEL (At.step (a:=[c]) h) h2 (by omega),zcb,List.length_cons (as:=a),List.length_singleton,Nat.add_assoc,Nat.add_comm 1]
end
def jHc:Sg (Str.ofString "0123456789") isG:=⟨jAf⟩
def jHb:Sg (Str.ofString "abcdefghijklmnopqrstuvwxyz") isL:=⟨jFl⟩
inductive TP:List Nat->List Nat->Prop
 | nm (c:Nat) (a rest:List Nat) (h:isL c=true) (ha:∀ d∈a,isL d=true) (hr:Stop isL rest):TP (c::a) rest
 | dg (c:Nat) (a rest:List Nat) (h:isG c=true) (ha:∀ d∈a,isG d=true) (hr:Stop isG rest):TP (c::a) rest
 | one (c:Nat) (rest:List Nat) (h:isL c=false) (h':isG c=false):TP [c] rest
def jyi{c:Nat}(h:isL c=true):isG c=false:=by
 cases e:isG c with
 | false=>rfl
 | true=>rw[jgi e] at h;cases h
section
variable {x:Str}{ps:List (List Nat×Int)}{pre rest a:List Nat}{c:Nat}{e y:Option D}
def jKe(h:At x pre ((c::a)++rest))(P:TP (c::a) rest)(hf:x.length<FUEL):gFor (jed (fL jbq (jac (cS "0123456789") (jac (cS "abcdefghijklmnopqrstuvwxyz") fNil)))) (DL.gName 4) jeo (tz x ps pre.length (oI ((pre.length+1:Nat):Int)) y)=nX (tz x ps pre.length (oI ((pre.length+(c::a).length:Nat):Int)) (oS "abcdefghijklmnopqrstuvwxyz")):=by
 have qL:isL c=true->Stop isL rest/\∀ d∈a,isL d=true:=fun hc=>by
  cases P with
  | nm _ _ _ h0 ha hr=>exact⟨hr,ha⟩
  | dg _ _ _ h0 ha hr=>rw[jgi h0] at hc;cases hc
  | one _ _ h0 h'=>rw[h0] at hc;cases hc
 have qG:isG c=true->Stop isG rest/\∀ d∈a,isG d=true:=fun hc=>by
  cases P with
  | nm _ _ _ h0 ha hr=>rw[jyi h0] at hc;cases hc
  | dg _ _ _ h0 ha hr=>exact⟨hr,ha⟩
  | one _ _ h0 h'=>rw[h'] at hc;cases hc
 have s1:=z_sg (ps:=ps) (y:=y) jHc (e:=pre.length+1) h hf (.inl rfl) qG;have s2:=z_sg (ps:=ps) (y:=y) jHb (e:=if isG c=true then pre.length+(c::a).length else pre.length+1) h hf (by
  cases hg:isG c with
  | true=>exact .inr (jgi hg)
  | false=>left;rw[if_neg (by decide)]) qL
 have fin:(if isL c=true then pre.length+(c::a).length else if isG c=true then pre.length+(c::a).length else pre.length+1)=pre.length+(c::a).length:=by
  cases P with
  | nm _ _ _ h0 ha hr=>rw[if_pos h0]
  | dg _ _ _ h0 ha hr=>rw[if_pos h0];split<;>rfl
  | one _ _ h0 h'=>rw[if_neg (by rw[h0];decide),if_neg (by rw[h'];decide)];rfl
 rw[fin] at s2;have hl:jed (fL jbq (jac (cS "0123456789") (jac (cS "abcdefghijklmnopqrstuvwxyz") fNil))) (tz x ps pre.length (oI ((pre.length+1:Nat):Int)) y)=some (.ok [.str "0123456789",.str "abcdefghijklmnopqrstuvwxyz"]):=rfl;rw[jJ9 hl,jrx (Y1:=tz x ps pre.length (oI ((pre.length+1:Nat):Int)) (oS "0123456789")) rfl s1,jrx (Y1:=tz x ps pre.length (oI ((if isG c=true then pre.length+(c::a).length else pre.length+1:Nat):Int)) (oS "abcdefghijklmnopqrstuvwxyz")) rfl s2];rfl
def jIf(h:At x pre ((c::a)++rest))(P:TP (c::a) rest)(hf:x.length<FUEL)(hz:ps.length<=1000):jch (tz x ps pre.length e y)=nX (tz x (if (c == 32)=true then ps else ps++[(c::a,(pre.length:Int))]) (pre++(c::a)).length (oI ((pre.length+(c::a).length:Nat):Int)) (oS "abcdefghijklmnopqrstuvwxyz")):=by
 unfold jch;rw[jav (Y':=tz x ps pre.length (oI ((pre.length+1:Nat):Int)) y) (by unfold tz;simp only[stpA];rfl),jav (jKe h P hf)];have t:t2 gNe (f2 gIx (vR 0) (vR 2)) (fC (.str " ")) (tz x ps pre.length (oI ((pre.length+(c::a).length:Nat):Int)) (oS "abcdefghijklmnopqrstuvwxyz"))=oK (!(c == 32)):=by
  have:gNe (.str (S1 c)) (.str " ")=some (.bl !(c == 32)):=by
   rw[<- jpw,jC5]
   by_cases z:c=32
   ·rw[z];rfl
   ·rw[beq_eq_false_iff_ne.mpr z,beq_eq_false_iff_ne.mpr (fun w=>z (List.cons.inj w).1)]
  unfold tz;simp only[stpA,h.ix (rest:=a++rest),this];rfl
 cases q:c == 32 with
 | true =>
  rw[q] at t;rw[jav (by rw[jcx t];rfl)];rw[if_pos rfl,zcb];rfl
 | false =>
  rw[q] at t;have ct:=h.cut
  let Y:=tz x ps pre.length (oI ((pre.length+(c::a).length:Nat):Int)) (oS "abcdefghijklmnopqrstuvwxyz")
  have sl:fSl (vR 0) (jcc (vR 2)) (jcc (vR 3)) Y=M.p (sT (c::a)):=jtw rfl (show jcc (vR 2) Y=M.p (some ((pre.length:Nat):Int)) from rfl) (show jcc (vR 3) Y=M.p (some ((pre.length+(c::a).length:Nat):Int)) from rfl) ct;have ap:=jHx (Y:=Y) (fa:=fL jb3 (jac (fSl (vR 0) (jcc (vR 2)) (jcc (vR 3))) (jac (vR 2) fNil))) (d:=tkD (c::a,(pre.length:Int))) (ds:=ps.map tkD) 1 (by rw[e_L,juv,sl];rfl) rfl (by rw[zav];omega);rw[jav (Y':=tz x (ps++[(c::a,(pre.length:Int))]) pre.length (oI ((pre.length+(c::a).length:Nat):Int)) (oS "abcdefghijklmnopqrstuvwxyz")) (by
   rw[jcx t,Bool.not_false,if_pos rfl];refine ap.trans ?_;unfold tz;rw[List.map_append];rfl)]
  rw[if_neg (by decide),zcb];rfl
def z_go(h:At x pre (c::rest)):jbt (tz x ps pre.length e y)=oK true:=by
 have hl:=h.len;unfold jbt tz;simp only[stpA,len_str h.small,lt_int];rw[decide_eq_true (by rw[hl,List.length_cons];omega)];rfl
def jIe(h:At x pre []):jbt (tz x ps pre.length e y)=oK false:=by
 have hl:=h.len;unfold jbt tz;simp only[stpA,len_str h.small,lt_int];rw[decide_eq_false (by rw[hl,List.length_nil];omega)];rfl
end
theorem jn8{x:Str}{rest:List Nat}{ps:List (List Nat×Int)}(hf:x.length<FUEL)(hz:ps.length<=1000):∀ (k:Nat) (pre:List Nat) (m:Nat) (e y:Option D),At x pre (List.replicate k 32++rest) ->
  ∃ e' y',jb0 jbt jch (m+k) (tz x ps pre.length e y)=jb0 jbt jch m (tz x ps (pre++List.replicate k 32).length e' y')/\At x (pre++List.replicate k 32) rest
 | 0,pre,m,e,y,h=>⟨e,y,by simp,by simpa using h⟩
 | k+1,pre,m,e,y,h=>by
  rw[List.replicate_succ,List.cons_append] at h;have q:=jIf (ps:=ps) (e:=e) (y:=y) (a:=[]) h (.one 32 _ rfl rfl) hf hz;rw[if_pos (by decide)] at q;obtain⟨e2,y2,q2,h2⟩:=jn8 hf hz k (pre++[32]) m _ _ (At.step (a:=[32]) h);refine⟨e2,y2,?_,?_⟩
  ·rw[<- Nat.add_assoc,jgy (z_go h) q,q2];congr 2;simp
  ·rw[List.replicate_succ];simpa using h2
def jIc{x:Str}{p:Nat}(hf:x.length<FUEL):∀ (ac:List (Nat×List Nat)) (pre:List Nat) (ps:List (List Nat×Int)) (d:Nat) (wt:Str) (e y:Option D) (m:Nat),At x pre (jb1 ac p)->Acc (ac.map (·.2)) wt d->(jb1 ac p).length<m->ps.length+ac.length<=1000 ->
  ∃ e' y' pl,jb0 jbt jch m (tz x ps pre.length e y)=nX (tz x (ps++pcw ac pre.length) pl e' y'):=by
 intro ac
 induction ac with
 | nil =>
  intro pre ps d wt e y m h A hm hz;obtain⟨j,rfl⟩:∃ j,m=j+1+p:=⟨m-1-p,by simp[jb1] at hm;omega⟩
  have h0:At x pre (List.replicate p 32++[]):=by rw[List.append_nil];exact h
  obtain⟨e',y',q,h2⟩:=jn8 (ps:=ps) hf (by simpa using hz) p pre (j+1) e y h0;exact⟨e',y',(pre++List.replicate p 32).length,by rw[q,jeh (jIe h2),show pcw [] pre.length=[] from rfl,List.append_nil]⟩
 | cons sg ac ih =>
  intro pre ps d wt e y m h A hm hz;obtain⟨k,a⟩:=sg;rw[List.map_cons] at A;have hr:(jb1 ((k,a)::ac) p).length=k+(a.length+(jb1 ac p).length):=by rw[show jb1 ((k,a)::ac) p=List.replicate k 32++(a++jb1 ac p) from rfl];simp
  rw[hr] at hm;rw[List.length_cons] at hz;have fin:∀ (c:Nat) (a':List Nat) (d':Nat) (cr:Str),a=c::a'->TP (c::a') (jb1 ac p)->c≠32->Acc (ac.map (·.2)) cr d' ->
    ∃ e' y' pl,jb0 jbt jch m (tz x ps pre.length e y)=nX (tz x (ps++pcw ((k,a)::ac) pre.length) pl e' y'):=by
   rintro c a' d' cr rfl P hs A';rw[List.length_cons] at hm;obtain⟨j,rfl⟩:∃ j,m=j+1+k:=⟨m-1-k,by omega⟩
   obtain⟨e1,y1,q1,h1⟩:=jn8 (ps:=ps) hf (by omega) k pre (j+1) e y h;have q:=jIf (ps:=ps) (e:=e1) (y:=y1) h1 P hf (by omega);rw[if_neg (by rw[beq_eq_false_iff_ne.mpr hs];decide)] at q;obtain⟨e',y',pl,q3⟩:=ih _ (ps++[(c::a',((pre++List.replicate k 32).length:Int))]) d' cr _ _ j (At.step h1) A' (by omega) (by rw[zcb,List.length_singleton];omega);refine⟨e',y',pl,?_⟩;rw[q1,jgy (z_go (rest:=a'++jb1 ac p) h1) q,q3];simp[pcw,Nat.add_assoc]
  cases A with
  | word hw hb A' =>
   have sL:Stop isL (jb1 ac p):=jn4 rfl rfl ⟨rfl,rfl,rfl⟩ ac p d A';have sG:Stop isG (jb1 ac p):=jn4 rfl rfl ⟨rfl,rfl,rfl⟩ ac p d A'
   cases hw with
   | zero=>exact fin 48 [] d "behind" rfl (.dg 48 [] _ rfl (fun _ z=>nomatch z) sG) (by decide) A'
   | name h1 h2 h3 =>
    cases a with
    | nil=>exact absurd rfl h1
    | cons c a' =>
     have hc:=h2 c zaa;exact fin c a' d "behind" rfl (.nm c a' _ hc (fun d hd=>h2 d (zaw _ hd)) sL) (by rintro rfl;exact absurd hc (by decide)) A'
   | num h1 h2 h3 =>
    cases a with
    | nil=>exact absurd rfl h1
    | cons c a' =>
     have hc:=h2 c zaa;exact fin c a' d "behind" rfl (.dg c a' _ hc (fun d hd=>h2 d (zaw _ hd)) sG) (by rintro rfl;exact absurd hc (by decide)) A'
  | opn hb A'=>exact fin 40 [] (d+1) "beginning" rfl (.one 40 _ rfl rfl) (by decide) A'
  | cls A' =>
   rename_i d';exact fin 41 [] d' "behind" rfl (.one 41 _ rfl rfl) (by decide) A'
  | neg A'=>exact fin 45 [] d "factor" rfl (.one 45 _ rfl rfl) (by decide) A'
  | bin hc A' =>
   rename_i c;have hl:isL c=false/\isG c=false/\c≠32:=by rcases jcu hc with rfl|rfl|rfl<;>exact⟨rfl,rfl,by decide⟩
   exact fin c [] d "factor" rfl (.one c _ hl.1 hl.2.1) hl.2.2 A'
def jxg{x:Str}{ac:List (Nat×List Nat)}{p:Nat}(hx:x.cps.toList=jb1 ac p)(hs:x.length<=50000)(A:Acc (ac.map (·.2)) "beginning" 0)(hz:ac.length<=1000) :
  jee [.str x]=oK (.lst ((pcw ac 0).map tkD)):=by
 have hf:x.length<FUEL:=by rw[jp2];exact Nat.lt_of_le_of_lt (by assumption) (by decide)
 have hl:(jb1 ac p).length=x.length:=by rw[<- hx];simp[Str.length]
 obtain⟨e,y,pl,q⟩:=jIc hf ac [] [] 0 "beginning" none none FUEL ⟨hx,hs⟩ A (by omega) (by simp;assumption);unfold jee;rw[jg8];unfold jhd;show M.b (gSeq _ _ [oS x,none,none,none,none]) outD=_;rw[jav (Y':=[oS x,oL [],none,none,none]) rfl,jav (Y':=tz x [] ([]:List Nat).length none none) rfl,jav q];rfl
end
section
def Pre(ts:LL)(wt:Str)(d:Nat):Prop:=∀ rest,Acc rest wt d->Acc (ts++rest) "beginning" 0
section
variable {ts:LL}{wt:Str}{d:Nat}{a:List Nat}
def Pre.word(h:Pre ts wt d)(hw:Word a)(hb:(wt == Str.ofString "behind")=false):Pre (ts++[a]) "behind" d:=fun rest A=>by rw[List.append_assoc];exact h _ (.word hw hb A)
def Pre.opn(h:Pre ts wt d)(hb:(wt == Str.ofString "behind")=false):Pre (ts++[[40]]) "beginning" (d+1):=fun rest A=>by rw[List.append_assoc];exact h _ (.opn hb A)
def Pre.cls(h:Pre ts "behind" (d+1)):Pre (ts++[[41]]) "behind" d:=fun rest A=>by rw[List.append_assoc];exact h _ (.cls A)
def Pre.neg(h:Pre ts "beginning" d):Pre (ts++[[45]]) "factor" d:=fun rest A=>by rw[List.append_assoc];exact h _ (.neg A)
def Pre.bin{c:Nat}(h:Pre ts "behind" d)(hc:jc3 (St [c])=true):Pre (ts++[[c]]) "factor" d:=fun rest A=>by rw[List.append_assoc];exact h _ (.bin hc A)
theorem Acc.end:∀ d:Nat,Acc (List.replicate d [41]) "behind" d
 | 0=>.done
 | d+1=>.cls (Acc.end d)
end
def opT(a:List Nat):Bool:=inD (sT a) [.str "(",.str "+",.str "-",.str "*"]
def jpe(a:List Nat):opT a=([40] == a || ([43] == a || ([45] == a || ([42] == a || false)))):=by
 unfold opT;rw[jm7,jyo,jkz,jyp];show (St [40] == St a || (St [43] == St a || (St [45] == St a || (St [42] == St a || false))))=_;rw[jcf,jcf,jcf,jcf]
structure TokOk(aa:LL)(a:List Nat):Prop where
 ne:a≠[]
 len:a.length<=40
 wd:Word a->LW aa a/\FB aa.length 4 (frmW aa a)
 nm:(∃ c r,a=c::r/\isL c=true)->a∈aa
def jjc{aa:LL}{c:Nat}(h1:isL c=false)(h2:isG c=false):TokOk aa [c]:=by
 refine⟨(fun z=>nomatch z),(show 1<=40 by decide),fun w=>?_,fun ⟨c',r,e,h⟩=>?_⟩
 ·obtain⟨_,_,_,c',r,e,_,h⟩:=jd3 w;cases e;rcases h with h|h
  ·rw[h1] at h;cases h
  ·rw[h2] at h;cases h
 ·cases e;rw[h1] at h;cases h
def bt01{n:Int}(h:n=0\/n=1):Bt 4 n:=by unfold Bt;rcases h with rfl|rfl<;>decide
def jsy{aa:LL}{a:List Nat}(h:a∈aa)(hN:Nm a):TokOk aa a/\Word a/\opT a=false:=by
 have hw:Word a:=.name hN.ne hN.al hN.le;obtain⟨c,r,rfl⟩:∃ c r,a=c::r:=by cases a with|nil=>exact absurd rfl hN.ne|cons c r=>exact⟨c,r,rfl⟩
 have hc:=hN.al c zaa;have hl:(c::r).length<=40:=zdy hN.le (by decide);refine⟨⟨hN.ne,hl,fun _=>⟨⟨hw,hl,.inl h⟩,?_⟩,fun _=>h⟩,hw,?_⟩
 ·unfold frmW;dsimp only;rw[if_pos hc];exact⟨by simp,fun n hn=>by obtain⟨b,_,rfl⟩:=List.mem_map.mp hn;exact bt01 (by split;exact .inr rfl;exact .inl rfl),bt01 (.inl rfl)⟩
 ·rw[jpe];have:∀ x:Nat,isL x=false->([x] == c::r)=false:=fun x hx=>beq_eq_false_iff_ne.mpr fun z=>by cases z;rw[hx] at hc;cases hc
  rw[this 40 rfl,this 43 rfl,this 45 rfl,this 42 rfl];rfl
def jEf{aa:LL}{m:Nat}(h:m<4):TokOk aa [48+m]/\Word [48+m]/\opT [48+m]=false:=by
 have hg:isG (48+m)=true:=by unfold isG;rw[decide_eq_true (by omega),decide_eq_true (by omega)];rfl
 have db:∀ c∈[48+m],isG c=true:=fun c hc=>by rw[zcc.mp hc];exact hg
 have hw:Word [48+m]:=by
  rcases Nat.eq_zero_or_pos m with rfl|hp
  ·exact .zero
  ·exact .num (fun z=>nomatch z) db (fun z=>by have:=zby z;omega)
 refine⟨⟨(fun z=>nomatch z),(show 1<=40 by decide),fun _=>⟨⟨hw,(show 1<=40 by decide),.inr db⟩,?_⟩,fun ⟨c,r,e,hc⟩=>by cases e;rw[jgi hg] at hc;cases hc⟩,hw,?_⟩
 ·unfold frmW;dsimp only;rw[if_neg (by rw[jgi hg];decide)];refine⟨by simp,fun n hn=>bt01 (.inl (List.mem_replicate.mp hn).2),?_⟩;have:digitsVal [48+m]=m:=by show 0*10+(48+m-48)=m;omega
  show Bt 4 ((digitsVal [48+m]:Nat):Int);rw[this];unfold Bt;omega
 ·rw[jpe];have:∀ x:Nat,isG x=false->([x] == [48+m])=false:=fun x hx=>beq_eq_false_iff_ne.mpr fun z=>by
   have:=(List.cons.inj z).1;rw[this,hg] at hx;cases hx
  rw[this 40 rfl,this 43 rfl,this 45 rfl,this 42 rfl];rfl
structure Bd(aa ts:LL)(d:Nat)(wt:Str):Prop where
 pre:Pre ts wt d
 lst:(wt="behind"/\∃ b9 a,ts=b9++[a]/\opT a=false)\/(wt="beginning"/\(ts=[]\/∃ b9,ts=b9++[[40]]))
 tok:∀ a∈ts,TokOk aa a
 dep:d<=5
abbrev bd(ns:List Int)(aa ts:LL)(d:Nat)(c n:Option D):DSt:=[some (scr ns),oN aa,oN ts,oI (d:Nat),c,n]
section
variable {ns:List Int}{aa ts:LL}{d:Nat}{c n:Option D}{a:List Nat}
def jh9{fa:DSt->M D}(h:fa (bd ns aa ts d c n)=oK (sT a))(hl:ts.length<=1000):gApp 2 fa (bd ns aa ts d c n)=nX (bd ns aa (ts++[a]) d c n):=by
 rw[jHx (d:=sT a) (ds:=nmD ts) 2 h rfl (by simp[nmD];omega),show nmD ts++[sT a]=_ from jo8 ts [a]];rfl
def jr3:L2.atI (nmD (ts++[a])) (-1)=some (sT a):=by
 rw[<- jo8];exact jp3 _ _
def jq7{x:Int}{wt:Str}(hN:∀ b∈aa,Nm b)(h1:1<=aa.length)(hn:aa.length<=1000)(P:Pre ts wt d)(hb:(wt == Str.ofString "behind")=false)(hT:∀ a∈ts,TokOk aa a)(hd:d<=5)(h0:0<=x)(hl:ts.length<=900):∃ b9 d' cr n',gSeq (gSet 5 (f2 jhb (vR 5) (cI 48)))
  (gIf (DL.tAnd (t2 gEq (f2 gMod (vR 5) (cI 4)) (cI 0)) (t2 gLt (vR 3) (cI 5))) (gSeq (gApp 2 (fC (.str "(")))
  (gSet 3 (f2 gCat (vR 3) (cI 1)))) (gApp 2 (f2 gIx (fL jbq (jac (f2 gIx (vR 1) (f2 gMod (f2 jhb (vR 5) (cI 4)) (fL kLen (jac (vR 1) fNil)))) (jac (fL kStr (jac (f2 gMod (f2 jhb (vR 5) (cI 16)) (cI 4)) fNil)) fNil))) (fL kIntT (jac (f2 gEq (f2 gMod (vR 5) (cI 4)) (cI 1)) fNil))))) (bd ns aa ts d c (oI x))=nX (bd ns aa b9 d' c n')/\Bd aa b9 d' cr/\b9.length=ts.length+1:=by
 have f48:=jgc (i:=x) (j:=48) (by decide) (by decide);have y0:0<=x / 48:=Int.ediv_nonneg h0 (by decide);rw[jav (Y':=bd ns aa ts d c (oI (x / 48))) (by simp only[stpA,f48];rfl)];generalize x / 48=y at y0;have m4:=jcv (i:=y) (j:=4) (by decide);have t:DL.tAnd (t2 gEq (f2 gMod (vR 5) (cI 4)) (cI 0)) (t2 gLt (vR 3) (cI 5)) (bd ns aa ts d c (oI y))=oK (y % 4 == 0&&decide (d<5)):=by
  have e1:t2 gEq (f2 gMod (vR 5) (cI 4)) (cI 0) (bd ns aa ts d c (oI y))=oK (y % 4 == 0):=by simp only[stpA,m4];rfl
  have e2:t2 gLt (vR 3) (cI 5) (bd ns aa ts d c (oI y))=oK (decide (d<5)):=by
   simp only[stpA,lt_int];rw[show decide ((d:Int)<5)=decide (d<5) from by rw[decide_eq_decide];omega];rfl
  unfold DL.tAnd;rw[e1,M.b_ok]
  cases y % 4 == 0 with
  | true=>exact e2
  | false=>rfl
 rw[jcx t]
 by_cases q:(y % 4 == 0&&decide (d<5))=true
 ·rw[if_pos q];rw[Bool.and_eq_true,decide_eq_true_eq] at q;refine⟨ts++[[40]],d+1,"beginning",oI y,?_,⟨P.opn hb,.inr ⟨rfl,.inr ⟨ts,rfl⟩⟩,fun b hb=>?_,by omega⟩,by simp⟩
  ·rw[jav (jh9 (a:=[40]) (by rw[jm7];rfl) (by omega))];simp only[stpA];rfl
  ·rcases zdx.mp hb with hb|hb
   ·exact hT b hb
   ·rw[zcc.mp hb];exact jjc rfl rfl
 ·rw[if_neg q];have c6:(nmD aa).length=aa.length:=by simp[nmD]
  have f4:=jgc (i:=y) (j:=4) (by decide) (by decide);have c0:=jgc (i:=y) (j:=16) (by decide) (by decide);have mn:=jcv (i:=y / 4) (j:=(aa.length:Int)) (by omega);have gm:=jcv (i:=y / 16) (j:=4) (by decide);have r1:=zcw (y / 4) (show (aa.length:Int)≠0 by omega);have r2:=zca (y / 4) (show (0:Int)<(aa.length:Int) by omega);obtain⟨i,hi⟩:=Int.eq_ofNat_of_zero_le r1;rw[hi] at mn r2;have gy:i<aa.length:=by omega
  have gi:gIx (.lst (nmD aa)) (.int (i:Nat))=some (sT aa[i]):=by
   rw[ix_l];exact DL.atI_get (by simp[nmD,gy])
  have r3:=zcw (y / 16) (show (4:Int)≠0 by decide);have r4:=zca (y / 16) (show (0:Int)<4 by decide);obtain⟨j,hj⟩:=Int.eq_ofNat_of_zero_le r3;rw[hj] at gm r4;have hj2:j<4:=by omega
  have ks:kStr [.int (j:Nat)]=some (sT [48+j]):=by
   have:j=0\/j=1\/j=2\/j=3:=by omega
   rcases this with rfl|rfl|rfl|rfl<;>(show some (D.str _)=some (D.str _);congr 2<;>decide +kernel)
  have fin:∀ a:List Nat,TokOk aa a/\Word a/\opT a=false->∃ b9 d' cr n',nX (bd ns aa (ts++[a]) d c (oI y))=(nX (bd ns aa b9 d' c n'):M Out)/\Bd aa b9 d' cr/\b9.length=ts.length+1:=fun a ⟨h1,h2,h3⟩ =>
   ⟨ts++[a],d,"behind",oI y,rfl,⟨P.word h2 hb,.inl ⟨rfl,ts,a,rfl,h3⟩,fun b hb=>by
    rcases zdx.mp hb with hb|hb
    ·exact hT b hb
    ·rw[zcc.mp hb];exact h1,hd⟩,by simp⟩
  have l2:∀ u v:D,jbq [u,v]=some (.lst [u,v]):=fun u v=>rfl
  by_cases q2:(y % 4 == 1)=true
  ·rw[jh9 (a:=[48+j]) (by
    simp only[stpA,f4,c0,jj6,c6,mn,gi,gm,ks,l2,m4,jru,q2];rfl) (by omega)]
   exact fin _ (jEf hj2)
  ·rw[Bool.not_eq_true] at q2;rw[jh9 (a:=aa[i]) (by
    simp only[stpA,f4,c0,jj6,c6,mn,gi,gm,ks,l2,m4,jru,q2];rfl) (by omega)]
   exact fin _ (jsy (List.getElem_mem gy) (hN _ (List.getElem_mem gy)))
theorem jv0:∀ ns:LL,okDs (nmD ns)=true
 | []=>rfl
 | a::ns=>by show (true&&okDs (nmD ns))=true;rw[jv0 ns];rfl
theorem jro:∀ ns:LL,depDs (nmD ns)=0
 | []=>by unfold nmD depDs;rfl
 | n::ns=>by
  show depDs (D.str (St n)::nmD ns)=0;unfold depDs;rw[jro ns];unfold depD;rfl
def jHn{g:DSt->M Bool}:DL.tAnd (t2 gGt (jqc (fL kLen (jac (vR 2) fNil))) (cI 0)) g (bd ns aa [] d c n)=oK false:=rfl
def jxc(hl:ts.length<=900):DL.tAnd (t2 gGt (jqc (fL kLen (jac (vR 2) fNil))) (cI 0)) (t2 je3 (f2 gIx (vR 2) (f1 gNeg (cI 1))) (fL jb3 (jac (fC (.str "(")) (jac (cS "+") (jac (cS "-") (jac (cS "*") fNil)))))) (bd ns aa (ts++[a]) d c n)=oK (!opT a):=by
 have c6:(nmD (ts++[a])).length=ts.length+1:=by simp[nmD]
 have e1:t2 gGt (jqc (fL kLen (jac (vR 2) fNil))) (cI 0) (bd ns aa (ts++[a]) d c n)=oK true:=by
  rw[e_t2];unfold jqc;have:fL kLen (jac (vR 2) fNil) (bd ns aa (ts++[a]) d c n)=oK (.int ((ts.length+1:Nat):Int)):=by
   simp only[stpA,jj6,c6];rfl
  rw[this];show asB (gGt (.int ((ts.length+1:Nat):Int)) (.int 0))=_;rw[gt_int,decide_eq_true (by omega)];rfl
 have e2:t2 je3 (f2 gIx (vR 2) (f1 gNeg (cI 1))) (fL jb3 (jac (fC (.str "(")) (jac (cS "+") (jac (cS "-") (jac (cS "*") fNil))))) (bd ns aa (ts++[a]) d c n)=oK (!opT a):=by
  simp only[stpA,neg_int,jr3];rfl
 unfold DL.tAnd;rw[e1,M.b_ok];exact e2
def jzf:cutD (.lst (nmD ts)) (some (-1)) none=oL (match ts.getLast? with|none=>[]|some a=>[sT a]):=by
 show some (D.lst (cutL (nmD ts) (some (-1)) none))=_;congr 2;rcases List.eq_nil_or_concat ts with rfl|⟨t,a,rfl⟩
 ·rfl
 ·rw[List.concat_eq_append,List.getLast?_concat,<- jo8];show cutL (nmD t++[sT a]) (some (-1)) none=[sT a];unfold cutL;have e1:HT.sIx (nmD t++[D.str (St a)]).length 0 (some (-1))=(nmD t).length:=by
   unfold HT.sIx;rw[zcb];simp;omega
  have e2:HT.sIx (nmD t++[D.str (St a)]).length (nmD t++[D.str (St a)]).length none=(nmD t).length+1:=by
   unfold HT.sIx;rw[zcb];rfl
  rw[e1,e2,List.drop_left];rw[List.take_of_length_le];simp
def jD9:fSl (vR 2) (jcc (f1 gNeg (cI 1))) jjq (bd ns aa ts d c n)=M.p (.lst (match ts.getLast? with|none=>[]|some a=>[sT a])) :=
 jtw (lo:=some (-1)) (hi:=none) rfl rfl rfl jzf
def jqr{s:Str}{z:Nat}(hs:s=St [z])(h:ts=[]\/∃ t,ts=t++[[40]])(hz:z≠40):t2 gNe (fSl (vR 2) (jcc (f1 gNeg (cI 1))) jjq) (fL jbq (jac (cS s) fNil)) (bd ns aa ts d c n)=oK true:=by
 rw[e_t2,jD9,hs];rcases h with rfl|⟨t,rfl⟩
 ·rfl
 ·rw[List.getLast?_concat];show asB (some (D.bl !(eqB (.lst [sT [40]]) (.lst [sT [z]]))))=_;have:eqB (.lst [sT [40]]) (.lst [sT [z]])=(St [40] == St [z]):=by
   show ((St [40] == St [z])&&true)=_;rw[Bool.and_true]
  rw[this,jcf,beq_eq_false_iff_ne.mpr (fun w=>hz (List.cons.inj w).1.symm)];rfl
def six:(Str.ofString "*+*-*-")=St [42,43,42,45,42,45]:=by decide +kernel
def jJr{i:Int}(h0:0<=i)(h6:i<6):∃ c:Nat,gIx (.str "*+*-*-") (.int i)=some (sT [c])/\jc3 (St [c])=true:=by
 have hi:i=0\/i=1\/i=2\/i=3\/i=4\/i=5:=by omega
 have e9:jc3 (St [42])=true:=by decide +kernel
 have s43:jc3 (St [43])=true:=by decide +kernel
 have i7:jc3 (St [45])=true:=by decide +kernel
 have e:∀ i,gIx (.str "*+*-*-") (.int i)=(L2.atI [42,43,42,45,42,45] i).map fun c=>D.str (St [c]):=fun i=>by
  rw[six];show (if (St [42,43,42,45,42,45]).length<=sizeLine then (L2.atI (St [42,43,42,45,42,45]).cps.toList i).map fun c=>D.str ⟨#[c]⟩ else none)=_;rw[if_pos (by rw[jh8,sizeLine_eq];decide)];rfl
 rcases hi with rfl|rfl|rfl|rfl|rfl|rfl
 ·exact⟨42,e 0,e9⟩
 ·exact⟨43,e 1,s43⟩
 ·exact⟨42,e 2,e9⟩
 ·exact⟨45,e 3,i7⟩
 ·exact⟨42,e 4,e9⟩
 ·exact⟨45,e 5,i7⟩
def jBa{g1 g2:DSt->M Out}{Y Y':DSt}(h:g1 Y=some (.ok (.ct Y'))):gSeq g1 g2 Y=oK (.ct Y'):=by rw[jmu,h,M.b_ok];rfl
def BdS(ns:List Int)(aa:LL)(m:Nat)(Y:DSt):Prop:=∃ ts d wt c n,Y=bd ns aa ts d c n/\Bd aa ts d wt/\ts.length<=m
def js5{y:Int}{wt:Str}(hN:∀ b∈aa,Nm b)(h1:1<=aa.length)(hn:aa.length<=1000)(B:Bd aa ts d wt)(hl:ts.length<=800):∃ Y2,(jdm (bd ns aa ts d (oI y) n)=nX Y2\/jdm (bd ns aa ts d (oI y) n)=oK (.ct Y2))/\BdS ns aa (ts.length+2) Y2:=by
 have w:=jxl (n:=y) (p:=2) (by decide) (by decide);have r:=jDx (n:=y) (p:=2) (by decide) (by decide);generalize mixF y 2=x at w r;have f6:=jgc (i:=x) (j:=6) (by decide) (by decide);have m6:=jcv (i:=x) (j:=6) (by decide);have m66:=jcv (i:=x / 6) (j:=6) (by decide);have m68:=jcv (i:=x / 6) (j:=8) (by decide);have s1:gSet 5 (jbg jcp (jac (vR 4) (jac (cI 2) fNil))) (bd ns aa ts d (oI y) n)=nX (bd ns aa ts d (oI y) (oI x)):=by simp only[stpA,w];rfl
 unfold jdm;rw[jav s1];rcases B.lst with ⟨rfl,b9,a,rfl,ha⟩|⟨rfl,cw⟩
 ·have c6:b9.length<=900:=by rw[zcb] at hl;omega
  have tA:=jxc (ns:=ns) (aa:=aa) (ts:=b9) (a:=a) (d:=d) (c:=oI y) (n:=oI x) c6;rw[ha] at tA;generalize b9++[a]=ts at *;have t1:DL.tAnd (t2 gEq (f2 gMod (vR 5) (cI 6)) (cI 0)) (t2 gGt (vR 3) (cI 0)) (bd ns aa ts d (oI y) (oI x))=oK (x % 6 == 0&&decide (0<d)):=by
   have e1:t2 gEq (f2 gMod (vR 5) (cI 6)) (cI 0) (bd ns aa ts d (oI y) (oI x))=oK (x % 6 == 0):=by simp only[stpA,m6];rfl
   have e2:t2 gGt (vR 3) (cI 0) (bd ns aa ts d (oI y) (oI x))=oK (decide (0<d)):=by
    simp only[stpA,gt_int];rw[show decide ((d:Int) > 0)=decide (0<d) from by rw[decide_eq_decide];omega];rfl
   unfold DL.tAnd;rw[e1,M.b_ok]
   cases x % 6 == 0 with
   | true=>exact e2
   | false=>rfl
  by_cases q:(x % 6 == 0&&decide (0<d))=true
  ·rw[q] at t1;rw[Bool.and_eq_true,decide_eq_true_eq] at q;obtain⟨d,rfl⟩:∃ d',d=d'+1:=⟨d-1,by omega⟩
   refine⟨bd ns aa (ts++[[41]]) d (oI y) (oI x),.inr ?_,ts++[[41]],d,"behind",_,_,rfl,⟨B.pre.cls,.inl ⟨rfl,ts,[41],rfl,by rw[jpe];rfl⟩,fun b hb=>?_,by have:=B.dep;omega⟩,by simp⟩
   ·refine jBa ?_;rw[jcx tA,Bool.not_false,if_pos rfl];refine jBa ?_;rw[jcx t1,if_pos rfl,jav (jh9 (a:=[41]) (by rw[jql];rfl) (by omega)),jav (Y':=bd ns aa (ts++[[41]]) d (oI y) (oI x)) (by
     simp only[stpA,sub_int];rw[show ((d+1:Nat):Int)-1=(d:Nat) by omega];rfl)]
    rfl
   ·rcases zdx.mp hb with hb|hb
    ·exact B.tok b hb
    ·rw[zcc.mp hb];exact jjc rfl rfl
  ·rw[Bool.not_eq_true] at q;rw[q] at t1;obtain⟨c,hc,hs⟩:=jJr (i:=x / 6 % 6) (zcw _ (by decide)) (zca _ (by decide));have ap:gApp 2 (f2 gIx (cS "*+*-*-") (f2 gMod (f2 jhb (vR 5) (cI 6)) (cI 6))) (bd ns aa ts d (oI y) (oI x))=nX (bd ns aa (ts++[[c]]) d (oI y) (oI x)):=jh9 (by simp only[stpA,f6,m66,hc];rfl) (by omega);have jf:isL c=false/\isG c=false:=by rcases jcu hs with rfl|rfl|rfl<;>exact⟨rfl,rfl⟩
   obtain⟨ts2,d2,wt2,n2,e2,B2,l2⟩:=jq7 (ns:=ns) (c:=oI y) (x:=x) hN h1 hn (B.pre.bin hs) (by decide +kernel) (fun b hb=>by
    rcases zdx.mp hb with hb|hb
    ·exact B.tok b hb
    ·rw[zcc.mp hb];exact jjc jf.1 jf.2) B.dep r.1 (by rw[zcb];show _+1<=_;omega)
   refine⟨_,.inl ?_,ts2,d2,wt2,oI y,n2,rfl,B2,by rw[l2,zcb];show _+1+1<=_;omega⟩;rw[jav (by rw[jcx tA,Bool.not_false,if_pos rfl,jav (by rw[jcx t1];rfl)];exact ap),e2]
 ·have tA:DL.tAnd (t2 gGt (jqc (fL kLen (jac (vR 2) fNil))) (cI 0)) (t2 je3 (f2 gIx (vR 2) (f1 gNeg (cI 1))) (fL jb3 (jac (fC (.str "(")) (jac (cS "+") (jac (cS "-") (jac (cS "*") fNil)))))) (bd ns aa ts d (oI y) (oI x))=oK false:=by
   rcases cw with rfl|⟨t,rfl⟩
   ·exact jHn
   ·rw[jxc (by rw[zcb] at hl;omega),jpe];rfl
  have e0:t2 gEq (f2 gMod (f2 jhb (vR 5) (cI 6)) (cI 8)) (cI 0) (bd ns aa ts d (oI y) (oI x))=oK (x / 6 % 8 == 0):=by simp only[stpA,f6,m68];rfl
  have tB:DL.tAnd (t2 gEq (f2 gMod (f2 jhb (vR 5) (cI 6)) (cI 8)) (cI 0)) (DL.tAnd (t2 gNe (fSl (vR 2) (jcc (f1 gNeg (cI 1))) jjq) (fL jbq (jac (cS "+") fNil))) (DL.tAnd (t2 gNe (fSl (vR 2) (jcc (f1 gNeg (cI 1))) jjq) (fL jbq (jac (cS "-") fNil))) (t2 gNe (fSl (vR 2) (jcc (f1 gNeg (cI 1))) jjq) (fL jbq (jac (cS "*") fNil))))) (bd ns aa ts d (oI y) (oI x))=oK (x / 6 % 8 == 0):=by
   have k1:=jqr (ns:=ns) (aa:=aa) (d:=d) (c:=oI y) (n:=oI x) jyo cw (by decide);have k2:=jqr (ns:=ns) (aa:=aa) (d:=d) (c:=oI y) (n:=oI x) jkz cw (by decide);have k3:=jqr (ns:=ns) (aa:=aa) (d:=d) (c:=oI y) (n:=oI x) jyp cw (by decide);unfold DL.tAnd;rw[e0,M.b_ok]
   cases x / 6 % 8 == 0 with
   | false=>rfl
   | true=>rw[if_pos rfl,k1,M.b_ok,if_pos rfl,k2,M.b_ok,if_pos rfl,k3]
  by_cases q:(x / 6 % 8 == 0)=true
  ·rw[q] at tB;obtain⟨ts2,d2,wt2,n2,e2,B2,l2⟩:=jq7 (ns:=ns) (c:=oI y) (x:=x) hN h1 hn B.pre.neg (by decide +kernel) (fun b hb=>by
    rcases zdx.mp hb with hb|hb
    ·exact B.tok b hb
    ·rw[zcc.mp hb];exact jjc rfl rfl) B.dep r.1 (by rw[zcb];show _+1<=_;omega)
   refine⟨_,.inl ?_,ts2,d2,wt2,oI y,n2,rfl,B2,by rw[l2,zcb];show _+1+1<=_;omega⟩;rw[jav (by rw[jcx tA,if_neg (by decide),jcx tB,if_pos rfl];exact jh9 (a:=[45]) (by rw[jkz];rfl) (by omega)),e2]
  ·rw[Bool.not_eq_true] at q;rw[q] at tB;obtain⟨ts2,d2,wt2,n2,e2,B2,l2⟩:=jq7 (ns:=ns) (c:=oI y) (x:=x) hN h1 hn B.pre (by decide +kernel) B.tok B.dep r.1 (by omega);refine⟨_,.inl ?_,ts2,d2,wt2,oI y,n2,rfl,B2,by omega⟩;rw[jav (by rw[jcx tA,if_neg (by decide),jcx tB];rfl),e2]
def Bd0:Bd aa [] 0 "beginning":=⟨fun rest A=>A,.inr ⟨rfl,.inl rfl⟩,(fun _ h=>nomatch h),by decide⟩
def jxx(ns:List Int)(hN:∀ b∈aa,Nm b)(h1:1<=aa.length)(hn:aa.length<=1000):∃ us,jgk [scr ns,.lst (nmD aa)]=oK (.lst (nmD us))/\Acc us "beginning" 0/\(∀ a∈us,TokOk aa a)/\us.length<=60:=by
 let ms:=cutL ns (some 1) (some 25)
 have hms:ms.length<=24:=by
  show (cutL ns (some 1) (some 25)).length<=24;unfold cutL;rw[List.length_take];have:HT.sIx ns.length 0 (some 1)=min 1 ns.length:=rfl;have:HT.sIx ns.length ns.length (some 25)=min 25 ns.length:=rfl;omega
 have da:cutD (scr ns) (some 1) (some 25)=oL (ms.map .int):=by
  show some (D.lst (cutL (ns.map D.int) (some 1) (some 25)))=some (D.lst ((cutL ns (some 1) (some 25)).map D.int));unfold cutL;rw[zav,List.map_take,List.map_drop]
 generalize ms=bo at hms da;obtain⟨Y',e,ts,d,wt,c,n,hδ,B,hl⟩:=jku (g:=jdm) (tg:=DL.gName 4) (bo.map D.int) (fun j Y=>BdS ns aa (2*j) Y) (fun j hj Y ⟨ts,d,wt,c,n,hδ,B,hl⟩=>by
  subst hδ;have dw:j<bo.length:=by simpa using hj
  have hg:(bo.map D.int)[j]=.int bo[j]:=by simp
  rw[hg];obtain⟨Y2,h2,ts2,d2,wt2,c2,n2,r1,r2,r3⟩:=js5 (ns:=ns) (n:=n) (y:=bo[j]) hN h1 hn B (by omega);exact⟨_,rfl,Y2,h2,ts2,d2,wt2,c2,n2,r1,r2,by omega⟩) (bd ns aa [] 0 none none) ⟨[],0,"beginning",none,none,rfl,Bd0,zac _⟩
 subst hδ;rw[zav] at hl;have fin:∀ vs:LL,Pre vs "behind" d->(∀ a∈vs,TokOk aa a)->vs.length<=49->gRet (f2 gCat (vR 2) (fRep (jac (fC (.str ")")) fNil) (vR 3))) (bd ns aa vs d c n)=oK (.rt (.lst (nmD (vs++List.replicate d [41]))))/\Acc (vs++List.replicate d [41]) "beginning" 0/\(∀ a∈vs++List.replicate d [41],TokOk aa a)/\(vs++List.replicate d [41]).length<=60:=fun vs P hT hv=>by
  have hd:=B.dep;refine⟨?_,P _ (Acc.end d),fun a ha=>?_,by rw[zcb,List.length_replicate];omega⟩
  ·have er:=jB8 (Y:=bd ns aa vs d c n) (fl:=jac (fC (.str ")")) fNil) (fb:=vR 3) (.str ")") d rfl rfl (by omega);have en:nmD (List.replicate d [41])=List.replicate d (.str (Str.ofString ")")):=by unfold nmD;rw[List.map_replicate,jql]
   refine jHy ?_;have cc:=jui (x:=nmD vs) (y:=nmD (List.replicate d [41])) (by simp[nmD];exact Nat.le_of_lt (small (by omega)));rw[jo8,en] at cc;simp only[stpA,er,cc];rfl
  ·rcases zdx.mp ha with ha|ha
   ·exact hT a ha
   ·rw[(List.mem_replicate.mp ha).2];exact jjc rfl rfl
 have sl:fSl (vR 0) (jcc (cI 1)) (jcc (cI 25)) (bd ns aa [] 0 none none)=M.p (.lst (bo.map .int)):=jtw (lo:=some 1) (hi:=some 25) rfl rfl rfl da;have s3:gFor (jed (fSl (vR 0) (jcc (cI 1)) (jcc (cI 25)))) (DL.gName 4) jdm (bd ns aa [] 0 none none)=nX (bd ns aa ts d c n):=by
  rw[jB4,jAb,sl,M.b_p,jHa,M.o_some,M.b_p,e]
 unfold jgk;rw[jh7];show ∃ us,(jge [some (scr ns),oN aa,none,none,none,none]).b outD=_/\_;unfold jge;rw[jav (Y':=[some (scr ns),oN aa,oL [],none,none,none]) rfl,jav (Y':=bd ns aa [] 0 none none) rfl,jav s3];have tO:∀ o:Bool,(ts=[]/\o=true\/∃ t a,ts=t++[a]/\o=opT a)->DL.tOr (t2 gEq (vR 2) (fL jbq fNil)) (t2 gIn (f2 gIx (vR 2) (f1 gNeg (cI 1))) (fL jb3 (jac (fC (.str "(")) (jac (cS "+") (jac (cS "-") (jac (cS "*") fNil)))))) (bd ns aa ts d c n)=oK o:=fun o ho=>by
  rcases ho with ⟨rfl,rfl⟩|⟨t,a,rfl,rfl⟩
  ·rfl
  ·have e1:t2 gEq (vR 2) (fL jbq fNil) (bd ns aa (t++[a]) d c n)=oK false:=by
    show asB (gEq (.lst (nmD (t++[a]))) (.lst []))=_;unfold gEq;rw[if_pos (by simp[okD,jv0,okDs,depD,jro])];cases t<;>rfl
   have e2:t2 gIn (f2 gIx (vR 2) (f1 gNeg (cI 1))) (fL jb3 (jac (fC (.str "(")) (jac (cS "+") (jac (cS "-") (jac (cS "*") fNil))))) (bd ns aa (t++[a]) d c n)=oK (opT a):=by
    simp only[stpA,neg_int,jr3];rfl
   unfold DL.tOr;rw[e1,M.b_ok];exact e2
 have h0:0<aa.length:=h1;have g0:gIx (.lst (nmD aa)) (.int 0)=some (sT aa[0]):=by
  rw[ix_l];exact DL.atI_get (j:=0) (by simp[nmD,h0])
 have c8:∀ vs,Pre vs "behind" d->(∀ a∈vs,TokOk aa a)->vs.length<=49->∀ g:M Out,g=nX (bd ns aa vs d c n)->∃ us,M.b (M.b g (seqO (gRet (f2 gCat (vR 2) (fRep (jac (fC (.str ")")) fNil) (vR 3)))))) outD=oK (.lst (nmD us))/\Acc us "beginning" 0/\(∀ a∈us,TokOk aa a)/\us.length<=60:=fun vs P hT hv g hg=>by
  obtain⟨f1,f2,f3,f4⟩:=fin vs P hT hv;refine⟨_,?_,f2,f3,f4⟩;rw[hg,M.b_ok,jnz,f1];rfl
 rw[jmu];rcases B.lst with ⟨rfl,t,a,cw,ha⟩|⟨rfl,cw⟩
 ·refine c8 ts B.pre B.tok (by omega) _ ?_;rw[jcx (tO false (.inr ⟨t,a,cw,ha.symm⟩))];rfl
 ·have ho:ts=[]/\true=true\/∃ t a,ts=t++[a]/\true=opT a:=by
   rcases cw with h|⟨t,h⟩
   ·exact .inl ⟨h,rfl⟩
   ·exact .inr ⟨t,[40],h,by rw[jpe];rfl⟩
  have hm:aa[0]∈aa:=List.getElem_mem h0;obtain⟨k1,k2,_⟩:=jsy hm (hN _ hm);refine c8 (ts++[aa[0]]) (B.pre.word k2 (by decide +kernel)) (fun b hb=>?_) (by rw[zcb];show _+1<=_;omega) _ ?_
  ·rcases zdx.mp hb with hb|hb
   ·exact B.tok b hb
   ·rw[zcc.mp hb];exact k1
  ·rw[jcx (tO true ho),if_pos rfl];exact jh9 (by simp only[stpA];rw[<- ix_l,g0];rfl) (by omega)
end
end
section
def rp:List (Nat×List Nat)->List Nat
 | []=>[]
 | (k,a)::s=>List.replicate k 32++(a++rp s)
def jA1(s t:List (Nat×List Nat)):rp (s++t)=rp s++rp t:=by
 induction s with
 | nil=>rfl
 | cons q s ih=>obtain⟨k,a⟩:=q;simp[rp,ih,List.append_assoc]
theorem jpm(p:Nat):∀ s:List (Nat×List Nat),jb1 s p=rp s++List.replicate p 32
 | []=>rfl
 | (k,a)::s=>by simp[jb1,rp,jpm p s,List.append_assoc]
def jHf{n:Int}(h:n=0\/n=1\/n=2):jci (.str " ") (.int n)=some (sT (List.replicate n.toNat 32)):=by
 have e:jci (.str " ") (.int n)=oS (Txt.mul (Str.ofString " ") n):=by
  show (if (Str.ofString " ").length<=4096/\-4096<=n/\n<=4096 then some (D.str (Txt.mul (Str.ofString " ") n)) else none)=_;rw[if_pos ⟨by decide +kernel,by omega,by omega⟩]
 rw[e];rcases h with rfl|rfl|rfl<;>congr 2<;>decide +kernel
def jt5{ts:LL}{num:Int}(hl:ts.length<=490)(ht:∀ a∈ts,a.length<=40)(h0:0<=num) :
  ∃ (ac:List (Nat×List Nat)) (x:Str),jet [.lst (nmD ts),.int num]=oK (.str x)/\x.cps.toList=jb1 ac 0/\ac.map (·.2)=ts/\x.length<=50000:=by
 obtain⟨Y',e,ac,z,hδ,h1,h2⟩:=jku (g:=jd4) (tg:=DL.gName 3) (jdx 0 ts.length) (fun j Y=>∃ (ac:List (Nat×List Nat)) (z:Option D),Y=[oN ts,oI num,some (sT (rp ac)),z]/\ac.map (·.2)=ts.take j/\(rp ac).length<=42*j) (fun j hj Y ⟨ac,z,hδ,h1,h2⟩=>by
  subst hδ;have dw:j<ts.length:=by simpa using hj
  have w:=jxl (n:=num) (p:=0+(j:Nat)) (by exact Int.natCast_nonneg _) (by omega);generalize mixF num (0+(j:Nat))=mx at w;have m6:=jcv (i:=mx) (j:=5) (by decide);have r1:=zcw mx (show (5:Int)≠0 by decide);have r2:=zca mx (show (0:Int)<5 by decide);obtain⟨n,hn,g⟩:∃ n:Int,(n=0\/n=1\/n=2)/\gIx (.lst [.int 0,.int 0,.int 1,.int 0,.int 2]) (.int (mx % 5))=oI n:=by
   generalize mx % 5=q at r1 r2;have:q=0\/q=1\/q=2\/q=3\/q=4:=by omega
   rcases this with rfl|rfl|rfl|rfl|rfl
   ·exact⟨0,.inl rfl,rfl⟩
   ·exact⟨0,.inl rfl,rfl⟩
   ·exact⟨1,.inr (.inl rfl),rfl⟩
   ·exact⟨0,.inl rfl,rfl⟩
   ·exact⟨2,.inr (.inr rfl),rfl⟩
  have sm:=jHf hn;have gx:n.toNat<=2:=by rcases hn with rfl|rfl|rfl<;>decide
  have lr:(rp ac).length<=20580:=by omega
  generalize n.toNat=k at sm gx;have ha:=ht _ (List.getElem_mem dw);have ix:gIx (.lst (nmD ts)) (.int (0+(j:Nat)))=some (sT ts[j]):=by
   rw[ix_l,Int.zero_add];exact DL.atI_get (by simp[nmD,dw])
  have c1:=juj (a:=rp ac) (b:=List.replicate k 32) (by rw[List.length_replicate];exact zdy (Nat.add_le_add lr gx) (by decide));have c2:=juj (a:=rp ac++List.replicate k 32) (b:=ts[j]) (by rw[zcb,List.length_replicate];exact zdy (Nat.add_le_add (Nat.add_le_add lr gx) ha) (by decide));have l6:jbq [D.int 0,D.int 0,D.int 1,D.int 0,D.int 2]=some (.lst [.int 0,.int 0,.int 1,.int 0,.int 2]):=rfl;refine⟨[oN ts,oI num,some (sT (rp ac)),oI (0+(j:Nat))],by rw[jjs];rfl,[oN ts,oI num,some (sT (rp (ac++[(k,ts[j])]))),oI (0+(j:Nat))],.inl ?_,ac++[(k,ts[j])],_,rfl,?_,?_⟩
  ·unfold jd4;have:rp (ac++[(k,ts[j])])=rp ac++List.replicate k 32++ts[j]:=by rw[jA1];simp[rp]
   rw[this];generalize ts[j]=tj at ix c2;simp only[stpA,w,m6,l6,g,sm,c1,ix,c2];rfl
  ·rw[List.map_append,h1,List.take_succ,zax dw];rfl
  ·rw[jA1];simp[rp];omega) [oN ts,oI num,some (sT (rp [])),none] ⟨[],none,rfl,by simp,by simp[rp]⟩
 subst hδ;rw[jjt] at h1 h2;rw[List.take_length] at h1;refine⟨ac,St (rp ac),?_,by rw[jpm];simp[St],h1,by rw[jh8];omega⟩;unfold jet;rw[jh7];show (jes [oN ts,oI num,none,none]).b outD=_;unfold jes;have s1:gSet 2 (cS "") [oN ts,oI num,none,none]=nX [oN ts,oI num,some (sT (rp [])),none]:=rfl;have s2:gFor (jih jc6 (jac (fL kLen (jac (vR 0) fNil)) fNil)) (DL.gName 3) jd4 [oN ts,oI num,some (sT (rp [])),none]=nX [oN ts,oI num,some (sT (rp ac)),z]:=by
  have t0:(((ts.length:Nat):Int)).toNat=ts.length:=Int.toNat_natCast _;have nl:(nmD ts).length=ts.length:=by simp[nmD]
  simp only[stpA,jj6,nl,range1,t0];exact e
 rw[jav s1,jav s2];rfl
theorem jvy:∀ ns:List Int,okDs (ns.map D.int)=true
 | []=>by unfold okDs;rfl
 | n::ns=>by rw[List.map_cons];unfold okDs;rw[jvy ns];unfold okD;rfl
theorem jrn:∀ ns:List Int,depDs (ns.map D.int)=0
 | []=>by unfold depDs;rfl
 | n::ns=>by rw[List.map_cons];unfold depDs;rw[jrn ns];unfold depD;rfl
def jC9(f:Fm):okD (fm f)=true/\depD (fm f)<=20:=by
 unfold fm;constructor
 ·simp[okD,okDs,jvy]
 ·simp[depD,depDs,jrn]
def jJd(f:Fm):gNe (fm f) (fm f)=some (.bl false):=by
 unfold gNe;rw[if_pos (by rw[(jC9 f).1,decide_eq_true (jC9 f).2];rfl),jmv _ (jC9 f).1];rfl
theorem joo{tc:DSt->M Bool}{fe:DSt->M D}{c:DSt}:∀ (ns:List Int) (x:Option D),(∀ (n:Int),tc (oI n::c)=oK false)->jfr (DL.gName 0) tc fe (ns.map D.int) (x::c)=some []
 | [],_,_=>rfl
 | n::ns,x,h=>by
  rw[List.map_cons];unfold jfr;have e1:DL.gName 0 (.int n) (x::c)=some (oI n::c):=rfl;rw[e1];dsimp only;rw[h n];exact joo ns _ h
def jp0(n:Int):jdk [.int n]=oK (.bl true):=by
 unfold jdk;rw[jg8];unfold jif;simp only[stpA,jB2,jky,jjz,jz4,Bool.not_false];rfl
def ju8{f:Fm}(h2:f.1.length<=1000):jdq [fm f,fm f]=oK (.bl true):=by
 unfold jdq;rw[jh7];show (jer [of f,of f]).b outD=_;unfold jer;have i1:kIsi [fm f,.ty "tuple"]=some (.bl true):=rfl;have i2:kLen [fm f]=oI 2:=rfl;have i3:gIx (fm f) (.int 0)=some (.tup (f.1.map .int)):=by unfold fm;simp
 have i4:=fm1 f;have i5:=jm5 (f.1.map D.int);have i6:=jJd f;have t:DL.tOr (DL.tNot (tTru (fL kIsi (jac (vR 0) (jac (fC (.ty "tuple")) fNil))))) (DL.tOr (DL.t2 gNe (fL kLen (jac (vR 0) fNil)) (cI 2)) (DL.tOr (DL.tNot (tTru (fL kIsi (jac (f2 gIx (vR 0) (cI 0)) (jac (fC (.ty "tuple")) fNil))))) (DL.t2 gNe (vR 0) (vR 1)))) [of f,of f]=oK false:=by
  simp only[stpA,i1,i2,i3,i5,i6,jAp,Bool.not_true];rfl
 rw[jHz t];have c:jx7 (.tup (f.1.map .int)) (.tup [.int f.2])=some (.tup ((f.1++[f.2]).map .int)):=by
  rw[List.map_append];exact if_pos (by rw[zav];show _+1<=_;exact zdy (Nat.add_le_add_right h2 1) (by decide))
 have tw:∀ n:Int,DL.tNot (tTru (jbg jdk (jac (vR 0) fNil))) [oI n]=oK false:=fun n=>by
  simp only[stpA,jp0,Bool.not_true];rfl
 have cn:=joo (fe:=jh6) (c:=[]) (f.1++[f.2]) none tw;have t1:jb3 [.int f.2]=some (.tup [.int f.2]):=rfl;simp only[stpA,i3,i4,t1,c,cn,jj6];rfl
end
section
variable {o:Int}
def juz{Ω:Sto}{f:Bool}:(errs Ω f o)[Ω.length]? = some (.exc "NotPlain" (some (Ω.length+1),f)):=by unfold errs;exact jqh Ω
def jAe{Ω:Sto}{f:Bool}:(errs Ω f o)[Ω.length+1]? = some (.xd [("place",.int o)]):=by
 unfold errs;rw[List.getElem?_append_right (Nat.le_succ _),show (List.length Ω).succ-List.length Ω=1 by omega];rfl
section
variable {Ω:Sto}{f:Bool}{Y:DSt}{fa:DSt->MS D}
def jI0{g:Str->Bool}(h:fa Y (errs Ω f o)=some (.ok (.obj Ω.length),errs Ω f o)):mIsX xcs g fa Y (errs Ω f o)=some (.ok (.bl (g "NotPlain")),errs Ω f o):=by
 unfold mIsX;rw[MS.b_ok h];unfold isX;dsimp only;rw[juz];dsimp only;rw[jAe];dsimp only;rw[if_pos (by decide)]
def jFj(h:fa Y (errs Ω f o)=some (.ok (.obj Ω.length),errs Ω f o)):jqm xcs "place" fa Y (errs Ω f o)=some (.ok (.int o),errs Ω f o):=by
 unfold jqm;rw[MS.b_ok h];unfold getX;dsimp only;rw[juz];dsimp only;rw[jAe];dsimp only;rw[if_pos (by decide)];rfl
end
def jFk{aa:LL}{ts:List (List Nat×Int)}{ls:List Lv}{res:Except Int Fm}(G:Go aa ts ls res):∀ f,res=.ok f->f.1.length=aa.length:=by
 induction G with
 | done l hb B=>intro f h;cases h;exact (B.whole (jea hb)).len
 | opn _ _ _ _ _ ih=>exact ih
 | wrd _ _ _ _ _ _ _ _ _ _ _ _ _ _ ih=>exact ih
 | wrdE=>intro f h;cases h
 | cls _ _ _ _ _ _ _ _ _ _ _ _ _ ih=>exact ih
 | clsE=>intro f h;cases h
 | neg _ _ _ _ _ _ _ _ _ ih=>exact ih
 | bin _ _ _ _ _ _ _ _ _ _ ih=>exact ih
def law_true(ns:List Int)(hns:ns.length<=63):∃ Ω,jvg [.lst (ns.map .int)] []=some (.ok (.bl true),Ω):=by
 have w0:=w_at (ns:=ns) (k:=0) (by decide) (by decide);generalize atF ns 0=x0 at w0;have w1:=jxl (n:=x0) (p:=1) (by decide) (by decide);have r1:=jDx (n:=x0) (p:=1) (by decide) (by decide);generalize mixF x0 1=x1 at w1 r1;obtain⟨aa,e2,hN,hd,h1,h4⟩:=jyz r1.1;obtain⟨us,e3,A,hT,hus⟩:=jxx ns hN h1 (by omega);obtain⟨ac,x,e4,hx,hseg,hxl⟩:=jt5 (num:=x1) (ts:=us) (by omega) (fun a ha=>(hT a ha).len) r1.1;have hsl:ac.length<=60:=by
  have:=congrArg List.length hseg;rw[zav] at this;omega
 rw[<- hseg] at A;have cu:(pcw ac 0).length=ac.length:=by have:=congrArg List.length (jjr ac 0);simpa using this
 have hP:∀ q∈pcw ac 0,TokOk aa q.1:=fun q hq=>hT _ (by rw[<- hseg,<- jjr ac 0];exact List.mem_map_of_mem hq)
 have e5:=jxg hx hxl A (by omega);obtain⟨res,G⟩:=go_of (aa:=aa) A (pcw ac 0) [new 0] 0 (jjr ac 0) (.beg (new 0) [] rfl rfl fun _ h=>nomatch h) ⟨0,0,zac _,LvB.new _ _ _,trivial⟩ (by rw[cu];have:KL=80000:=rfl;omega) fun q hq=>⟨(hP q hq).len,fun w=>((hP q hq).wd w).2⟩
 obtain⟨Ω1,e6⟩:=jE9 hN h1 (by omega) G (by omega) fun q hq w=>((hP q hq).wd w).1
 have rd:=jDy (by omega) hx hxl A (by omega) G (fun q hq=>by
  have:=hT q.2 (by rw[<- hseg];exact List.mem_map_of_mem hq);exact⟨this.ne,this.len,this.nm⟩) Ω1
 let Y (pl fo k fd:Option D):DSt:=[some (scr ns),oI x1,oN aa,oS x,pl,fo,k,fd,none]
 have s1:jA2 [some (scr ns),none,none,none,none,none,none,none,none] []=some (.ok (.nx [some (scr ns),oI x1,none,none,none,none,none,none,none]),[]):=lft (by simp only[stpA,w0,w1];rfl);have s2:jA3 [some (scr ns),oI x1,none,none,none,none,none,none,none] []=some (.ok (.nx [some (scr ns),oI x1,oN aa,none,none,none,none,none,none]),[]):=lft (by simp only[stpA,e2];rfl);have s3:jA4 [some (scr ns),oI x1,oN aa,none,none,none,none,none,none] []=some (.ok (.nx (Y none none none none)),[]):=lft (by simp only[stpA,e3,e4];rfl);have mc:jgj jhg (lF (jac (vR 2) (jac (jbg jee (jac (vR 3) fNil)) fNil))) (Y none none none none) []=some (.ok (dueD res),Ω1):=by
  unfold jgj;rw[MS.b_ok (a:=[.lst (nmD aa),.lst ((pcw ac 0).map tkD)]) (Ω1:=[]) (lft (by simp only[Y,stpA,e5];rfl)),e6]
 have go:∀ (pl fo:D) (r:D) (Ω:Sto),dueD res=.tup [pl,fo]->eSeq jmc (eSeq jwz (eSeq jsp (eSeq jnx jq2))) (Y (some pl) (some fo) (some .non) (some .non)) Ω1=some (.ok (.rt r),Ω)->jvg [.lst (ns.map .int)] []=some (.ok r,Ω):=fun pl fo r Ω hdu h=>by
  show MS.b (jx8 [some (scr ns),none,none,none,none,none,none,none,none]) outE []=_;refine (MS.b_ok (a:=.rt r) (Ω1:=Ω) ?_).trans rfl;unfold jx8;rw[eseq s1,eseq s2,eseq s3,eseq (g1:=jwy) (Y':=Y (some pl) (some fo) none none) (Ω':=Ω1) (by
   unfold jwy eAsg;rw[MS.b_ok mc,hdu];rfl),eseq (g1:=jA5) (Y':=Y (some pl) (some fo) (some .non) none) (Ω':=Ω1) (lft rfl),eseq (g1:=jA6) (Y':=Y (some pl) (some fo) (some .non) (some .non)) (Ω':=Ω1) (lft rfl),h]
 have mr:∀ pl fo:Option D,jgj jew (lF (jac (fL kList (jac (vR 2) fNil)) (jac (vR 3) fNil))) (Y pl fo (some .non) (some .non)) Ω1=jew [.lst (nmD aa),.str x] Ω1:=fun pl fo=>by
  unfold jgj;rw[MS.b_ok (a:=[.lst (nmD aa),.str x]) (Ω1:=Ω1) (lft rfl)]
 cases res with
 | ok f =>
  obtain⟨Ω',rd⟩:=rd;refine⟨Ω',go .non (fm f) (.bl true) Ω' rfl ?_⟩;rw[eseq (g1:=jmc) (Y':=Y (some .non) (of f) (some .non) (of f)) (Ω':=Ω') (by
   unfold jmc juu;rw[mr,rd];rfl)]
  have isf:=ju8 (f:=f) (by rw[jFk G f rfl];omega);refine jg9 (lft ?_);rw[jcx (b:=true) rfl,if_pos rfl];refine jHy ?_;have e1:f2 gIs (vR 6) (fC .non) (Y (some .non) (of f) (some .non) (of f))=oK (.bl true):=rfl;have e2:jbg jdq (jac (vR 7) (jac (vR 5) fNil)) (Y (some .non) (of f) (some .non) (of f))=oK (.bl true):=by
   rw[jAa];exact isf
  unfold fAnd;rw[e1,M.b_ok];exact e2
 | error p =>
  obtain⟨Ω',rd⟩:=rd;refine⟨errs Ω' false p,go (.int p) .non (.bl true) _ rfl ?_⟩
  let Y':DSt:=Y (oI p) (some .non) (some (.obj Ω'.length)) (some .non)
  have v0:lF (vR 6) Y' (errs Ω' false p)=some (.ok (.obj Ω'.length),errs Ω' false p):=rfl;have i1:=fun g=>jI0 (g:=g) v0
  have n2:=jFj v0;rw[eseq (g1:=jmc) (Y':=Y') (Ω':=errs Ω' false p) (by
   unfold jmc juu;rw[mr,rd];dsimp only;unfold jrf errI xdO;dsimp only;rw[juz];dsimp only;rw[if_pos (by decide)];rfl)]
  have tr:∀ g:Str->Bool,mTru (mIsX xcs g (lF (vR 6))) Y' (errs Ω' false p)=some (.ok (g "NotPlain"),errs Ω' false p):=fun g=>by
   unfold mTru;rw[MS.b_ok (i1 g)];rfl
  have no:∀ g:Str->Bool,mNot (mTru (mIsX xcs g (lF (vR 6)))) Y' (errs Ω' false p)=some (.ok (!(g "NotPlain")),errs Ω' false p):=fun g=>by
   unfold mNot;rw[MS.b_ok (tr g)];rfl
  rw[eseq (g1:=jwz) (Y':=Y') (Ω':=errs Ω' false p) (lft rfl)];rw[eseq (g1:=jsp) (Y':=Y') (Ω':=errs Ω' false p) (by
   unfold jsp;rw[eif (c:=false) (Ω':=errs Ω' false p) (by
    unfold mOr;rw[MS.b_ok (no _)];exact no _),if_neg (by decide)]
   rfl)]
  rw[eseq (g1:=jnx) (Y':=Y') (Ω':=errs Ω' false p) (by
   unfold jnx;rw[eif (c:=false) (Ω':=errs Ω' false p) (tr _),if_neg (by decide)];rfl)]
  unfold jq2 eRet;refine (MS.b_ok (a:=.bl true) (Ω1:=errs Ω' false p) ?_).trans rfl;unfold jyq jCu;rw[MS.b_ok (a:=.bl true) (Ω1:=errs Ω' false p) (by rw[MS.b_ok (i1 _)];rfl)];have a1:jfu (jqm xcs "place" (lF (vR 6))) (lF fNil) Y' (errs Ω' false p)=some (.ok [.int p],errs Ω' false p):=by
   unfold jfu;rw[MS.b_ok n2,MS.b_ok (a:=[]) (Ω1:=errs Ω' false p) rfl];rfl
  have a2:jl7 jdk (jfu (jqm xcs "place" (lF (vR 6))) (lF fNil)) Y' (errs Ω' false p)=some (.ok (.bl true),errs Ω' false p):=by
   rw[jw0,s_b,a1,jho,jp0];rfl
  dsimp only;rw[MS.b_ok a2];dsimp only;rw[s_2,MS.b_ok n2,MS.b_ok (a:=.int p) (Ω1:=errs Ω' false p) rfl,jru,beq_self_eq_true];rfl
end
end MyLaw
end
set_option maxRecDepth 100000 in
set_option maxHeartbeats 0 in
theorem PySem.Challenge.cw_apartbook_k04_names_times_names_holds : PySem.Challenge.rw_apartbook_k04_names_times_names.Holds := by
 w_on;o_law;z_head;(case hw=>w_witness2)
 k_fill
 refine MyLaw.walkZ (l:=PySem.Challenge.rw_apartbook_k04_names_times_names) (fun P=>rfl) rfl rfl ?F MyLaw.law_true
 case F =>
  intro w mg fa h KX G hmg
  refine' ⟨?T,hmg⟩
  case T =>
   refine' MyLaw.txt_mk KX G ?ca_OpenSum ?cp_OpenSum ?cq_OpenSum ?cr_OpenSum ?cs_OpenSum ?cf0_OpenSum ?cf1_OpenSum ?cf2_OpenSum ?cf3_OpenSum ?ca_BookError ?ca_Broken ?ca_Folded ?ca_NoBook ?ca_NoDeed ?ca_NoLine ?ca_NoName ?ca_NoPaper ?ca_NoRule ?ca_NoText ?ca_NotPlain ?ca_OutOfRange ?ca_ShortShare ?tab ?tab2 ?h0 ?h1 ?h2 ?h3 ?h4 ?h5 ?h6 ?h7 ?h8 ?h9 ?h10 ?h11 ?h12 ?h13 ?h14 ?h15 ?a16 ?b16 ?l16 ?c16 ?k16 ?a17 ?b17 ?i17 ?j17 ?l17 ?c17 ?k17 ?h18 ?h19 ?a20 ?b20 ?l20 ?c20 ?k20 ?h21 ?a22 ?b22 ?l22 ?c22 ?k22 ?h23 ?a24 ?b24 ?l24 ?c24 ?k24 ?a25 ?b25 ?l25 ?c25 ?k25 ?h26 ?h27 ?h28 ?h29 ?h30 ?h31 ?h32 ?h33 ?y0 ?y1 ?y2 ?y3 ?y4 ?y5 ?z0 ?z1 ?z2 ?z3 ?z4 ?z5 ?z6 ?z7 ?z8 ?z9 ?z10
   (case ca_OpenSum=>k_is);(case cp_OpenSum=>k_is);(case cq_OpenSum=>k_is);(case cr_OpenSum=>k_is);(case cs_OpenSum=>k_is);(case cf0_OpenSum=>k_is);(case cf1_OpenSum=>k_is);(case cf2_OpenSum=>k_is)
   (case cf3_OpenSum=>k_is);(case ca_BookError=>k_is);(case ca_Broken=>k_is);(case ca_Folded=>k_is);(case ca_NoBook=>k_is);(case ca_NoDeed=>k_is);(case ca_NoLine=>k_is);(case ca_NoName=>k_is)
   (case ca_NoPaper=>k_is);(case ca_NoRule=>k_is);(case ca_NoText=>k_is);(case ca_NotPlain=>k_is);(case ca_OutOfRange=>k_is);(case ca_ShortShare=>k_is);(case tab=>kernel_rfl);(case tab2=>kernel_rfl)
   (case a16=>k_is);(case b16=>k_is);(case l16=>k_is);(case c16=>k_is);(case k16=>k_is);(case a17=>k_is);(case b17=>k_is);(case i17=>k_is)
   (case j17=>k_is);(case l17=>k_is);(case c17=>k_is);(case k17=>k_is);(case a20=>k_is);(case b20=>k_is);(case l20=>k_is);(case c20=>k_is)
   (case k20=>k_is);(case a22=>k_is);(case b22=>k_is);(case l22=>k_is);(case c22=>k_is);(case k22=>k_is);(case a24=>k_is);(case b24=>k_is)
   (case l24=>k_is);(case c24=>k_is);(case k24=>k_is);(case a25=>k_is);(case b25=>k_is);(case l25=>k_is);(case c25=>k_is);(case k25=>k_is)
   (case y0=>k_is);(case y1=>k_is);(case y2=>k_is);(case y3=>k_is);(case y4=>k_is);(case y5=>k_is);(case z0=>k_is);(case z1=>k_is)
   (case z2=>k_is);(case z3=>k_is);(case z4=>k_is);(case z5=>k_is);(case z6=>k_is);(case z7=>k_is);(case z8=>k_is);(case z9=>k_is)
   (case z10=>k_is)
   all_goals (refine' .mk ?a ?l ?c ?k;(case a=>k_is);(case l=>k_is);(case c=>k_is);(case k=>k_is))