import PyProof.Rows.All
import Wide.All
import OpenK.AllK
import Wide.FinOn
import Lean
import PyProof.EqAt
import PyProof.EqKinds
import PyProof.TupleCall
import PySem.Challenge.RW_apartbook_k03_names_that_lack
set_option Elab.async false
set_option linter.all false
set_option maxRecDepth 100000
namespace PySem.W.Fast
noncomputable def tw13111874168050666722:=PySem.Challenge.pw_apartbook_k03_names_that_lack
theorem te13111874168050666722:PySem.Challenge.pw_apartbook_k03_names_that_lack=tw13111874168050666722:=rfl
def tw5169885860710951972:=0
def tw278291593853465873:=0
def tw1214990253947891934:=0
def tw16122166189377497648:=0
def tw15210844930883398650:=0
def tw7473423941811204130:=0
def tw14877711187067380268:=0
def tw8887679066731203116:=0
def tw10141811270869157257:=0
def tw3251946271508794963:=0
def tw14386996205415137664:=0
def tw10028750187086976267:=0
def tw3034447696546899029:=0
def tw14364953570314012094:=0
def tw16046124020191775331:=0
def tw3124217131337170166:=0
def tw13482042541255223807:=0
def tw2692525249962393853:=0
def tw11884790389968350179:=0
def tw5784504312022726358:=0
def tw2384825046073642095:=0
def tw1092063144559594022:=0
def tw4590989567845957992:=0
def tw16513990028757660643:=0
def tw11387269211680521897:=0
def tw14311867853233523705:=0
def tw4416760186937637153:=0
def tw18193763495998070099:=0
def tw4245941716169739794:=0
def tw6193374698010669421:=0
def tw9767276375523848617:=0
def tw2888338270619323536:=0
def tw13172973552365429765:=0
def tw5187183845732132460:=0
def tw16798282026791965089:=0
def tw8196885934994098653:=0
def tw12141787582308977787:=0
def tw6074463391811994103:=0
def tw4749434523967393824:=0
end PySem.W.Fast
set_option compiler.extract_closed false
noncomputable section
abbrev qa:=PySem.Str->Option PySem.Value
abbrev qb:=List (PySem.Addr×PySem.Obj)
abbrev qc:=PySem.Value->PySem.Shared->Prop
abbrev qd:=PySem.Addr->Bool
abbrev qe:=Array (Option PySem.Value)
abbrev qf:=List (PySem.Str×Nat)
abbrev zax.{u}:=@List.getElem?_eq_getElem.{u}
abbrev zay:=@PySem.wpAny_bind
abbrev zaz:=@PySem.Heap.get?_push_of_some
abbrev zav.{u,v}:=@List.length_map.{u,v}
abbrev zaw.{u}:=@List.mem_cons_of_mem.{u}
abbrev zaa.{u}:=@List.mem_cons_self.{u}
abbrev zab:=@PySem.wpAny_pure
abbrev zac:=@Nat.le_refl
abbrev zbx.{u}:=@List.size_toArray.{u}
abbrev zby.{u}:=@Option.some.inj.{u}
abbrev zbz:=@PySem.Heap.get?_push_size
abbrev zbv:=@PySem.Heap.lt_size
abbrev zbw.{u}:=@List.getElem?_set_ne.{u}
abbrev zba.{u,v}:=@List.getElem?_map.{u,v}
abbrev zbb.{u}:=@List.getElem?_eq_some_iff.{u}
abbrev zbc.{u}:=@List.contains_iff_mem.{u}
abbrev zcx:=@Nat.lt_of_lt_of_le
abbrev zcy.{u}:=@List.mem_append_right.{u}
abbrev zcz.{u}:=@List.getElem?_set_self.{u}
abbrev zcv.{u,v}:=@List.mem_map.{u,v}
abbrev zcw:=@Nat.ne_of_lt
abbrev zca:=@Int.emod_nonneg
abbrev zcb:=@Int.emod_lt_of_pos
abbrev zcc.{u}:=@List.length_append.{u}
abbrev zdx.{u}:=@List.mem_singleton.{u}
abbrev zdy:=@Nat.le_trans
open PySem PySem.Spec namespace L2
open PyProof.Rows
abbrev zsE(e:Expr)(es:List Expr)(v:Env):Prop:=starEach (e::es) v=(false,eval e v)::starEach es v
abbrev zbT(p:Pos)(es:List Expr)(v:Env):Prop:=(backTo p (starEach es v)).any (·.1)=false
abbrev Key:=Sum Int Str
def jF2:Key->Value->Bool
 | .inl k,v=>Value.isInt k v
 | .inr x,v=>Value.isStrOf x v
def keyH(w:World):Key->Int
 | .inl k=>hashInt k
 | .inr x=>hashStr w x
def jcl:∀ {k:Key} {v:Value},jF2 k v=true->(∃ i t,k=Sum.inl i/\v=Value.int i t)\/(∃ x t,k=Sum.inr x/\v=Value.str x t)
 | .inl i,v,h=>by
  obtain⟨t,e⟩:=Value.isInt_shape (k:=i) (v:=v) h;exact .inl ⟨i,t,rfl,e⟩
 | .inr x,v,h=>by
  obtain⟨t,e⟩:=Value.isStrOf_shape (x:=x) (v:=v) h;exact .inr ⟨x,t,rfl,e⟩
def jF3(a b:Int):decide ((Sum.inl a:Key)=Sum.inl b)=(a == b):=by
 by_cases e:a=b
 ·subst e;simp
 ·have h:¬ (Sum.inl a:Key)=Sum.inl b:=fun q=>e (Sum.inl.inj q)
  rw[decide_eq_false h];exact (beq_eq_false_iff_ne.mpr e).symm
def jF6(a b:Str):decide ((Sum.inr a:Key)=Sum.inr b)=decide (a=b):=by
 by_cases e:a=b
 ·subst e;simp
 ·have h:¬ (Sum.inr a:Key)=Sum.inr b:=fun q=>e (Sum.inr.inj q)
  rw[decide_eq_false h,decide_eq_false e]
def jF4(a:Int)(b:Str):decide ((Sum.inl a:Key)=Sum.inr b)=false:=decide_eq_false (fun q=>nomatch q)
def jF5(a:Str)(b:Int):decide ((Sum.inr a:Key)=Sum.inl b)=false:=decide_eq_false (fun q=>nomatch q)
def jqf(prog:Program)(w:World):PySem.KeyKind prog w Key where
 is:=jF2
 hash:=keyH w
 inj:=fun v a b ha hb=>by
  rcases jcl ha with ⟨i,t,rfl,rfl⟩|⟨x,t,rfl,rfl⟩
  ·rcases jcl hb with ⟨j,u,rfl,e⟩|⟨y,u,rfl,e⟩
   ·injection e with e1 _;rw[e1]
   ·exact nomatch e
  ·rcases jcl hb with ⟨j,u,rfl,e⟩|⟨y,u,rfl,e⟩
   ·exact nomatch e
   ·injection e with e1 _;rw[e1]
 byValue:=fun k v h=>by
  rcases jcl h with ⟨i,t,rfl,rfl⟩|⟨x,t,rfl,rfl⟩<;>rfl
 pyHash:=fun hv h=>by
  rcases jcl hv with ⟨i,t,rfl,rfl⟩|⟨x,t,rfl,rfl⟩
  ·exact wpAny_pyHash_int h
  ·exact wpAny_pyHash_str h
 eqBool:=fun hu hv h=>by
  rcases jcl hu with ⟨i,t,rfl,rfl⟩|⟨x,t,rfl,rfl⟩
  ·rcases jcl hv with ⟨j,u,rfl,rfl⟩|⟨y,u,rfl,rfl⟩
   ·rw[jF3] at h;exact wpAny_eqBool_int h
   ·rw[jF4] at h;exact SeqAt.EqAt.int_str i t y u _ _ _ _ h
  ·rcases jcl hv with ⟨j,u,rfl,rfl⟩|⟨y,u,rfl,rfl⟩
   ·rw[jF5] at h;exact SeqAt.EqAt.str_int x t j u _ _ _ _ h
   ·rw[jF6] at h;exact wpAny_eqBool_str h
 «strs»:=fun k x t v h=>by
  rcases jcl h with ⟨i,u,rfl,e⟩|⟨y,u,rfl,e⟩
  ·exact nomatch e
  ·injection e with e1 _
   subst e1;cases v<;>rfl
inductive V where
 | non|bl (b:Bool)|int (i:Int)|str (x:Str)|ref (a:Addr)|ty (n:String)
 deriving DecidableEq
def RelV:V->Value->Prop
 | .non,u=>u=Value.none
 | .bl b,u=>u=Value.bool b
 | .int i,u=>∃ t,u=Value.int i t
 | .str x,u=>∃ t,u=Value.str x t
 | .ref a,u=>u=Value.ref a
 | .ty n,u=>u=Value.type n
abbrev Vals:List V->List Value->Prop:=Paired RelV
def Vals.length{xs:List V}{us:List Value}(r:Vals xs us):xs.length=us.length:=Paired.length r
theorem Vals.get:∀ {xs:List V} {us:List Value} {i:Nat} {x:V},Vals xs us->xs[i]? = some x->∃ u,us[i]? = some u/\RelV x u
 | _,_,_,_,.nil,e=>by simp at e
 | _,_,0,_,.cons r _,e=>by simp at e;subst e;exact⟨_,rfl,r⟩
 | _,_,i+1,x,.cons _ t,e=>by
  obtain⟨u,h1,h2⟩:=Vals.get (i:=i) (x:=x) t (by simpa using e);exact⟨u,by simpa using h1,h2⟩
theorem Vals.append:∀ {xs ys:List V} {us ws:List Value},Vals xs us->Vals ys ws->Vals (xs++ys) (us++ws)
 | _,_,_,_,.nil,s=>s
 | _,_,_,_,.cons r t,s=>.cons r (Vals.append t s)
theorem Vals.take:∀ {xs:List V} {us:List Value} (n:Nat),Vals xs us->Vals (xs.take n) (us.take n)
 | _,_,0,_=>.nil
 | _,_,_+1,.nil=>.nil
 | _,_,n+1,.cons r t=>.cons r (Vals.take n t)
theorem Vals.drop:∀ {xs:List V} {us:List Value} (n:Nat),Vals xs us->Vals (xs.drop n) (us.drop n)
 | _,_,0,r=>r
 | _,_,_+1,.nil=>.nil
 | _,_,n+1,.cons _ t=>Vals.drop n t
def RelO:Option V->Option Value->Prop
 | some v,some u=>RelV v u
 | none,none=>True
 | _,_=>False
def KV{κ:Type}:List (κ×V)->List (κ×Value)->Prop:=Paired fun (p:κ×V) (q:κ×Value)=>p.1=q.1/\RelV p.2 q.2
def kV:Key->V
 | .inl i=>.int i
 | .inr x=>.str x
inductive HO where
  | lst (xs:List V)
  | tup (xs:List V)
  | dK (kvs:List (Key×V))|dT (kvs:List (List Key×V))
  | ins (C dx:Addr) (fs:List (Str×V))
  | own (x:Addr)
  | xd (fs:List (Str×V))
  | met (f x:Addr)
  | rng (lo hi:Int)
  | frz (o:Obj) (u:HO)
  | tbl (ps:Array Value)
  | ext (φ:Heap->Prop)
abbrev Hp:=Addr->Option HO
def upd(H:Hp)(a:Addr)(o:HO):Hp:=fun b=>if b=a then some o else H b
def jam{H:Hp}{a:Addr}{o:HO}:upd H a o a=some o:=by unfold upd;rw[if_pos rfl]
def jai{H:Hp}{a b:Addr}{o:HO}(h:b≠a):upd H a o b=H b:=by unfold upd;rw[if_neg h]
def jC9{H:Hp}{a b:Addr}{o u:HO}(h:H a=some o)(h':H b=some u)(d:o≠u):a≠b:=by
 intro e;subst e;rw[h] at h';exact d (zby h')
def ja6{H:Hp}{a b:Addr}{o:HO}(h:H a=some o)(h':H b=none):a≠b:=by
 intro e;subst e;rw[h] at h';cases h'
section
variable (P:Program)(w:World)
def ObjOk(H:Hp)(h:Heap)(a:Addr):HO->Prop
 | .lst xs=>xs.length<=sizeLine/\∃ (its:List Value) (n:Nat),Vals xs its/\h.get? a=some { cls:=.type "list",data:=.seq its.toArray n }
 | .tup xs=>xs.length<=sizeLine/\∃ its:List Value,Vals xs its/\IsTup h a its.toArray
 | .dK kvs=>kvs.length<=sizeLine/\(a == sysModules)=false/\∃ vs,KV kvs vs/\h.DictOf (jqf P w) a vs
 | .dT kvs=>kvs.length<=sizeLine/\(a == sysModules)=false/\∃ xs:List (List Key×Addr×Value),
   Paired (fun (p:List Key×V) (q:List Key×Addr×Value)=>p.1=q.1/\H q.2.1=some (.tup (p.1.map kV))/\RelV p.2 q.2.2) kvs xs /\
   ∃ o es ep,h.get? a=some o/\o.ExactDict/\o.data=.dict es ep/\es.toList=xs.map (entryOfKey (tupleKind (jqf P w)))/\(xs.map (·.1)).Nodup
 | .ins C dx fs=>H dx=some (.own a)/\fs.length<=1000/\dx≠a/\h.get? a=some (W.instObj C dx) /\
   ∃ mA,h.Ns1 dx mA/\(∀ f,RelO (fs.lookup f) (mA f))/\PySem.Within mA (fs.map (·.1))
 | .own _=>∃ o,h.get? a=some o
 | .xd fs=>∃ mA,h.Ns1 a mA/\∀ f,RelO (fs.lookup f) (mA f)
 | .rng lo hi=>∃ t u v,h.get? a=some { cls:=.type "range",data:=.fields #[.int lo t,.int hi u,.int 1 v] }
 | .frz o u=>h.get? a=some o/\ObjOk H h a u
 | .tbl ps=>h.get? a=some { cls:=.none,data:=.fields ps }
 | .met f x=>h.get? a=some (W.methodObj (.ref f) (.ref x))
 | .ext φ=>φ h/\(∃ o,h.get? a=some o)/\∀ h1 h2:Heap,φ h1->(∀ o,h1.get? a=some o->h2.get? a=some o)->φ h2
def HOk(H:Hp)(h:Heap):Prop:=∀ a o,H a=some o->ObjOk P w H h a o
end
section
variable {P:Program}{w:World}{H H':Hp}{h h':Heap}{a:Addr}{o:HO}
theorem ObjOk.lt(x:ObjOk P w H h a o):a<h.objs.size:=by
 cases o with
 | lst xs=>obtain⟨_,_,_,_,e⟩:=x;exact zbv e
 | tup xs=>obtain⟨_,_,_,p⟩:=x;exact p.lt
 | dK kvs=>obtain⟨_,_,_,_,o,_,_,e,_⟩:=x;exact zbv e
 | dT kvs=>obtain⟨_,_,_,_,o,_,_,e,_⟩:=x;exact zbv e
 | ins C dx fs=>obtain⟨_,_,_,e,_⟩:=x;exact zbv e
 | own y=>obtain⟨_,e⟩:=x;exact zbv e
 | xd fs=>obtain⟨_,⟨_,_,_,e,_⟩,_⟩:=x;exact zbv e
 | rng lo hi=>obtain⟨_,_,_,e⟩:=x;exact zbv e
 | frz ob u=>obtain⟨e,_⟩:=x;exact zbv e
 | tbl ps=>exact zbv (show h.get? a=some _ from x)
 | met f y=>exact zbv (show h.get? a=some _ from x)
 | ext φ=>obtain⟨_,⟨_,e⟩,_⟩:=x;exact zbv e
theorem Paired.mapP{α β:Type}{F G:α->β->Prop}:∀ {l₁:List α} {l₂:List β},Paired F l₁ l₂->(∀ a b,F a b->G a b)->Paired G l₁ l₂
 | _,_,.nil,_=>.nil
 | _,_,.cons r t,f=>.cons (f _ _ r) (Paired.mapP t f)
def ObjOk.stay(x:ObjOk P w H h a o)(k:∀ b u,(b=a\/H b=some (.own a))->h.get? b=some u->h'.get? b=some u)
  (ho:∀ b,H b=some (.own a)->H' b=some (.own a)) (ht:∀ b xs,H b=some (.tup xs)->H' b=some (.tup xs)):ObjOk P w H' h' a o:=by
 induction o with
 | lst xs=>obtain⟨z,its,n,r,e⟩:=x;exact⟨z,its,n,r,k _ _ (.inl rfl) e⟩
 | tup xs=>obtain⟨z,its,r,ob,e,c⟩:=x;exact⟨z,its,r,ob,k _ _ (.inl rfl) e,c⟩
 | dK kvs=>obtain⟨z,y,vs,r,ob,es,ep,e,c⟩:=x;exact⟨z,y,vs,r,ob,es,ep,k _ _ (.inl rfl) e,c⟩
 | dT kvs =>
  obtain⟨z,y,xs,r,ob,es,ep,e,c⟩:=x;exact⟨z,y,xs,Paired.mapP r fun p q z=>⟨z.1,ht _ _ z.2.1,z.2.2⟩,ob,es,ep,k _ _ (.inl rfl) e,c⟩
 | ins C dx fs =>
  obtain⟨d,z,ne,e,mA,⟨od,es,ep,e2,c⟩,r⟩:=x;exact⟨ho _ d,z,ne,k _ _ (.inl rfl) e,mA,⟨od,es,ep,k _ _ (.inr d) e2,c⟩,r⟩
 | own y=>obtain⟨ob,e⟩:=x;exact⟨ob,k _ _ (.inl rfl) e⟩
 | xd fs=>obtain⟨mA,⟨od,es,ep,e,c⟩,r⟩:=x;exact⟨mA,⟨od,es,ep,k _ _ (.inl rfl) e,c⟩,r⟩
 | rng lo hi=>obtain⟨t,u,v,e⟩:=x;exact⟨t,u,v,k _ _ (.inl rfl) e⟩
 | frz ob u ih=>obtain⟨e,q⟩:=x;exact⟨k _ _ (.inl rfl) e,ih q⟩
 | tbl ps =>
  have e:h.get? a=some { cls:=.none,data:=.fields ps }:=x;show h'.get? a=some { cls:=.none,data:=.fields ps };exact k a _ (.inl rfl) e
 | met f y =>
  have e:h.get? a=some (W.methodObj (.ref f) (.ref y)):=x;show h'.get? a=some (W.methodObj (.ref f) (.ref y));exact k a _ (.inl rfl) e
 | ext φ=>obtain⟨p,⟨o,e⟩,st⟩:=x;exact⟨st _ _ p fun o q=>k _ _ (.inl rfl) q,⟨o,k _ _ (.inl rfl) e⟩,st⟩
def HOk.lt(x:HOk P w H h)(e:H a=some o):a<h.objs.size:=(x a o e).lt
def HOk.fresh(x:HOk P w H h)(e:h.objs.size<=a):H a=none:=by
 cases q:H a with
 | none=>rfl
 | some u=>exact absurd (zcx (x.lt q) e) (Nat.lt_irrefl _)
def HOk.kept(x:HOk P w H h)(k:∀ b u,h.get? b=some u->h'.get? b=some u):HOk P w H h':=fun a o e =>
 (x a o e).stay (fun b u _ q=>k b u q) (fun _ q=>q) fun _ _ q=>q
def HOk.laid(x:HOk P w H h)(k:∀ b u,h.get? b=some u->h'.get? b=some u)(hp:h.objs.size<=a)(new:ObjOk P w (upd H a o) h' a o):HOk P w (upd H a o) h':=fun b u e=>by
 have hn:=x.fresh hp
 by_cases hb:b=a
 ·subst hb;rw[jam] at e;cases e;exact new
 ·rw[jai hb] at e;exact (x b u e).stay (fun c v _ q=>k c v q) (fun c q=>by rw[jai (ja6 q hn)];exact q) fun c xs q=>by rw[jai (ja6 q hn)];exact q
end
def Rd(H:Hp)(a:Addr)(u:HO):Prop:=H a=some u\/∃ o,H a=some (.frz o u)
def Rd.ok{P:Program}{w:World}{H:Hp}{h:Heap}{a:Addr}{u:HO}(r:Rd H a u)(x:HOk P w H h):ObjOk P w H h a u:=by
 rcases r with r|⟨o,r⟩
 ·exact x a u r
 ·obtain⟨_,q⟩:=x a _ r;exact q
def Mut:Option HO->Prop
 | some (.lst _)=>True
 | some (.dK _)=>True
 | some (.dT _)=>True
 | some (.ins _ _ _)=>True
 | some (.ext _)=>True
 | _=>False
section
variable {P:Program}{w:World}{H:Hp}{h h':Heap}{x e:Addr}{o':HO}
def HOk.write(ok:HOk P w H h)(mu:Mut (H x))(he:e=x\/H e=some (.own x))(k:∀ b u,b≠e->h.get? b=some u->h'.get? b=some u)(heo:∃ u,h'.get? e=some u)
  (new:ObjOk P w (upd H x o') h' x o'):HOk P w (upd H x o') h':=fun b u q=>by
 have nown:∀ c y,H c=some (.own y)->c≠x:=fun c y r z=>by subst z;rw[r] at mu;exact mu
 have ntup:∀ c xs,H c=some (.tup xs)->c≠x:=fun c xs r z=>by subst z;rw[r] at mu;exact mu
 by_cases hb:b=x
 ·subst hb;rw[jam] at q;cases q;exact new
 ·rw[jai hb] at q
  by_cases hbe:b=e
  ·have q':H b=some (.own x):=by
    rcases he with z|z
    ·exact absurd (hbe.trans z) hb
    ·rw[hbe];exact z
   rw[q] at q';cases q'
   obtain⟨v,hv⟩:=heo;exact⟨v,by rw[hbe];exact hv⟩
  ·refine (ok b u q).stay (fun c v hc r=>k c v ?_ r) (fun c r=>by rw[jai (nown c b r)];exact r) fun c xs r=>by rw[jai (ntup c xs r)];exact r
   rcases hc with rfl|hc
   ·exact hbe
   ·rintro rfl;rcases he with z|z
    ·exact nown c b hc z
    ·rw[hc] at z;cases z;exact hb rfl
end
structure Un(fs ex:List Addr)(H H':Hp)(h h':Heap):Prop where
 keep:∀ b o,h.get? b=some o->H b=none->b∉fs->b∉ex->h'.get? b=some o
 slot:∀ b o,h.get? b=some o->H b=none->b∈fs->b∉ex->∃ sl,h'.get? b=some { o with slots:=sl }
 free:∀ b o,h.get? b=some o->H b=none->b∉ex->H' b=none
 there:∀ b o,h.get? b=some o->b∉ex->∃ o',h'.get? b=some o'
 tups:∀ b xs,H b=some (.tup xs)->H' b=some (.tup xs)
 frzs:∀ b o u,H b=some (.frz o u)->H' b=some (.frz o u)
 tbls:∀ b ps,H b=some (.tbl ps)->∃ more,H' b=some (.tbl (ps++more))
section
variable {fs ex:List Addr}{H H1:Hp}{h h1 h':Heap}{a x e:Addr}{o:HO}
def Un.any(u:Un fs ex H H1 h h1){b:Addr}{ob:Obj}(q:h.get? b=some ob)(n:H b=none)(hx:b∉ex):∃ sl,h1.get? b=some { ob with slots:=sl }:=by
 by_cases hb:b∈fs
 ·exact u.slot b ob q n hb hx
 ·exact⟨ob.slots,u.keep b ob q n hb hx⟩
def Un.kept(k:∀ b u,h.get? b=some u->h'.get? b=some u):Un fs ex H H h h' :=
 ⟨fun b ob q _ _ _=>k b ob q,fun b ob q _ _ _=>⟨ob.slots,k b ob q⟩,fun _ _ _ n _=>n,fun b ob q _=>⟨ob,k b ob q⟩,fun _ _ q=>q,fun _ _ _ q=>q,fun _ ps q=>⟨#[],by rw[q];simp⟩⟩
def Un.refl:Un fs ex H H h h:=Un.kept fun _ _ q=>q
def Un.laid(k:∀ b u,h.get? b=some u->h'.get? b=some u)(hp:h.objs.size<=a)(hn:H a=none):Un fs ex H (upd H a o) h h' where
 keep:=fun b u q _ _ _=>k b u q
 slot:=fun b u q _ _ _=>⟨u.slots,k b u q⟩
 free:=fun b u q n _=>by rw[jai (zcw (zcx (zbv q) hp))];exact n
 there:=fun b u q _=>⟨u,k b u q⟩
 tups:=fun b xs q=>by rw[jai (ja6 q hn)];exact q
 frzs:=fun b u xs q=>by rw[jai (ja6 q hn)];exact q
 tbls:=fun b ps q=>⟨#[],by rw[jai (ja6 q hn),q];simp⟩
def Un.write(mu:Mut (H x))(he:e=x\/H e=some (.own x))(k:∀ b u,b≠e->h.get? b=some u->h'.get? b=some u)(heo:∃ u,h'.get? e=some u):Un fs ex H (upd H x o) h h':=by
 have hx:∀ b,H b=none->b≠x:=fun b n z=>by subst z;rw[n] at mu;exact mu
 have hb:∀ b,H b=none->b≠e:=fun b n z=>by
  subst z;rcases he with r|r
  ·exact hx b n r
  ·rw[n] at r;cases r
 have hm:∀ b u,H b=some u->¬ Mut (some u)->b≠x:=fun b u q nm z=>by subst z;rw[q] at mu;exact nm mu
 refine⟨fun b u q n _ _=>k b u (hb b n) q,fun b u q n _ _=>⟨u.slots,k b u (hb b n) q⟩,fun b u q n _=>by rw[jai (hx b n)];exact n,fun b u q _=>?_,
  fun b xs q=>by rw[jai (hm b _ q fun z=>z)];exact q,fun b u xs q=>by rw[jai (hm b _ q fun z=>z)];exact q,fun b ps q=>⟨#[],by rw[jai (hm b _ q fun z=>z),q];simp⟩⟩
 by_cases hbe:b=e
 ·subst hbe;exact heo
 ·exact⟨u,k b u hbe q⟩
end
def trk(h:Heap)(H:Hp):List Addr:=(List.range h.objs.size).filter fun a=>(H a).isSome
def hidT(h:Heap)(H:Hp):Heap:=W.hideAll h (trk h H)
def ju4(h:Heap)(H:Hp):(hidT h H).objs.size=h.objs.size:=W.hideAll_size _ _
def jyf{h:Heap}{H:Hp}{b:Addr}{o:Obj}(e:h.get? b=some o)(n:H b=none):(hidT h H).get? b=some o :=
 W.hideAll_get _ e fun hm=>by
  have q:(H b).isSome=true:=(List.mem_filter.mp hm).2;rw[n] at q;simp at q
def jDd{h:Heap}{H:Hp}{b:Addr}{o:Obj}(e:(hidT h H).get? b=some o):h.get? b=some o/\H b=none:=by
 have e':h.get? b=some o:=W.of_hideAll (trk h H) e;refine⟨e',?_⟩
 cases q:H b with
 | none=>rfl
 | some x =>
  have hm:b∈trk h H:=List.mem_filter.mpr ⟨List.mem_range.mpr (zbv e'),by simp[q]⟩;have z:(hidT h H).get? b=none:=W.hideAll_none (trk h H) hm;rw[z] at e;cases e
def jBo(g h:Heap)(L:Addr):qb:=(List.range h.objs.size).filterMap fun a=>if a=L\/(g.get? a).isSome=true then none else (h.get? a).map fun o=>(a,o)
def rest(g h:Heap)(L d:Addr):qb:=(jBo g h L).filter fun p=>decide (p.1≠d)
structure Mod(K:W.Frag)(mg:qa)(base:Heap):Prop where
 kin:K.In base
 glob:base.Ns mainGlobals mg
 blt:∃ mb,base.Ns builtinsNs mb/\∀ x:Str,x≠"__name__"->mb x=bootBuiltins x
 nolimit:base.NoLimit
structure Cx where
 prog:Program
 w:World
 K:W.Frag
 mg:qa
 base:Heap
 A:Around
 N:List Str
 s₀:Shared
 Hz:Hp
 env:Env
 outer:List Env
 stack:List Env
 ex:List Addr
 fn:Str->Bool
 calm:Bool
 pn:qb
 xe:qc
def frs(l:List Env):List Addr:=l.filterMap (·.frame)
abbrev Cx.fs(X:Cx):List Addr:=frs X.outer
def Vis(sc:Scope)(x:Str):Prop:=sc.names.lookup x=some .local\/sc.names.lookup x=some .cell\/sc.names.lookup x=some .free
def Loc(sc:Scope)(x:Str):Prop:=sc.names.lookup x=some .local\/sc.names.lookup x=some .cell
def Look(env:Env)(h:Heap)(m:qa)(x:Str)(u:Value):Prop :=
 (env.kindOf x=some .local/\m x=some u)\/((env.kindOf x=some .cell\/env.kindOf x=some .free)/\∃ c,env.cells.lookup x=some c/\h.IsCell c (some u))
structure Cx.Ok(X:Cx):Prop where
 mod:Mod X.K X.mg X.base
 kind:X.env.scope.kind=.function
 glob:X.env.globals=mainGlobals
 blt:X.env.builtins=builtinsNs
 above:X.s₀.heap.objs.size<=X.env.locals
 inj:∀ x y c,X.env.cells.lookup x=some c->X.env.cells.lookup y=some c->x=y
 has:∀ x,(X.env.kindOf x=some .cell\/X.env.kindOf x=some .free)->∃ c,X.env.cells.lookup x=some c
 cab:∀ x c,X.fn x=true->X.env.cells.lookup x=some c->X.s₀.heap.objs.size<=c
 hd:X.calm=true->X.A.handled=none
 frames:X.A.frames=some X.stack
 stk:X.stack=X.outer\/(X.stack=X.env::X.outer/\X.env.frame=some X.env.locals)
 exf:∀ b∈X.ex,b≠X.env.locals/\∀ x c,X.env.cells.lookup x=some c->c≠b
 bs:∀ b o,X.base.get? b=some o->X.s₀.heap.get? b=some o/\X.Hz b=none
 bsz:X.base.objs.size<=X.s₀.heap.objs.size
 noex:∀ b o,X.base.get? b=some o->b∉X.ex
 exfs:∀ b∈X.ex,b∉X.fs
 funs:X.s₀.heap.FunFrames X.base X.outer
 frf:∀ b∈X.fs,X.Hz b=none
structure Inv(X:Cx)(U:qb)(Z:List (Option V))(H:Hp)(s:Shared):Prop where
 ok:X.Ok
 os:s.os=X.s₀.os
 bare:AllBare s.gens
 base:Un X.fs X.ex X.Hz H X.s₀.heap s.heap
 loc:∃ m,s.heap.Ns X.env.locals m/\∀ (i:Nat) (x:Str) (v:V),X.N[i]? = some x->Z[i]? = some (some v)->Vis X.env.scope x->∃ u,RelV v u/\Look X.env s.heap m x u
 cell:∀ x c,X.env.cells.lookup x=some c->∃ v,s.heap.IsCell c v
 free:H X.env.locals=none
 freeC:∀ x c,X.env.cells.lookup x=some c->H c=none
 pin:∀ p∈X.pn++U,s.heap.get? p.1=some p.2/\H p.1=none/\p.1≠X.env.locals/\p.1∉X.fs/\∀ v,p.2.data≠.cell v
 hok:HOk X.prog X.w H s.heap
 len:Z.length=X.N.length
section
variable {X:Cx}{U:qb}{Z:List (Option V)}{H H':Hp}{s:Shared}{h':Heap}
def Cx.Ok.nofr(ok:X.Ok){b:Addr}{o:Obj}(e:X.base.get? b=some o):b∉X.fs:=fun hb=>by
 have:=(ok.funs.mem hb).1;rw[e] at this;cases this
def Inv.bs(I:Inv X U Z H s):∀ b o,X.base.get? b=some o->s.heap.get? b=some o/\H b=none:=fun b o e =>
 ⟨I.base.keep b o (I.ok.bs b o e).1 (I.ok.bs b o e).2 (I.ok.nofr e) (I.ok.noex b o e),I.base.free b o (I.ok.bs b o e).1 (I.ok.bs b o e).2 (I.ok.noex b o e)⟩
def Inv.bk(I:Inv X U Z H s):∀ b o,X.base.get? b=some o->s.heap.get? b=some o:=fun b o e=>(I.bs b o e).1
def Inv.mod(I:Inv X U Z H s):Mod X.K X.mg X.base:=I.ok.mod
def Inv.kIn(I:Inv X U Z H s):X.K.In s.heap:=I.ok.mod.kin.keeps I.bk
def Inv.lt(I:Inv X U Z H s):X.env.locals<s.heap.objs.size:=let ⟨_,hn,_⟩:=I.loc;hn.lt
def Inv.sz(I:Inv X U Z H s):X.s₀.heap.objs.size<=s.heap.objs.size:=zdy I.ok.above (Nat.le_of_lt I.lt)
def Inv.nofs(I:Inv X U Z H s){a:Addr}(h:s.heap.objs.size<=a):a∉X.fs:=fun hb=>by
 obtain⟨_,o,ho,_⟩:=I.ok.funs.mem hb;exact absurd (zcx (zbv ho) (zdy I.sz h)) (Nat.lt_irrefl _)
def Inv.cne(I:Inv X U Z H s):∀ x c,X.env.cells.lookup x=some c->c≠X.env.locals:=fun x c e z=>by
 obtain⟨v,o,ho,hd⟩:=I.cell x c e;obtain⟨m,⟨o',es,ep,ho',hd',_⟩,_⟩:=I.loc;rw[z,ho'] at ho;cases ho;rw[hd'] at hd;cases hd
def Inv.funs(I:Inv X U Z H s):s.heap.FunFrames X.base X.outer:=by
 have all:∀ (l:List Env),(∀ b∈frs l,b∈X.fs)->X.s₀.heap.FunFrames X.base l->s.heap.FunFrames X.base l:=by
  intro l
  induction l with
  | nil=>intro _ _;trivial
  | cons env r ih =>
   intro hs hl;obtain⟨hk,⟨L,o,hf,hn,ho,hd⟩,hr⟩:=hl;have hL:L∈X.fs:=hs L (by unfold frs;rw[List.filterMap_cons,hf];exact zaa);obtain⟨sl,e⟩:=I.base.slot L o ho (I.ok.frf L hL) hL fun z=>I.ok.exfs L z hL
   exact⟨hk,⟨L,_,hf,hn,e,hd⟩,ih (fun b hb=>hs b (by unfold frs;rw[List.filterMap_cons,hf];exact zaw _ hb)) hr⟩
 exact all X.outer (fun _ hb=>hb) I.ok.funs
def Inv.stack(I:Inv X U Z H s):s.heap.FunFrames X.base X.stack:=by
 rcases I.ok.stk with e|⟨e,hf⟩
 ·rw[e];exact I.funs
 ·rw[e];obtain⟨m,hn,_⟩:=I.loc;refine .cons (by rw[I.ok.kind];decide) hf hn ?_ I.funs;exact Heap.get?_none_of_le (zdy I.ok.bsz I.ok.above)
def Inv.stkSub(I:Inv X U Z H s):∀ b∈frs X.stack,b∈X.env.locals::X.fs:=fun b hb=>by
 rcases I.ok.stk with e|⟨e,hf⟩
 ·rw[e] at hb;exact zaw _ hb
 ·rw[e] at hb;unfold frs at hb;rw[List.filterMap_cons,hf] at hb;exact hb
def Inv.stkFree(I:Inv X U Z H s):∀ b∈frs X.stack,H b=none:=fun b hb=>by
 rcases List.mem_cons.mp (I.stkSub b hb) with e|hb
 ·rw[e];exact I.free
 ·obtain⟨_,o,ho,_⟩:=I.ok.funs.mem hb;exact I.base.free b o ho (I.ok.frf b hb) fun z=>I.ok.exfs b z hb
def Inv.step{g':Array GenState}{t':Nat}{d':Drawn}{ch:List Addr}(I:Inv X U Z H s)
  (hch:∀ b∈ch,(b∈X.ex\/X.s₀.heap.objs.size<=b)/\b≠X.env.locals/\(∀ x c,X.env.cells.lookup x=some c->c≠b)/\∀ p∈X.pn++U,p.1≠b)
  (keep:∀ b o,b≠X.env.locals->b∉X.fs->b∉ch->s.heap.get? b=some o->H b=none->h'.get? b=some o)
  (slot:∀ b o,b≠X.env.locals->b∈X.fs->b∉ch->s.heap.get? b=some o->H b=none->∃ sl,h'.get? b=some { o with slots:=sl }) (free:∀ b o,b∉ch->s.heap.get? b=some o->H b=none->H' b=none)
  (there:∀ b o,b∉ch->s.heap.get? b=some o->∃ o',h'.get? b=some o')
  (tups:∀ b xs,H b=some (.tup xs)->H' b=some (.tup xs)) (frzs:∀ b o u,H b=some (.frz o u)->H' b=some (.frz o u)) (tbls:∀ b ps,H b=some (.tbl ps)->∃ more,H' b=some (.tbl (ps++more)))
  (ns:∀ m,s.heap.Ns X.env.locals m->h'.Ns X.env.locals m) (hok:HOk X.prog X.w H' h') (hg:AllBare g') :
  Inv X U Z H' { s with heap:=h',gens:=g',drawn:=d',toks:=t' }:=by
 have neL:∀ b o,X.s₀.heap.get? b=some o->b≠X.env.locals:=fun b o e=>zcw (zcx (zbv e) I.ok.above)
 have neC:∀ b o,X.s₀.heap.get? b=some o->b∉X.ex->b∉ch:=fun b o e hx hb=>by
  rcases (hch b hb).1 with z|z
  ·exact hx z
  ·exact absurd (zcx (zbv e) z) (Nat.lt_irrefl _)
 have cellK:∀ x c,X.env.cells.lookup x=some c->∀ v,s.heap.IsCell c v->h'.IsCell c v:=fun x c e v ⟨o,ho,hd⟩=>by
  have nch:c∉ch:=fun z=>(hch c z).2.2.1 x c e rfl
  by_cases hc:c∈X.fs
  ·obtain⟨sl,q⟩:=slot c o (I.cne x c e) hc nch ho (I.freeC x c e);exact⟨_,q,hd⟩
  ·exact⟨o,keep c o (I.cne x c e) hc nch ho (I.freeC x c e),hd⟩
 refine⟨I.ok,I.os,hg,⟨fun b o e n hb hx=>?_,fun b o e n hb hx=>?_,fun b o e n hx=>?_,fun b o e hx=>?_,fun b xs e=>tups b xs (I.base.tups b xs e),fun b o xs e=>frzs b o xs (I.base.frzs b o xs e),fun b ps e=>?_⟩,?_,fun x c e=>?_,?_,fun x c e=>?_,fun p hp=>?_,hok,I.len⟩
 ·exact keep b o (neL b o e) hb (neC b o e hx) (I.base.keep b o e n hb hx) (I.base.free b o e n hx)
 ·obtain⟨sl,e1⟩:=I.base.slot b o e n hb hx;obtain⟨sl',e2⟩:=slot b _ (neL b o e) hb (neC b o e hx) e1 (I.base.free b o e n hx);exact⟨sl',e2⟩
 ·obtain⟨o',e1⟩:=I.base.there b o e hx;exact free b o' (neC b o e hx) e1 (I.base.free b o e n hx)
 ·obtain⟨o',e1⟩:=I.base.there b o e hx;exact there b o' (neC b o e hx) e1
 ·obtain⟨m1,e1⟩:=I.base.tbls b ps e;obtain⟨m2,e2⟩:=tbls b _ e1;exact⟨m1++m2,by rw[e2,Array.append_assoc]⟩
 ·obtain⟨m,hn,hl⟩:=I.loc;refine⟨m,ns m hn,fun i x v e1 e2 e3=>?_⟩;obtain⟨u,r,l⟩:=hl i x v e1 e2 e3;refine⟨u,r,?_⟩;rcases l with l|⟨k,c,e,z⟩
  ·exact .inl l
  ·exact .inr ⟨k,c,e,cellK x c e _ z⟩
 ·obtain⟨v,z⟩:=I.cell x c e;exact⟨v,cellK x c e v z⟩
 ·obtain⟨m,⟨o,_,_,ho,_⟩,_⟩:=I.loc;exact free _ o (fun z=>(hch _ z).2.1 rfl) ho I.free
 ·obtain⟨v,o,ho,hd⟩:=I.cell x c e;exact free c o (fun z=>(hch c z).2.2.1 x c e rfl) ho (I.freeC x c e)
 ·obtain⟨e,n,ne,nf,d⟩:=I.pin p hp;have nch:p.1∉ch:=fun z=>(hch p.1 z).2.2.2 p hp rfl
  exact⟨keep p.1 p.2 ne nf nch e n,free p.1 p.2 nch e n,ne,nf,d⟩
def Inv.un{t':Nat}(I:Inv X U Z H s)(u:Un X.fs [] H H' s.heap h')(hok:HOk X.prog X.w H' h'):Inv X U Z H' { s with heap:=h',toks:=t' }:=by
 obtain⟨m,⟨o,es,ep,ho,r⟩,_⟩:=id I.loc;obtain⟨sl,hL⟩:=u.any ho I.free (by simp);exact I.step (g':=s.gens) (d':=s.drawn) (ch:=[]) (fun _ z=>nomatch z) (fun b o _ hb _ e n=>u.keep b o e n hb (by simp)) (fun b o _ hb _ e n=>u.slot b o e n hb (by simp)) (fun b o _ e n=>u.free b o e n (by simp)) (fun b o _ e=>u.there b o e (by simp)) u.tups u.frzs u.tbls (fun m' hm=>by
  obtain⟨o',es',ep',ho',r'⟩:=hm;rw[ho] at ho';cases ho'
  exact⟨_,es',ep',hL,r'⟩) hok I.bare
def Inv.call{g':Array GenState}{t':Nat}{d':Drawn}{ch:List Addr}(I:Inv X U Z H s)(u:Un (frs X.stack) ch H H' s.heap h')(hok:HOk X.prog X.w H' h')(hg:AllBare g')
  (hch:∀ b∈ch,(b∈X.ex\/X.s₀.heap.objs.size<=b)/\b≠X.env.locals/\(∀ x c,X.env.cells.lookup x=some c->c≠b)/\∀ p∈X.pn++U,p.1≠b) :
  Inv X U Z H' { s with heap:=h',gens:=g',drawn:=d',toks:=t' }:=by
 obtain⟨m,⟨o,es,ep,ho,r⟩,_⟩:=id I.loc;obtain⟨sl,hL⟩:=u.any ho I.free fun z=>(hch _ z).2.1 rfl
 exact I.step (ch:=ch) hch (fun b o hL hb hc e n=>u.keep b o e n (fun z=>(List.mem_cons.mp (I.stkSub b z)).elim hL hb) hc) (fun b o _ _ hc e n=>u.any e n hc) (fun b o hc e n=>u.free b o e n hc) (fun b o hc e=>u.there b o e hc) u.tups u.frzs u.tbls (fun m' hm=>by
  obtain⟨o',es',ep',ho',r'⟩:=hm;rw[ho] at ho';cases ho'
  exact⟨_,es',ep',hL,r'⟩) hok hg
def Inv.turned{t':Nat}{it:Addr}(I:Inv X U Z H s)(k:∀ b o,b≠it->s.heap.get? b=some o->h'.get? b=some o)(hn:H it=none)(hL:it≠X.env.locals)
  (h1:it∈X.ex\/X.s₀.heap.objs.size<=it) (h2:∀ x c,X.env.cells.lookup x=some c->c≠it) (h3:∀ p∈X.pn++U,p.1≠it):Inv X U Z H { s with heap:=h',toks:=t' }:=by
 have nit:∀ b u,H b=some u->b≠it:=fun b u e z=>by rw[z,hn] at e;cases e
 refine I.step (g':=s.gens) (d':=s.drawn) (ch:=[it]) (fun b hb=>?_) (fun b o _ _ hc e _=>k b o (fun z=>hc (by simp[z])) e) (fun b o _ _ hc e _=>⟨o.slots,k b o (fun z=>hc (by simp[z])) e⟩) (fun _ _ _ _ n=>n)
  (fun b o hc e=>⟨o,k b o (fun z=>hc (by simp[z])) e⟩) (fun _ _ e=>e) (fun _ _ _ e=>e) (fun b ps e=>⟨#[],by rw[e];simp⟩) (fun m hm=>?_) (fun b u e=>?_) I.bare
 ·have e:b=it:=by simpa using hb
  subst e;exact⟨h1,hL,h2,h3⟩
 ·obtain⟨o,es,ep,ho,r⟩:=hm;exact⟨o,es,ep,k _ o (Ne.symm hL) ho,r⟩
 ·refine (I.hok b u e).stay (fun c v hc q=>k c v ?_ q) (fun _ q=>q) fun _ _ q=>q
  rcases hc with z|z
  ·rw[z];exact nit b u e
  ·exact nit c _ z
def Inv.tok(I:Inv X U Z H s)(t:Nat):Inv X U Z H { s with toks:=t }:=I.un (h':=s.heap) (t':=t) Un.refl I.hok
def Inv.kept{t':Nat}(I:Inv X U Z H s)(k:∀ b u,s.heap.get? b=some u->h'.get? b=some u):Inv X U Z H { s with heap:=h',toks:=t' }:=I.un (Un.kept k) (I.hok.kept k)
def Inv.laid{a:Addr}{o:HO}{t':Nat}(I:Inv X U Z H s)(k:∀ b u,s.heap.get? b=some u->h'.get? b=some u)(hp:s.heap.objs.size<=a)(new:ObjOk X.prog X.w (upd H a o) h' a o) :
  Inv X U Z (upd H a o) { s with heap:=h',toks:=t' }:=I.un (Un.laid k hp (I.hok.fresh hp)) (I.hok.laid k hp new)
def Inv.write{x e:Addr}{o:HO}{t':Nat}(I:Inv X U Z H s)(mu:Mut (H x))(he:e=x\/H e=some (.own x))(k:∀ b u,b≠e->s.heap.get? b=some u->h'.get? b=some u)(heo:∃ u,h'.get? e=some u)
  (new:ObjOk X.prog X.w (upd H x o) h' x o):Inv X U Z (upd H x o) { s with heap:=h',toks:=t' }:=I.un (Un.write mu he k heo) (I.hok.write mu he k heo new)
def Inv.pins_of{pins':qb}(I:Inv X U Z H s)(h:∀ p∈pins',s.heap.get? p.1=some p.2/\H p.1=none/\p.1≠X.env.locals/\p.1∉X.fs/\∀ v,p.2.data≠.cell v):Inv X pins' Z H s :=
 ⟨I.ok,I.os,I.bare,I.base,I.loc,I.cell,I.free,I.freeC,fun p hp=>(List.mem_append.mp hp).elim (fun z=>I.pin p (List.mem_append_left _ z)) (h p),I.hok,I.len⟩
def jnu{N:List Str}(hN:N.Nodup){i j:Nat}{x:Str}(a:N[i]? = some x)(b:N[j]? = some x):i=j:=by
 obtain⟨h1,e1⟩:=zbb.mp a;obtain⟨h2,e2⟩:=zbb.mp b;exact (List.getElem_inj hN).mp (e1.trans e2.symm)
def jpv{M:Model}{A:Around}{E:qc}{i:Nat}{x:Str}{v:V}{u:Value}{Q:Unit->Shared->Prop}(I:Inv X U Z H s)(hN:X.N.Nodup)(hi:X.N[i]? = some x)(hx:Loc X.env.scope x)(r:RelV v u)
  (h:∀ s',Inv X U (Z.set i (some v)) H s'->(∃ a,Heap.SameBut a s.heap s'.heap/\(a=X.env.locals\/X.env.cells.lookup x=some a))->Q () s') (hf:X.fn x=true\/X.env.scope.names.lookup x=some .local:=by first|exact .inl rfl|exact .inr rfl|assumption):wpAny M A (storeName X.env x u) Q E s:=by
 obtain⟨m,hn,hl⟩:=id I.loc;have hcls:(X.env.scope.kind == .class || (X.env.scope.kind == .module&&X.env.locals != X.env.globals))=false:=by rw[I.ok.kind];rfl
 have hiZ:i<Z.length:=by rw[I.len];exact (zbb.mp hi).1
 have cne:=I.cne;have tracked:∀ {a:Addr} {h':Heap},(∃ o,s.heap.get? a=some o/\H a=none)->Heap.SameBut a s.heap h'->HOk X.prog X.w H h':=fun {a h'} ha hs b ob e=>by
  obtain⟨_,_,hfree⟩:=ha;refine (I.hok b ob e).stay (fun c w' hc q=>(hs.2 c ?_).trans q) (fun _ q=>q) fun _ _ q=>q
  rintro rfl;rcases hc with rfl|hc
  ·rw[hfree] at e;cases e
  ·rw[hfree] at hc;cases hc
 rcases hx with hk|hk
 ·refine wpAny_storeName_local hk hn (fun h' hn' hs=>?_) hcls;obtain⟨oL,_,_,hoL,_⟩:=id hn;refine h _ ⟨I.ok,I.os,I.bare,⟨fun b o e n hb hx=>?_,fun b o e n hb hx=>?_,I.base.free,fun b o e hx=>?_,I.base.tups,I.base.frzs,I.base.tbls⟩,⟨_,hn',fun j y v' e1 e2 e3=>?_⟩,fun y c e=>?_,I.free,I.freeC,fun p hp=>?_,tracked ⟨oL,hoL,I.free⟩ hs,by simpa using I.len⟩ ⟨_,hs,.inl rfl⟩
  ·exact (hs.2 b (zcw (zcx (zbv e) I.ok.above))).trans (I.base.keep b o e n hb hx)
  ·obtain⟨sl,e1⟩:=I.base.slot b o e n hb hx;exact⟨sl,(hs.2 b (zcw (zcx (zbv e) I.ok.above))).trans e1⟩
  ·obtain⟨o',e1⟩:=I.base.there b o e hx;exact⟨o',(hs.2 b (zcw (zcx (zbv e) I.ok.above))).trans e1⟩
  ·by_cases hj:j=i
   ·subst hj;rw[hi] at e1;cases e1
    rw[zcz hiZ] at e2;cases e2;exact⟨u,r,.inl ⟨hk,by simp⟩⟩
   ·rw[zbw (Ne.symm hj)] at e2;obtain⟨u',r',q⟩:=hl j y v' e1 e2 e3;refine⟨u',r',?_⟩;rcases q with ⟨k,e⟩|⟨k,c,e,z⟩
    ·refine .inl ⟨k,?_⟩;have:y≠x:=fun e=>hj (jnu hN e1 (e ▸ hi))
     simp[this,e]
    ·exact .inr ⟨k,c,e,z.sameBut hs (cne y c e)⟩
  ·obtain⟨w',z⟩:=I.cell y c e;exact⟨w',z.sameBut hs (cne y c e)⟩
  ·obtain⟨e,n,ne,nf,d⟩:=I.pin p hp;exact⟨(hs.2 p.1 ne).trans e,n,ne,nf,d⟩
 ·have hfn:X.fn x=true:=by
   rcases hf with z|z
   ·exact z
   ·rw[z] at hk;cases hk
  obtain⟨c,hc⟩:=I.ok.has x (.inl hk);obtain⟨w',z⟩:=I.cell x c hc;refine wpAny_storeName_cell I.ok.kind hk hc z (fun h' hc' hs=>?_);obtain⟨oc,hoc,hocd⟩:=id z;refine h { s with heap:=h' } ⟨I.ok,I.os,I.bare,⟨fun b o e n hb hx=>?_,fun b o e n hb hx=>?_,I.base.free,fun b o e hx=>?_,I.base.tups,I.base.frzs,I.base.tbls⟩,⟨m,hn.sameBut hs (Ne.symm (cne x c hc)),fun j y v' e1 e2 e3=>?_⟩,fun y c' e=>?_,I.free,I.freeC,fun p hp=>?_,tracked ⟨oc,hoc,I.freeC x c hc⟩ hs,by simpa using I.len⟩ ⟨c,hs,.inr hc⟩
  ·exact (hs.2 b (zcw (zcx (zbv e) (I.ok.cab x c hfn hc)))).trans (I.base.keep b o e n hb hx)
  ·obtain⟨sl,e1⟩:=I.base.slot b o e n hb hx;exact⟨sl,(hs.2 b (zcw (zcx (zbv e) (I.ok.cab x c hfn hc)))).trans e1⟩
  ·obtain⟨o',e1⟩:=I.base.there b o e hx;exact⟨o',(hs.2 b (zcw (zcx (zbv e) (I.ok.cab x c hfn hc)))).trans e1⟩
  ·by_cases hj:j=i
   ·subst hj;rw[hi] at e1;cases e1
    rw[zcz hiZ] at e2;cases e2;exact⟨u,r,.inr ⟨.inl hk,c,hc,hc'⟩⟩
   ·rw[zbw (Ne.symm hj)] at e2;obtain⟨u',r',q⟩:=hl j y v' e1 e2 e3;refine⟨u',r',?_⟩;rcases q with q|⟨k,c',e,z'⟩
    ·exact .inl q
    ·refine .inr ⟨k,c',e,z'.sameBut hs ?_⟩;rintro rfl;exact hj (jnu hN e1 (I.ok.inj _ _ _ e hc ▸ hi))
  ·by_cases hcc:c'=c
   ·subst hcc;exact⟨_,hc'⟩
   ·obtain⟨w2,z2⟩:=I.cell y c' e;exact⟨w2,z2.sameBut hs hcc⟩
  ·obtain⟨e,n,ne,nf,d⟩:=I.pin p hp;refine⟨(hs.2 p.1 ?_).trans e,n,ne,nf,d⟩;intro q;rw[q,hoc] at e;have q':oc=p.2:=zby e;exact d w' (by rw[<- q'];exact hocd)
def ji0{M:Model}{A:Around}{E:qc}{i:Nat}{x:Str}{v:V}{u:Value}{Q:Unit->Shared->Prop}(I:Inv X U Z H s)(hN:X.N.Nodup)(hi:X.N[i]? = some x)(hx:Loc X.env.scope x)(r:RelV v u)
  (h:∀ s',Inv X U (Z.set i (some v)) H s'->Q () s') (hf:X.fn x=true\/X.env.scope.names.lookup x=some .local:=by first|exact .inl rfl|exact .inr rfl|assumption):wpAny M A (storeName X.env x u) Q E s :=
 jpv I hN hi hx r (fun s' I' _=>h s' I') hf
def Inv.call'{s':Shared}{ch:List Addr}(I:Inv X U Z H s)(ho:s'.os=s.os)(u:Un (frs X.stack) ch H H' s.heap s'.heap)(hok:HOk X.prog X.w H' s'.heap)(hg:AllBare s'.gens)
  (hch:∀ b∈ch,(b∈X.ex\/X.s₀.heap.objs.size<=b)/\b≠X.env.locals/\(∀ x c,X.env.cells.lookup x=some c->c≠b)/\∀ p∈X.pn++U,p.1≠b):Inv X U Z H' s':=by
 obtain⟨h',g',d',t',o'⟩:=s';have e:o'=s.os:=ho;subst e;exact I.call (g':=g') (t':=t') (d':=d') u hok hg hch
end
abbrev XK:=Value->Option Addr->Hp->Prop
abbrev St:=List (Option V)
abbrev VK:=V->Hp->Prop
abbrev TE:=St->Hp->VK->Prop
abbrev TT:=St->Hp->(Bool->Hp->Prop)->Prop
abbrev TA:=St->Hp->(List V->Hp->Prop)->Prop
structure Ends where
 nx:St->Hp->Prop
 rt:VK
 bk:St->Hp->Prop:=fun _ _=>False
 ct:St->Hp->Prop:=fun _ _=>False
abbrev TS:=Ends->St->Hp->Prop
inductive EP(X:Cx)(U:qb)(Z:St)(Q:VK)(u:Value)(s':Shared):Prop
 | mk (v:V) (H':Hp) (h0:Inv X U Z H' s') (h1:RelV v u) (h2:Q v H')
inductive TP(X:Cx)(U:qb)(Z:St)(Q:Bool->Hp->Prop)(b:Bool)(s':Shared):Prop
 | mk (H':Hp) (h0:Inv X U Z H' s') (h1:Q b H')
inductive AP(X:Cx)(U:qb)(Z:St)(Q:List V->Hp->Prop)(us:List Value)(s':Shared):Prop
 | mk (vs:List V) (H':Hp) (h0:Inv X U Z H' s') (h1:Vals vs us) (h2:Q vs H')
inductive SN(X:Cx)(U:qb)(Q:St->Hp->Prop)(s':Shared):Prop
 | mk (Z':St) (H':Hp) (hI:Inv X U Z' H' s') (hq:Q Z' H')
inductive SR(X:Cx)(U:qb)(R:VK)(u:Value)(s':Shared):Prop
 | mk (v:V) (Z':St) (H':Hp) (hI:Inv X U Z' H' s') (hr:RelV v u) (hq:R v H')
def SP(X:Cx)(U:qb)(D:Ends)(f:Flow)(s':Shared):Prop :=
 match f with
 | .next=>SN X U D.nx s'
 | .brk=>SN X U D.bk s'
 | .cont=>SN X U D.ct s'
 | .ret u=>SR X U D.rt u s'
def PE(X:Cx)(e:Expr)(t:TE):Prop :=
 ∀ (U:qb) (s:Shared) (Z:St) (H:Hp) (Q:VK),Inv X U Z H s->t Z H Q->wpAny (model X.prog X.w) X.A (eval e X.env) (EP X U Z Q) X.xe s
def PT(X:Cx)(e:Expr)(t:TT):Prop :=
 ∀ (U:qb) (s:Shared) (Z:St) (H:Hp) (Q:Bool->Hp->Prop),Inv X U Z H s->t Z H Q->wpAny (model X.prog X.w) X.A (isTrue e X.env (eval e X.env)) (TP X U Z Q) X.xe s
def PW(X:Cx)(e:Expr)(t:TT):Prop :=
 ∀ (whole:Sem Value) (U:qb) (s:Shared) (Z:St) (H:Hp) (Q:Bool->Hp->Prop),Inv X U Z H s->t Z H Q->wpAny (model X.prog X.w) X.A (isTrue e X.env whole) (TP X U Z Q) X.xe s
def PW.pt{X:Cx}{e:Expr}{t:TT}(h:PW X e t):PT X e t:=h _
def PA(X:Cx)(es:List Expr)(t:TA):Prop :=
 ∀ (pos:Pos) (U:qb) (s:Shared) (Z:St) (H:Hp) (Q:List V->Hp->Prop),Inv X U Z H s->t Z H Q->wpAny (model X.prog X.w) X.A (spliced (backTo pos (starEach es X.env))) (AP X U Z Q) X.xe s
def PS(X:Cx)(st:Stmt)(t:TS):Prop :=
 ∀ (U:qb) (s:Shared) (Z:St) (H:Hp) (D:Ends),Inv X U Z H s->t D Z H->wpAny (model X.prog X.w) X.A (exec st X.env) (SP X U D) X.xe s
def PSs(X:Cx)(st:List Stmt)(t:TS):Prop :=
 ∀ (U:qb) (s:Shared) (Z:St) (H:Hp) (D:Ends),Inv X U Z H s->t D Z H->wpAny (model X.prog X.w) X.A (execs st X.env) (SP X U D) X.xe s
def thn{α:Type}{t:Sem α}{Q Q':α->Shared->Prop}{M:Model}{A:Around}{E:qc}{s:Shared}(h:wpAny M A t Q E s)(hQ:∀ a s,Q a s->Q' a s):wpAny M A t Q' E s:=wpAny_mono h hQ fun _ _ x=>x
section
variable {X:Cx}
def bin{a b:Expr}{ta tb:TE}(ha:PE X a ta)(hb:PE X b tb){U:qb}{s:Shared}{Z:St}{H:Hp}{R:V->V->Hp->Prop}(I:Inv X U Z H s)(h:ta Z H fun x H1=>tb Z H1 fun y H2=>R x y H2)
  {α:Type} {Q:α->Shared->Prop} {f:Value->Value->Sem α}
  (hf:∀ v u s2 x y H2,Inv X U Z H2 s2->RelV x v->RelV y u->R x y H2->wpAny (model X.prog X.w) X.A (f v u) Q X.xe s2) :
  wpAny (model X.prog X.w) X.A (eval a X.env) (fun v s₁=>wpAny (model X.prog X.w) X.A (eval b X.env) (fun u s₂=>wpAny (model X.prog X.w) X.A (f v u) Q X.xe s₂) X.xe s₁) X.xe s:=by
 refine thn (ha U s Z H _ I h) fun v s1 hzz=>?_
 obtain⟨x,H1,I1,r1,q1⟩:=hzz;refine thn (hb U s1 Z H1 _ I1 q1) fun u s2 hzz=>?_
 obtain⟨y,H2,I2,r2,q2⟩:=hzz;exact hf v u s2 x y H2 I2 r1 r2 q2
def tVar(i:Nat):TE:=fun Z H Q=>∃ v,Z[i]? = some (some v)/\Q v H
def tC(v:V):TE:=fun _ H Q=>Q v H
def jmm{i:Nat}{x:Str}{pos:Pos}(hN:X.N[i]? = some x)(hv:Vis X.env.scope x)(hd:(x == ("__debug__":Str))=false:=by decide)(hcd:(x == ("__classdict__":Str))=false:=by decide):PE X (.Name x pos) (tVar i):=by
 intro U s Z H Q I h;obtain⟨v,e,h⟩:=h;obtain⟨m,hn,hl⟩:=I.loc;obtain⟨u,r,l⟩:=hl i x v hN e hv;have fin:EP X U Z Q u s:=⟨v,H,I,r,h⟩
 rcases l with ⟨hk,hm⟩|⟨hk,c,hc,hcell⟩
 ·exact wpAny_Name (wpAny_loadName_local I.ok.kind hk hn hm fin) hd
 ·rcases hk with hk|hk
  ·exact wpAny_Name (wpAny_loadName_cell I.ok.kind hk hc hcell fin) hd
  ·exact wpAny_Name (wpAny_loadName_free I.ok.kind hk hc hcell fin hcd) hd
def jGz{i j pos}:PE X (.Constant (.int i) j pos) (tC (.int i)):=fun _ _ _ H _ I h=>wpAny_Constant_int ⟨.int i,H,I.tok _,⟨_,rfl⟩,h⟩
def jJp{b j pos}:PE X (.Constant (.bool b) j pos) (tC (.bl b)):=fun _ _ _ H _ I h=>Constant_bool ⟨.bl b,H,I,rfl,h⟩
def jG1{j pos}:PE X (.Constant .none j pos) (tC .non):=fun _ _ _ H _ I h=>Constant_none ⟨.non,H,I,rfl,h⟩
def jG4{x j pos}:PE X (.Constant (.str x) j pos) (tC (.str x)):=fun _ _ _ H _ I h=>Calls.Constant_str ⟨.str x,H,I.tok _,⟨_,rfl⟩,h⟩
def Gl(X:Cx)(x:Str):Prop:=X.env.kindOf x=some .globalImplicit
def jjc{E:qc}{U:qb}{s:Shared}{Z:St}{H:Hp}{x:Str}{u:Value}{pos:Pos}{Q:qc}(I:Inv X U Z H s)(hg:Gl X x)(hm:X.mg x=some u)(h:Q u s)
  (hd:(x == ("__debug__":Str))=false:=by decide):wpAny (model X.prog X.w) X.A (eval (.Name x pos) X.env) Q E s :=
 Calls.Name_function_global I.ok.kind hg (Calls.loadGlobal_global (by rw[I.ok.glob];exact I.mod.glob.keeps I.bk) hm h) hd
def jmg{E:qc}{U:qb}{s:Shared}{Z:St}{H:Hp}{x:Str}{u:Value}{pos:Pos}{Q:qc}(I:Inv X U Z H s)(hg:Gl X x)(hm:X.mg x=none)(hv:bootBuiltins x=some u)(h:Q u s)
  (hn:x≠"__name__":=by decide) (hd:(x == ("__debug__":Str))=false:=by decide):wpAny (model X.prog X.w) X.A (eval (.Name x pos) X.env) Q E s:=by
 obtain⟨mb,h1,h2⟩:=I.mod.blt;exact Calls.Name_function_global I.ok.kind hg (Calls.loadGlobal_builtin (by rw[I.ok.glob];exact I.mod.glob.keeps I.bk) hm (by rw[I.ok.blt];exact h1.keeps I.bk) ((h2 x hn).trans hv) h) hd
def jnz{x:Str}{v:V}{u:Value}{pos:Pos}(hg:Gl X x)(hm:X.mg x=some u)(r:RelV v u)(hd:(x == ("__debug__":Str))=false:=by decide):PE X (.Name x pos) (tC v) :=
 fun _ _ _ H _ I h=>jjc I hg hm ⟨v,H,I,r,h⟩ hd
def jwf{x:Str}{v:V}{u:Value}{pos:Pos}(hg:Gl X x)(hm:X.mg x=none)(hv:bootBuiltins x=some u)(r:RelV v u)(hn:x≠"__name__":=by decide)(hd:(x == ("__debug__":Str))=false:=by decide):PE X (.Name x pos) (tC v) :=
 fun _ _ _ H _ I h=>jmg I hg hm hv ⟨v,H,I,r,h⟩ hn hd
variable {a b:Expr}{ta tb:TE}{pos:Pos}
def tB(t:TE):TT:=fun Z H Q=>t Z H fun x H1=>∃ c,x=.bl c/\Q c H1
variable {tA tB':TT}{rest:List Expr}
def tAnd(t u:TT):TT:=fun Z H Q=>t Z H fun c H1=>if c=true then u Z H1 Q else Q false H1
def tOr(t u:TT):TT:=fun Z H Q=>t Z H fun c H1=>if c=true then Q true H1 else u Z H1 Q
def tNot(t:TT):TT:=fun Z H Q=>t Z H fun c H1=>Q (!c) H1
def jDz(ha:PT X a tA):PW X (.BoolOp .And [a] pos) tA:=by
 intro wh U s Z H Q I h;refine isTrue_and (thn (ha U s Z H Q I h) fun c s1 e=>?_)
 cases c with
 | true=>exact isTrue_and_nil e
 | false=>exact e
def jA3(ha:PT X a tA):PW X (.BoolOp .Or [a] pos) tA:=by
 intro wh U s Z H Q I h;refine isTrue_or (thn (ha U s Z H Q I h) fun c s1 e=>?_)
 cases c with
 | false=>exact isTrue_or_nil e
 | true=>exact e
def jHb(ha:PT X a tA)(hb:PW X (.BoolOp .And (b::rest) pos) tB'):PW X (.BoolOp .And (a::b::rest) pos) (tAnd tA tB'):=by
 intro wh U s Z H Q I h;refine isTrue_and (thn (ha U s Z H _ I h) fun c s1 hzz=>?_);obtain⟨H1,I1,q1⟩:=hzz
 cases c with
 | true=>exact hb wh U s1 Z H1 Q I1 q1
 | false=>exact⟨H1,I1,q1⟩
def jHc(ha:PT X a tA)(hb:PW X (.BoolOp .Or (b::rest) pos) tB'):PW X (.BoolOp .Or (a::b::rest) pos) (tOr tA tB'):=by
 intro wh U s Z H Q I h;refine isTrue_or (thn (ha U s Z H _ I h) fun c s1 hzz=>?_);obtain⟨H1,I1,q1⟩:=hzz
 cases c with
 | true=>exact⟨H1,I1,q1⟩
 | false=>exact hb wh U s1 Z H1 Q I1 q1
def jA2(ha:PT X a tA):PT X (.UnaryOp .Not a pos) (tNot tA):=by
 intro U s Z H Q I h;exact isTrue_not (thn (ha U s Z H (fun c H1=>Q (!c) H1) I h) fun c s1 z=>z.casesOn fun H1 I1 q1=>⟨H1,I1,q1⟩)
def jJ1(ta tb:TE):TE:=fun Z H Q=>ta Z H fun x H1=>∃ c,x=.bl c/\if c=true then tb Z H1 Q else Q (.bl false) H1
def tOrV(ta tb:TE):TE:=fun Z H Q=>ta Z H fun x H1=>∃ c,x=.bl c/\if c=true then Q (.bl true) H1 else tb Z H1 Q
def jJ6(ta:TE):TE:=fun Z H Q=>ta Z H fun x H1=>∃ c,x=.bl c/\Q (.bl (!c)) H1
def jAy{op}{t:TE}(h:PE X a t):PE X (.BoolOp op [a] pos) t:=fun U s Z H Q I hw=>BoolOp_one (h U s Z H Q I hw)
def jAx(ha:PE X a ta)(hb:PE X (.BoolOp .And (b::rest) pos) tb):PE X (.BoolOp .And (a::b::rest) pos) (jJ1 ta tb):=by
 intro U s Z H Q I h;refine BoolOp_and (thn (ha U s Z H _ I h) fun v s1 hzz=>?_);obtain⟨x,H1,I1,r1,q1⟩:=hzz;obtain⟨c,rfl,q1⟩:=q1;cases r1;refine wpAny_truthy_bool ?_
 cases c with
 | true=>exact hb U s1 Z H1 Q I1 q1
 | false=>exact⟨.bl false,H1,I1,rfl,q1⟩
def jJq(ha:PE X a ta)(hb:PE X (.BoolOp .Or (b::rest) pos) tb):PE X (.BoolOp .Or (a::b::rest) pos) (tOrV ta tb):=by
 intro U s Z H Q I h;refine BoolOp_or (thn (ha U s Z H _ I h) fun v s1 hzz=>?_);obtain⟨x,H1,I1,r1,q1⟩:=hzz;obtain⟨c,rfl,q1⟩:=q1;cases r1;refine wpAny_truthy_bool ?_
 cases c with
 | false=>exact hb U s1 Z H1 Q I1 q1
 | true=>exact⟨.bl true,H1,I1,rfl,q1⟩
def jG2(ha:PE X a ta):PE X (.UnaryOp .Not a pos) (jJ6 ta):=by
 intro U s Z H Q I h;refine UnaryOp_ (thn (ha U s Z H _ I h) fun v s1 hzz=>?_);obtain⟨x,H1,I1,r1,q1⟩:=hzz;obtain⟨c,rfl,q1⟩:=q1;cases r1;exact not_of (wpAny_truthy_bool ⟨.bl (!c),H1,I1,rfl,q1⟩)
def tIf(t:TT)(ta tb:TE):TE:=fun Z H Q=>t Z H fun c H1=>if c=true then ta Z H1 Q else tb Z H1 Q
def jy2{c:Expr}(hc:PT X c tA)(ha:PE X a ta)(hb:PE X b tb):PE X (.IfExp c a b pos) (tIf tA ta tb):=by
 intro U s Z H Q I h;refine wpAny_IfExp (thn (hc U s Z H _ I h) fun d s1 hzz=>?_);obtain⟨H1,I1,q1⟩:=hzz
 cases d with
 | true=>exact ha U s1 Z H1 Q I1 q1
 | false=>exact hb U s1 Z H1 Q I1 q1
end
def SqL(K:W.Frag)(H:Hp)(a:Addr)(xs:List V):Prop :=
 Rd H a (.lst xs) \/
  ∃ (o:Obj) (its:Array Value) (n:Nat),K.lookup a=some o/\o.cls=.type "list"/\o.dict=none/\o.data=.seq its n/\its.size<=sizeLine/\Vals xs its.toList
def SqT(K:W.Frag)(H:Hp)(a:Addr)(xs:List V):Prop :=
 Rd H a (.tup xs) \/
  ∃ (o:Obj) (its:Array Value) (n:Nat),K.lookup a=some o/\o.cls=.type "tuple"/\o.data=.seq its n/\its.size<=sizeLine/\Vals xs its.toList
def absV:Value->Option V
 | .none=>some .non
 | .bool b=>some (.bl b)
 | .int i _=>some (.int i)
 | .str x _=>some (.str x)
 | .ref a=>some (.ref a)
 | .type n=>some (.ty n)
 | _=>none
def RelV.abs{x:V}{u:Value}(r:RelV x u):absV u=some x:=by
 cases x with
 | non=>cases r;rfl
 | bl _=>cases r;rfl
 | int _=>obtain⟨t,rfl⟩:=r;rfl
 | str _=>obtain⟨t,rfl⟩:=r;rfl
 | ref _=>cases r;rfl
 | ty _=>cases r;rfl
def RelV.inj{x y:V}{u:Value}(r:RelV x u)(q:RelV y u):x=y:=zby (r.abs.symm.trans q.abs)
theorem Vals.inj:∀ {xs ys:List V} {us:List Value},Vals xs us->Vals ys us->xs=ys
 | _,_,_,.nil,.nil=>rfl
 | _,_,_,.cons r t,.cons r' t'=>by rw[r.inj r',Vals.inj t t']
section
variable {X:Cx}{U:qb}{Z:St}{H:Hp}{s:Shared}{a:Addr}{xs ys:List V}
def SqL.of{K:W.Frag}(h:H a=some (.lst xs)):SqL K H a xs:=.inl (.inl h)
def SqT.of{K:W.Frag}(h:H a=some (.tup xs)):SqT K H a xs:=.inl (.inl h)
def Inv.list(I:Inv X U Z H s)(h:SqL X.K H a xs):∃ its:List Value,Vals xs its/\PlainL s.heap a its.toArray/\xs.length<=sizeLine:=by
 rcases h with h|⟨o,its,n,hk,hc,hd,hs,hz,r⟩
 ·obtain⟨z,its,n,r,e⟩:=h.ok I.hok;exact⟨its,r,⟨_,n,e,rfl,rfl,rfl⟩,z⟩
 ·refine⟨its.toList,r,⟨o,n,I.kIn a o hk,hc,hd,by simpa using hs⟩,?_⟩;have e:=r.length;simp only[Array.length_toList] at e;omega
def Inv.tuple(I:Inv X U Z H s)(h:SqT X.K H a xs):∃ its:List Value,Vals xs its/\IsTup s.heap a its.toArray/\xs.length<=sizeLine:=by
 rcases h with h|⟨o,its,n,hk,hc,hs,hz,r⟩
 ·obtain⟨z,its,r,p⟩:=h.ok I.hok;exact⟨its,r,p,z⟩
 ·refine⟨its.toList,r,⟨o,I.kIn a o hk,hc,n,by simpa using hs⟩,?_⟩;have e:=r.length;simp only[Array.length_toList] at e;omega
def Inv.list_inj(I:Inv X U Z H s)(h:SqL X.K H a xs)(h':SqL X.K H a ys):xs=ys:=by
 obtain⟨its,r,⟨o,n,e,_,_,d⟩,_⟩:=I.list h;obtain⟨its',r',⟨o',n',e',_,_,d'⟩,_⟩:=I.list h';rw[e] at e';cases e'
 rw[d] at d';injection d' with d1 _
 have:its=its':=by simpa using congrArg Array.toList d1
 subst this;exact r.inj r'
def Inv.tuple_inj(I:Inv X U Z H s)(h:SqT X.K H a xs)(h':SqT X.K H a ys):xs=ys:=by
 obtain⟨its,r,⟨o,e,_,n,d⟩,_⟩:=I.tuple h;obtain⟨its',r',⟨o',e',_,n',d'⟩,_⟩:=I.tuple h';rw[e] at e';cases e'
 rw[d] at d';injection d' with d1 _
 have:its=its':=by simpa using congrArg Array.toList d1
 subst this;exact r.inj r'
end
abbrev Cx.wish(X:Cx)(E:qc):Cx:={ X with xe:=E }
abbrev Cx.nox(X:Cx):Cx:=X.wish fun _ _=>False
def Cx.Ok.wish{X:Cx}(ok:X.Ok)(E:qc):(X.wish E).Ok :=
 ⟨ok.mod,ok.kind,ok.glob,ok.blt,ok.above,ok.inj,ok.has,ok.cab,ok.hd,ok.frames,ok.stk,ok.exf,ok.bs,ok.bsz,ok.noex,ok.exfs,ok.funs,ok.frf⟩
def Cx.Ok.unwish{X:Cx}{E:qc}(ok:(X.wish E).Ok):X.Ok :=
 ⟨ok.mod,ok.kind,ok.glob,ok.blt,ok.above,ok.inj,ok.has,ok.cab,ok.hd,ok.frames,ok.stk,ok.exf,ok.bs,ok.bsz,ok.noex,ok.exfs,ok.funs,ok.frf⟩
section
variable {X:Cx}{U:qb}{Z:St}{H:Hp}{s:Shared}{E:qc}
def Inv.wish(I:Inv X U Z H s)(E:qc):Inv (X.wish E) U Z H s:=⟨I.ok.wish E,I.os,I.bare,I.base,I.loc,I.cell,I.free,I.freeC,I.pin,I.hok,I.len⟩
def Inv.unwish(I:Inv (X.wish E) U Z H s):Inv X U Z H s:=⟨I.ok.unwish,I.os,I.bare,I.base,I.loc,I.cell,I.free,I.freeC,I.pin,I.hok,I.len⟩
theorem SP.unwish{D:Ends}{f:Flow}{s':Shared}(h:SP (X.wish E) U D f s'):SP X U D f s':=by
 cases f with
 | next=>obtain⟨Z',H',I,q⟩:=h;exact⟨Z',H',I.unwish,q⟩
 | brk=>obtain⟨Z',H',I,q⟩:=h;exact⟨Z',H',I.unwish,q⟩
 | cont=>obtain⟨Z',H',I,q⟩:=h;exact⟨Z',H',I.unwish,q⟩
 | ret u=>obtain⟨v,Z',H',I,r,q⟩:=h;exact⟨v,Z',H',I.unwish,r,q⟩
def PSs.nox{st:List Stmt}{t:TS}(h:PSs X.nox st t):PSs X st t:=fun U s Z H D I hw =>
 wpAny_mono (h U s Z H D (I.wish _) hw) (fun _ _ q=>q.unwish) fun _ _ z=>False.elim z
end
section
variable {X:Cx}{st:Stmt}{rest:List Stmt}{t u:TS}{e:Expr}{te:TE}{pos:Pos}
def jJ5:TS:=fun D Z H=>D.nx Z H
def tSeq(t u:TS):TS:=fun D Z H=>t { D with nx:=u D } Z H
def jwo:PSs X [] jJ5:=fun _ _ Z H _ I h=>wpAny_execs_nil ⟨Z,H,I,h⟩
def jn1(h1:PS X st t)(h2:PSs X rest u):PSs X (st::rest) (tSeq t u):=by
 intro U s Z H D I h;refine wpAny_execs_cons (thn (h1 U s Z H { D with nx:=u D } I h) fun f s1 q=>?_)
 cases f with
 | next =>
  obtain⟨Z',H',I',q⟩:=q;exact h2 U s1 Z' H' D I' q
 | ret v=>exact q
 | brk=>exact q
 | cont=>exact q
def jn2(h1:PS X st t):PSs X [st] t:=by
 intro U s Z H D I h;refine wpAny_execs_cons (thn (h1 U s Z H D I h) fun f s1 q=>?_)
 cases f with
 | next=>exact wpAny_execs_nil q
 | ret v=>exact q
 | brk=>exact q
 | cont=>exact q
def Inv.quiet{U:qb}{Z:St}{H:Hp}{s:Shared}(I:Inv X U Z H s):interactive X.env=false:=by simp[interactive,I.ok.kind]
def jJ3(te:TE):TS:=fun D Z H=>te Z H fun _ H1=>D.nx Z H1
def jqn(he:PE X e te)(hs:swapsWith e none pos.line X.env=pure false:=by rfl):PS X (.Expr e pos) (jJ3 te):=by
 intro U s Z H D I h;exact wpAny_Expr_any (thn (he U s Z H _ I h) fun v s1 ⟨x,H1,I1,r1,q1⟩=>⟨Z,H1,I1,q1⟩) I.quiet hs
def tRet(te:TE):TS:=fun D Z H=>te Z H D.rt
def jA1(he:PE X e te):PS X (.Return (some e) pos) (tRet te):=by
 intro U s Z H D I h;exact wpAny_Return_some (thn (he U s Z H _ I h) fun v s1 ⟨x,H1,I1,r1,q1⟩=>⟨x,Z,H1,I1,r1,q1⟩)
def tIfS(c:TT)(t u:TS):TS:=fun D Z H=>c Z H fun b H1=>if b=true then t D Z H1 else u D Z H1
def jDu{c:Expr}{a b:List Stmt}{tc:TT}(hc:PT X c tc)(ha:PSs X a t)(hb:PSs X b u):PS X (.If c a b pos) (tIfS tc t u):=by
 intro U s Z H D I h;refine wpAny_If (thn (hc U s Z H _ I h) fun d s1 hzz=>?_);obtain⟨H1,I1,q1⟩:=hzz
 cases d with
 | true=>exact ha U s1 Z H1 D I1 q1
 | false=>exact hb U s1 Z H1 D I1 q1
end
abbrev TG:=V->St->Hp->(St->Hp->Prop)->Prop
abbrev TGs:=List V->St->Hp->(St->Hp->Prop)->Prop
def PG(X:Cx)(target:Expr)(t:TG):Prop :=
 ∀ (U:qb) (s:Shared) (Z:St) (H:Hp) (v:V) (u:Value) (Q:St->Hp->Prop),Inv X U Z H s->RelV v u->t v Z H Q ->
  wpAny (model X.prog X.w) X.A (assign target X.env u) (fun _ s'=>SN X U Q s') X.xe s
def PGs(X:Cx)(ts:List Expr)(t:TGs):Prop :=
 ∀ (U:qb) (s:Shared) (Z:St) (H:Hp) (vs:List V) (us:List Value) (Q:St->Hp->Prop),Inv X U Z H s->Vals vs us->t vs Z H Q ->
  wpAny (model X.prog X.w) X.A (assignInOrder ((assignEach ts X.env).map (·.2)) us) (fun _ s'=>SN X U Q s') X.xe s
abbrev TSet:=V->V->V->Hp->(Hp->Prop)->Prop
abbrev TIp:=V->V->Hp->VK->Prop
def PIp(X:Cx)(op:Operator)(t:TIp):Prop :=
 ∀ (U:qb) (s:Shared) (Z:St) (H:Hp) (x y:V) (v u:Value) (Q:VK),Inv X U Z H s->RelV x v->RelV y u->t x y H Q ->
  wpAny (model X.prog X.w) X.A (inplaceOp op v u) (EP X U Z Q) X.xe s
section
variable {X:Cx}{pos:Pos}
def gName(i:Nat):TG:=fun v Z H Q=>Q (Z.set i (some v)) H
def jjf{i:Nat}{x:Str}(hN:X.N.Nodup)(hi:X.N[i]? = some x)(hx:Loc X.env.scope x)(hf:X.fn x=true\/X.env.scope.names.lookup x=some .local:=by first|exact .inl rfl|exact .inr rfl|assumption):PG X (.Name x pos) (gName i):=by
 intro U s Z H v u Q I r h;exact wpAny_assign_Name (ji0 I hN hi hx r (fun s' I'=>⟨_,H,I',h⟩) hf)
def gNil:TGs:=fun vs Z H Q=>vs=[]/\Q Z H
def jI3(t:TG)(u:TGs):TGs:=fun vs Z H Q=>∃ v r,vs=v::r/\t v Z H fun Z' H'=>u r Z' H' Q
def jwi:PGs X [] gNil:=by
 intro U s Z H vs us Q I r h;obtain⟨e,h⟩:=h;subst e;cases r;exact assignInOrder_nil ⟨Z,H,I,h⟩
def jiv{e:Expr}{es:List Expr}{t:TG}{u:TGs}(h1:PG X e t)(h2:PGs X es u)
  (hs:(assignEach (e::es) X.env).map (·.2)=assign e X.env::(assignEach es X.env).map (·.2):=by rfl):PGs X (e::es) (jI3 t u):=by
 intro U s Z H vs us Q I r h;obtain⟨v,vr,e1,h⟩:=h;subst e1
 cases r with
 | cons r rr =>
  rw[hs];refine assignInOrder_cons (thn (h1 U s Z H _ _ _ I r h) fun _ s1 hzz=>?_);obtain⟨Z1,H1,I1,q1⟩:=hzz;exact h2 U s1 Z1 H1 _ _ Q I1 rr q1
def gTup(K:W.Frag)(n:Nat)(t:TGs):TG:=fun v Z H Q=>∃ a xs,v=.ref a/\SqT K H a xs/\xs.length=n/\t xs Z H Q
def jA0{es:List Expr}{k:Nat}{t:TGs}{n:Nat}(hc:X.calm=true)(h:PGs X es t)
  (hn:(assignEach es X.env).length=n:=by rfl) (hst:(assignEach es X.env).findIdx? (·.1)=none:=by rfl):PG X (.Tuple es k pos) (gTup X.K n t):=by
 intro U s Z H v u Q I r hw;obtain⟨a,xs,e1,hq,hl,hw⟩:=hw;subst e1;cases r;obtain⟨its,rv,ht,hz⟩:=I.tuple hq;refine assign_Tuple_tuple (I.ok.hd hc) ht (by simp[hn,<- hl,rv.length]) hst fun h' hx=>?_
 have I1:Inv X U Z H { s with heap:=h' }:=I.kept (t':=s.toks) fun b o e=>hx b o (zcw (zbv e)) e
 exact h U _ Z H xs _ Q I1 (by simpa using rv) hw
def gSub(to ti:TE)(t:TSet):TG:=fun v Z H Q=>to Z H fun o H1=>ti Z H1 fun i H2=>t o i v H2 fun H3=>Q Z H3
def tAsg(te:TE)(g:TG):TS:=fun D Z H=>te Z H fun x H1=>g x Z H1 D.nx
def jG7{tg e:Expr}{te:TE}{g:TG}(he:PE X e te)(hg:PG X tg g)(hs:swapsWithSole [tg] e pos.line X.env=pure false:=by rfl)(hw:swappedStores [tg] e X.env=pure none:=by rfl)
  (h1:(assignEach [tg] X.env).map (·.2)=[assign tg X.env]:=by rfl):PS X (.Assign [tg] e pos) (tAsg te g):=by
 intro U s Z H D I h;refine wpAny_Assign_stores (thn (he U s Z H _ I h) fun v s1 hzz=>?_) hs hw;obtain⟨x,H1,I1,r1,q1⟩:=hzz;rw[h1];exact thn (hg U s1 Z H1 x v _ I1 r1 q1) fun _ s2 q=>q
def jpg{i:Nat}{x:Str}{e:Expr}{te:TE}{pos':Pos}(hN:X.N.Nodup)(hi:X.N[i]? = some x)(hx:Loc X.env.scope x)(he:PE X e te)(hs:swapsWith e (some (.Name x pos')) pos.line X.env=pure false:=by rfl)(hf:X.fn x=true\/X.env.scope.names.lookup x=some .local:=by first|exact .inl rfl|exact .inr rfl|assumption) :
  PS X (.Assign [.Name x pos'] e pos) (tAsg te (gName i)):=by
 intro U s Z H D I h;refine wpAny_Assign_Name (thn (he U s Z H _ I h) fun v s1 hzz=>?_) hs;obtain⟨y,H1,I1,r1,q1⟩:=hzz;exact ji0 I1 hN hi hx r1 (fun s2 I2=>⟨_,H1,I2,q1⟩) hf
def tAug(i:Nat)(te:TE)(ti:TIp):TS:=fun D Z H=>∃ x,Z[i]? = some (some x)/\te Z H fun y H1=>ti x y H1 fun z H2=>D.nx (Z.set i (some z)) H2
def jG8{i:Nat}{x:Str}{e:Expr}{te:TE}{op:Operator}{ti:TIp}{pos':Pos}(hN:X.N.Nodup)(hi:X.N[i]? = some x)(hx:Loc X.env.scope x)(he:PE X e te)(ho:PIp X op ti)(hf:X.fn x=true\/X.env.scope.names.lookup x=some .local:=by first|exact .inl rfl|exact .inr rfl|assumption) :
  PS X (.AugAssign (.Name x pos') op e pos) (tAug i te ti):=by
 intro U s Z H D I h;obtain⟨v,e1,h⟩:=h;obtain⟨m,hn,hl⟩:=I.loc;have vis:Vis X.env.scope x:=by rcases hx with k|k;exact .inl k;exact .inr (.inl k)
 obtain⟨u,r,l⟩:=hl i x v hi e1 vis;refine wpAny_AugAssign_Name ?_;have go:wpAny (model X.prog X.w) X.A (eval e X.env) (fun w s₂=>wpAny (model X.prog X.w) X.A (inplaceOp op u w) (fun r s₃=>wpAny (model X.prog X.w) X.A (storeName X.env x r) (fun _=>SP X U D .next) X.xe s₃) X.xe s₂) X.xe s:=by
  refine thn (he U s Z H _ I h) fun w s1 hzz=>?_
  obtain⟨y,H1,I1,r1,q1⟩:=hzz;refine thn (ho U s1 Z H1 v y u w _ I1 r r1 q1) fun z s2 hzz=>?_
  obtain⟨zv,H2,I2,r2,q2⟩:=hzz;exact ji0 I2 hN hi hx r2 (fun s3 I3=>⟨_,H2,I3,q2⟩) hf
 rcases l with ⟨hk,hm⟩|⟨hk,c,hc,hcell⟩
 ·exact wpAny_loadName_local I.ok.kind hk hn hm go
 ·rcases hk with hk|hk
  ·exact wpAny_loadName_cell I.ok.kind hk hc hcell go
  ·rcases hx with k|k
   ·have:X.env.scope.names.lookup x=some .free:=hk;rw[k] at this;cases this
   ·have:X.env.scope.names.lookup x=some .free:=hk;rw[k] at this;cases this
end
section
variable {X:Cx}{pos:Pos}
def jH3(c:TT)(tb:TS):TS:=fun D Z H=>∃ W:Nat->St->Hp->Prop,(∃ m,W m Z H)/\∀ m Z H,W m Z H ->
 c Z H fun b H1=>if b=true then ∃ N:St->Hp->Prop,(∀ Z' H',N Z' H'->∃ m',m'<m/\W m' Z' H')/\tb { D with nx:=N,ct:=N,bk:=D.nx } Z H1 else D.nx Z H1
def jzd{c:Expr}{body:List Stmt}{tc:TT}{tb:TS}(hp:PassesOwn (model X.prog X.w) X.A X.env X.xe)(hc:PT X c tc)(hb:PSs X body tb):PS X (.While c body [] pos) (jH3 tc tb):=by
 intro U s Z H D I h;obtain⟨W,⟨m0,w0⟩,turn⟩:=h;refine wpAny_While (codeAny_whileLoop (fun n s'=>∃ Z' H',Inv X U Z' H' s'/\W n Z' H') ?_ m0 ⟨Z,H,I,w0⟩);rintro n s1 ⟨Z1,H1,I1,w1⟩;refine wpAny_passesOwn hp (thn (hc U s1 Z1 H1 _ I1 (turn n Z1 H1 w1)) fun b s2 hzz=>?_);obtain⟨H2,I2,q2⟩:=hzz
 cases b with
 | true =>
  obtain⟨N,hN,q2⟩:=q2;rw[if_pos rfl];refine wpAny_passesOwn hp (thn (hb U s2 Z1 H2 _ I2 q2) fun f s3 q3=>?_)
  cases f with
  | next =>
   obtain⟨Z3,H3,I3,n3⟩:=q3;obtain⟨m',hm,w3⟩:=hN Z3 H3 n3;exact⟨m',hm,Z3,H3,I3,w3⟩
  | cont =>
   obtain⟨Z3,H3,I3,n3⟩:=q3;obtain⟨m',hm,w3⟩:=hN Z3 H3 n3;exact⟨m',hm,Z3,H3,I3,w3⟩
  | brk=>exact q3
  | ret v=>exact q3
 | false =>
  rw[if_neg Bool.false_ne_true];exact wpAny_execs_nil ⟨Z1,H2,I2,q2⟩
end
structure It where
 go:Nat->Hp->Prop
 yld:Nat->Hp->V->Hp->Prop
 stop:Nat->Hp->Prop
def FpOk(X:Cx)(U:qb)(H:Hp)(b:Addr):Prop :=
 H b=none/\b≠X.env.locals/\b∉X.fs/\(b∈X.ex\/X.s₀.heap.objs.size<=b)/\(∀ x c,X.env.cells.lookup x=some c->c≠b)/\∀ p∈X.pn++U,p.1≠b
def Inv.fpOk{X:Cx}{U:qb}{Z:St}{H H':Hp}{s:Shared}{b:Addr}(I:Inv X U Z H s)(hb:s.heap.objs.size<=b)(hn:H' b=none):FpOk X U H' b:=by
 refine⟨hn,Nat.ne_of_gt (zcx I.lt hb),I.nofs hb,.inr (zdy I.sz hb),fun x c e z=>?_,fun p hp z=>?_⟩
 ·obtain⟨v,q⟩:=I.cell x c e;exact absurd (zcx q.lt (by rw[z];exact hb)) (Nat.lt_irrefl _)
 ·exact absurd (zcx (zbv (I.pin p hp).1) (by rw[z];exact hb)) (Nat.lt_irrefl _)
inductive TIt(X:Cx)(U:qb)(Z:St)(Jq:It)(fp:List Addr)(tn:Nat->Heap->Prop)(i:Nat)(H:Hp)(u:Value)(s2:Shared):Prop
 | mk (x:V) (H':Hp) (h1:Inv X U Z H' s2) (h2:RelV x u) (h3:Jq.yld i H x H') (h4:tn (i+1) s2.heap) (h5:∀ b∈fp,H' b=none)
structure Turn(P:Program)(w:World)(K:W.Frag)(tg:Expr)(Jq:It)(fp:List Addr)(it:Addr)(tn:Nat->Heap->Prop):Prop where
 mem:it∈fp
 obj:∀ i h,tn i h->∀ b∈fp,∃ o,h.get? b=some o/\∀ v,o.data≠.cell v
 keep:∀ i h h',tn i h->(∀ b∈fp,∀ o,h.get? b=some o->h'.get? b=some o)->tn i h'
 item:∀ (X:Cx),X.prog=P->X.w=w->X.K=K->X.calm=true->∀ (i:Nat) (U:qb) (s:Shared) (Z:St) (H:Hp) (E:qc),Inv X U Z H s->(∀ b∈fp,FpOk X U H b)->tn i s.heap->Jq.go i H ->
  wpAny (model P w) X.A (pyNext (.ref it)) (fun r s1=>∃ u,r=some u /\
   wpAny (model P w) X.A (letOwnedTupleGo tg (.ref it) u) (fun _ s2=>TIt X U Z Jq fp tn i H u s2) E s1) E s
 done:∀ (X:Cx),X.prog=P->X.w=w->X.K=K->X.calm=true->∀ (i:Nat) (U:qb) (s:Shared) (Z:St) (H:Hp) (E:qc),Inv X U Z H s->(∀ b∈fp,FpOk X U H b)->tn i s.heap->Jq.stop i H ->
  wpAny (model P w) X.A (pyNext (.ref it)) (fun r s1=>r=none/\Inv X U Z H s1) E s
 self:∀ (A:Around) (i:Nat) (s:Shared) (Q:qc) (E:qc),tn i s.heap->Q (.ref it) s->wpAny (model P w) A (pyIter (.ref it)) Q E s
abbrev TI:=St->Hp->(It->Hp->Prop)->Prop
inductive PIE(X:Cx)(U:qb)(Z:St)(tg:Expr)(R:It->Hp->Prop)(itv:Value)(s2:Shared):Prop
 | mk (it:Addr) (fp:List Addr) (tn:Nat->Heap->Prop) (Jq:It) (H':Hp) (h1:itv=.ref it) (h2:Inv X U Z H' s2) (h3:Turn X.prog X.w X.K tg Jq fp it tn) (h4:tn 0 s2.heap) (h5:∀ b∈fp,FpOk X U H' b) (h6:R Jq H')
def PI(X:Cx)(tg iter:Expr)(wi:TI):Prop :=
 ∀ (U:qb) (s:Shared) (Z:St) (H:Hp) (R:It->Hp->Prop),Inv X U Z H s->wi Z H R ->
  wpAny (model X.prog X.w) X.A (eval iter X.env) (fun v s1=>wpAny (model X.prog X.w) X.A (pyIter v) (PIE X U Z tg R) X.xe s1) X.xe s
def jCt{M:Model}{A:Around}{E:qc}{s:Shared}{tg:Expr}{it:Addr}{u:Value}{o:Obj}{n:String}{vs:Array Value}{Q:Unit->Shared->Prop}(ho:s.heap.get? it=some o)(hc:o.cls=.type n)(hd:o.data=.fields vs)
    (hn:["enumerate","zip","dict_itemiterator","dict_reverseitemiterator","odict_iterator","itertools.zip_longest","itertools.pairwise"].contains n=false) (hQ:Q () s):wpAny M A (letOwnedTupleGo tg (.ref it) u) Q E s:=by
  unfold letOwnedTupleGo;cases tg<;>first
    | exact zab hQ
    | (cases u<;>first
        | exact zab hQ
        | (refine zay (wpAny_load ho ?_)
           rw[hc,hd];show wpAny M A (if (["enumerate","zip","dict_itemiterator","dict_reverseitemiterator","odict_iterator","itertools.zip_longest","itertools.pairwise"].contains n&&vs[0]? == some (rawInt _))=true then _ else _) Q E s;rw[if_neg (by intro h;rw[hn,Bool.false_and] at h;cases h)];exact zab hQ))
def Itl(K:W.Frag)(a:Addr):It :=
 ⟨fun i H=>∃ xs x,SqL K H a xs/\xs[i]? = some x,fun i H x H'=>H'=H/\∀ xs,SqL K H a xs->xs[i]? = some x,fun i H=>∃ xs,SqL K H a xs/\xs.length<=i⟩
def Itt(K:W.Frag)(a:Addr):It :=
 ⟨fun i H=>∃ xs x,SqT K H a xs/\xs[i]? = some x,fun i H x H'=>H'=H/\∀ xs,SqT K H a xs->xs[i]? = some x,fun i H=>∃ xs,SqT K H a xs/\xs.length<=i⟩
def jxj{P:Program}{w:World}{K:W.Frag}{tg:Expr}(a it:Addr):Turn P w K tg (Itl K a) [it] it (fun i h=>h.IsListIter it a i) where
 mem:=by simp
 obj:=fun i h st b hb=>by
  have e:b=it:=by simpa using hb
  subst e;obtain⟨o,e,c,d⟩:=st;exact⟨o,e,fun v z=>by rw[d] at z;cases z⟩
 keep:=fun i h h' st k=>st.at fun o e=>k it (by simp) o e
 item:=by
  intro X hP hw hK hc i U s Z H E I hf st hg;subst hP hw hK;obtain⟨xs,x,hq,hx⟩:=hg;obtain⟨its,rv,p,hz⟩:=I.list hq;obtain⟨u,hu,ru⟩:=rv.get hx;obtain⟨f0,f1,f2,f3,f4,f5⟩:=hf it (by simp);refine wpAny_pyNext_list_item st p.isList (x:=u) (by simpa using hu) fun h' st' sb=>?_
  have I1:Inv X U Z H { s with heap:=h' }:=I.turned (t':=s.toks) (fun b o hb e=>(sb.2 b hb).trans e) f0 f1 f3 f4 f5;obtain⟨o,e,c,d⟩:=id st';exact⟨u,rfl,jCt (s:={ s with heap:=h' }) e c d (by decide) ⟨x,H,I1,ru,⟨rfl,fun ys hy=>by rw[I.list_inj hy hq];exact hx⟩,st',fun b hb=>(hf b hb).1⟩⟩
 done:=by
  intro X hP hw hK hc i U s Z H E I hf st hg;subst hP hw hK;obtain⟨xs,hq,hx⟩:=hg;obtain⟨its,rv,p,hz⟩:=I.list hq;obtain⟨f0,f1,f2,f3,f4,f5⟩:=hf it (by simp);have hl:=rv.length;exact wpAny_pyNext_list_end (I.ok.hd hc) st p.isList (by simp;omega) fun h' eb=>⟨rfl,I.turned (t':=s.toks) (fun b o hb e=>eb b o hb e) f0 f1 f3 f4 f5⟩
 self:=fun _ _ _ _ _ st h=>wpAny_pyIter_listiter st h
def jtm{P:Program}{w:World}{K:W.Frag}{tg:Expr}(a it:Addr):Turn P w K tg (Itt K a) [it] it (fun i h=>h.IsTupleIter it a i) where
 mem:=by simp
 obj:=fun i h st b hb=>by
  have e:b=it:=by simpa using hb
  subst e;obtain⟨o,e,c,d⟩:=st;exact⟨o,e,fun v z=>by rw[d] at z;cases z⟩
 keep:=fun i h h' st k=>st.at fun o e=>k it (by simp) o e
 item:=by
  intro X hP hw hK hc i U s Z H E I hf st hg;subst hP hw hK;obtain⟨xs,x,hq,hx⟩:=hg;obtain⟨its,rv,p,hz⟩:=I.tuple hq;obtain⟨u,hu,ru⟩:=rv.get hx;obtain⟨f0,f1,f2,f3,f4,f5⟩:=hf it (by simp);refine wpAny_pyNext_tuple_item st (show s.heap.IsTuple a its.toArray from p) (x:=u) (by simpa using hu) fun h' st' sb=>?_
  have I1:Inv X U Z H { s with heap:=h' }:=I.turned (t':=s.toks) (fun b o hb e=>(sb.2 b hb).trans e) f0 f1 f3 f4 f5;obtain⟨o,e,c,d⟩:=id st';exact⟨u,rfl,jCt (s:={ s with heap:=h' }) e c d (by decide) ⟨x,H,I1,ru,⟨rfl,fun ys hy=>by rw[I.tuple_inj hy hq];exact hx⟩,st',fun b hb=>(hf b hb).1⟩⟩
 done:=by
  intro X hP hw hK hc i U s Z H E I hf st hg;subst hP hw hK;obtain⟨xs,hq,hx⟩:=hg;obtain⟨its,rv,p,hz⟩:=I.tuple hq;obtain⟨f0,f1,f2,f3,f4,f5⟩:=hf it (by simp);have hl:=rv.length;exact wpAny_pyNext_tuple_end (I.ok.hd hc) st (show s.heap.IsTuple a its.toArray from p) (by simp;omega) fun h' eb=>⟨rfl,I.turned (t':=s.toks) (fun b o hb e=>eb b o hb e) f0 f1 f3 f4 f5⟩
 self:=fun _ _ _ _ _ st h=>wpAny_pyIter_tupleiter st h
section
variable {X:Cx}{tg:Expr}
def tFor(wi:TI)(g:TG)(tb:TS):TS:=fun D Z H=>wi Z H fun Jq H1=>∃ W:Nat->Nat->St->Hp->Prop,(∃ m,W 0 m Z H1)/\∀ i m Z H,W i m Z H ->
 (Jq.stop i H/\D.nx Z H)\/(Jq.go i H/\∃ N:St->Hp->Prop,(∀ Z' H',N Z' H'->∃ m',m'<m/\W (i+1) m' Z' H')/\∀ x H',Jq.yld i H x H'->g x Z H' fun Z2 H2=>tb { D with nx:=N,ct:=N,bk:=D.nx } Z2 H2)
def jmn(fp:List Addr)(h:Heap):qb:=fp.filterMap fun b=>(h.get? b).map fun o=>(b,o)
def jeu{fp:List Addr}{h:Heap}{b:Addr}{o:Obj}(hb:b∈fp)(e:h.get? b=some o):(b,o)∈jmn fp h:=List.mem_filterMap.mpr ⟨b,hb,by rw[e];rfl⟩
def jv6{fp:List Addr}{h:Heap}{p:Addr×Obj}(hp:p∈jmn fp h):p.1∈fp/\h.get? p.1=some p.2:=by
 obtain⟨b,hb,e⟩:=List.mem_filterMap.mp hp
 cases q:h.get? b with
 | none=>rw[q] at e;cases e
 | some o =>
  rw[q] at e;have e':(b,o)=p:=zby e;subst e';exact⟨hb,q⟩
def Inv.pinned{U:qb}{Z:St}{H:Hp}{s:Shared}{fp:List Addr}(I:Inv X U Z H s)(hf:∀ b∈fp,FpOk X U H b)(ho:∀ b∈fp,∃ o,s.heap.get? b=some o/\∀ v,o.data≠.cell v):Inv X (U++jmn fp s.heap) Z H s :=
 I.pins_of fun p hp=>(List.mem_append.mp hp).elim (fun z=>I.pin p (zcy _ z)) fun z=>by
  obtain⟨hb,e⟩:=jv6 z;obtain⟨f0,f1,f2,_⟩:=hf p.1 hb;obtain⟨o,e',d⟩:=ho p.1 hb;rw[e] at e';cases e'
  exact⟨e,f0,f1,f2,d⟩
def Inv.unpinned{U pl:qb}{Z:St}{H:Hp}{s:Shared}(I:Inv X (U++pl) Z H s):Inv X U Z H s:=I.pins_of fun p hp=>I.pin p (zcy _ (List.mem_append_left _ hp))
def jwn{iter:Expr}{body:List Stmt}{wi:TI}{g:TG}{tb:TS}{pos:Pos}(hp:PassesOwn (model X.prog X.w) X.A X.env X.xe)(hc:X.calm=true)(hi:PI X tg iter wi)(hg:PG X tg g)(hb:PSs X body tb)
  (hs:∀ x,foldedSetIterable iter X.env x=pure x:=by intro _;rfl):PS X (.For tg iter body [] pos) (tFor wi g tb):=by
 intro U s Z H D I h;refine wpAny_For (thn (hi U s Z H _ I h) fun v s1 h1=>thn h1 fun itv s2 h2=>?_) hs;obtain⟨it,fp,tn,Jq,H2,e,I2,T,st2,f2,W,⟨m0,w0⟩,turn⟩:=h2;subst e;have stat:∀ {H':Hp},(∀ b∈fp,H' b=none)->∀ b∈fp,FpOk X U H' b:=fun hn b hb=>⟨hn b hb,(f2 b hb).2⟩
 refine codeAny_forLoop_any (fun n s'=>∃ i Z' H',Inv X U Z' H' s'/\tn i s'.heap/\(∀ b∈fp,H' b=none)/\W i n Z' H') ?_ m0 ⟨0,Z,H2,I2,st2,fun b hb=>(f2 b hb).1,w0⟩;rintro n s3 ⟨i,Z3,H3,I3,st3,fr3,w3⟩;rcases turn i n Z3 H3 w3 with ⟨stop,qn⟩|⟨go,N,hN,step⟩
 ·refine wpAny_passesOwn hp (thn (T.done X rfl rfl rfl hc i U s3 Z3 H3 X.xe I3 (stat fr3) st3 stop) fun r s4 hzz=>?_);obtain⟨hr,I4⟩:=hzz;subst hr;exact wpAny_execs_nil ⟨Z3,H3,I4,qn⟩
 ·refine wpAny_passesOwn hp (thn (T.item X rfl rfl rfl hc i U s3 Z3 H3 X.xe I3 (stat fr3) st3 go) fun r s4 hzz=>?_);obtain⟨u,hr,h4⟩:=hzz;subst hr;refine wpAny_passesOwn hp (thn h4 fun _ s5 hzz=>?_);obtain⟨x,H5,I5,r5,y5,st5,fr5⟩:=hzz;have I5':=I5.pinned (stat fr5) (T.obj _ _ st5);refine wpAny_passesOwn hp (thn (hg _ s5 Z3 H5 x u _ I5' r5 (step x H5 y5)) fun _ s6 hzz=>?_);obtain⟨Z6,H6,I6,q6⟩:=hzz;refine wpAny_passesOwn hp (thn (hb _ s6 Z6 H6 _ I6 q6) fun f s7 q7=>?_);have again:∀ {Z7:St} {H7:Hp},Inv X (U++jmn fp s5.heap) Z7 H7 s7->N Z7 H7->∃ m,m<n/\∃ i Z' H',Inv X U Z' H' s7/\tn i s7.heap/\(∀ b∈fp,H' b=none)/\W i m Z' H':=fun {Z7 H7} I7 n7=>by
   obtain⟨m',hm,w7⟩:=hN Z7 H7 n7;refine⟨m',hm,i+1,Z7,H7,I7.unpinned,T.keep _ _ _ st5 fun b hb o e=>(I7.pin (b,o) (zcy _ (zcy _ (jeu hb e)))).1,fun b hb=>?_,w7⟩;obtain⟨o,e,d⟩:=T.obj _ _ st5 b hb;exact (I7.pin (b,o) (zcy _ (zcy _ (jeu hb e)))).2.1
  cases f with
  | next=>obtain⟨Z7,H7,I7,n7⟩:=q7;exact again I7 n7
  | cont=>obtain⟨Z7,H7,I7,n7⟩:=q7;exact again I7 n7
  | brk=>obtain⟨Z7,H7,I7,q7⟩:=q7;exact⟨Z7,H7,I7.unpinned,q7⟩
  | ret v=>obtain⟨x7,Z7,H7,I7,r7,q7⟩:=q7;exact⟨x7,Z7,H7,I7.unpinned,r7,q7⟩
end
abbrev R2:=V->V->Hp->VK->Prop
def OpR(X:Cx)(f:Value->Value->Sem Value)(r:R2):Prop :=
 ∀ (U:qb) (s:Shared) (Z:St) (H:Hp) (x y:V) (v u:Value) (Q:VK),Inv X U Z H s->RelV x v->RelV y u->r x y H Q ->
  wpAny (model X.prog X.w) X.A (f v u) (EP X U Z Q) X.xe s
def UnR(X:Cx)(f:Value->Sem Value)(r:V->Hp->VK->Prop):Prop :=
 ∀ (U:qb) (s:Shared) (Z:St) (H:Hp) (x:V) (v:Value) (Q:VK),Inv X U Z H s->RelV x v->r x H Q ->
  wpAny (model X.prog X.w) X.A (f v) (EP X U Z Q) X.xe s
def CallR(X:Cx)(f:Value)(r:List V->Hp->VK->Prop):Prop :=
 ∀ (U:qb) (s:Shared) (Z:St) (H:Hp) (xs:List V) (us:List Value) (Q:VK),Inv X U Z H s->Vals xs us->r xs H Q ->
  wpAny (model X.prog X.w) X.A (call f us) (EP X U Z Q) X.xe s
def TruR(X:Cx)(r:V->Hp->(Bool->Hp->Prop)->Prop):Prop :=
 ∀ (U:qb) (s:Shared) (Z:St) (H:Hp) (x:V) (v:Value) (Q:Bool->Hp->Prop),Inv X U Z H s->RelV x v->r x H Q ->
  wpAny (model X.prog X.w) X.A (truthy v) (TP X U Z Q) X.xe s
def tOp(r:R2)(ta tb:TE):TE:=fun Z H Q=>ta Z H fun x H1=>tb Z H1 fun y H2=>r x y H2 Q
def tUn(r:V->Hp->VK->Prop)(ta:TE):TE:=fun Z H Q=>ta Z H fun x H1=>r x H1 Q
def rI(C:Int->Int->Prop)(g:Int->Int->V):R2:=fun x y H Q=>∃ i j,x=.int i/\y=.int j/\C i j/\Q (g i j) H
def rI0(g:Int->Int->V):R2:=fun x y H Q=>∃ i j,x=.int i/\y=.int j/\Q (g i j) H
def rU(g:Int->V):V->Hp->VK->Prop:=fun x H Q=>∃ i,x=.int i/\Q (g i) H
section
variable {X:Cx}{a b:Expr}{ta tb:TE}{pos:Pos}
def binT(ha:PE X a ta)(hb:PE X b tb){U:qb}{s:Shared}{Z:St}{H:Hp}{R:V->V->Hp->Prop}(I:Inv X U Z H s)
  (h:ta Z H fun x H1=>tb Z H1 fun y H2=>R x y H2) {Q:qc} {f:Value->Value->Sem Value}
  (hf:∀ v u s2 x y H2,Inv X U Z H2 s2->RelV x v->RelV y u->R x y H2->wpAny (model X.prog X.w) X.A (f v u) Q X.xe s2) :
  wpAny (model X.prog X.w) X.A (eval a X.env) (fun v s₁=>wpAny (model X.prog X.w) X.A (eval b X.env) (fun u s₂=>wpAny (model X.prog X.w) X.A (f v u) Q X.xe s₂) X.xe s₁) X.xe s:=by
 refine thn (ha U s Z H _ I h) fun v s1 hzz=>?_
 obtain⟨x,H1,I1,r1,q1⟩:=hzz;refine thn (hb U s1 Z H1 _ I1 q1) fun u s2 hzz=>?_
 obtain⟨y,H2,I2,r2,q2⟩:=hzz;exact hf v u s2 x y H2 I2 r1 r2 q2
def jG3{op:Operator}{r:R2}(ho:OpR X (binaryOp op) r)(ha:PE X a ta)(hb:PE X b tb):PE X (.BinOp a op b pos) (tOp r ta tb):=by
 intro U s Z H Q I h;exact wpAny_BinOp (binT ha hb I h fun v u s2 x y H2 I2 rx ry q=>ho U s2 Z H2 x y v u Q I2 rx ry q)
def jJr{op:UnaryOp}{r:V->Hp->VK->Prop}(ho:UnR X (unaryOp op) r)(ha:PE X a ta):PE X (.UnaryOp op a pos) (tUn r ta):=by
 intro U s Z H Q I h;exact UnaryOp_ (thn (ha U s Z H _ I h) fun v s1 ⟨x,H1,I1,r1,q1⟩=>ho U s1 Z H1 x v Q I1 r1 q1)
def opI{f:Value->Value->Sem Value}{C:Int->Int->Prop}{g:Int->Int->Int}
  (rule:∀ (i j:Int) (t u:Tok) (s:Shared) (Q:qc) (E:qc),C i j->Q (.int (g i j) s.toks) { s with toks:=s.toks+1 }->wpAny (model X.prog X.w) X.A (f (.int i t) (.int j u)) Q E s) :
  OpR X f (rI C fun i j=>.int (g i j)):=by
 intro U s Z H x y v u Q I rx ry h;obtain⟨i,j,rfl,rfl,hc,q⟩:=h;obtain⟨t,rfl⟩:=rx;obtain⟨t',rfl⟩:=ry;exact rule i j t t' s _ _ hc ⟨.int (g i j),H,I.tok _,⟨_,rfl⟩,q⟩
def opI0{f:Value->Value->Sem Value}{g:Int->Int->Int}
  (rule:∀ (i j:Int) (t u:Tok) (s:Shared) (Q:qc) (E:qc),Q (.int (g i j) s.toks) { s with toks:=s.toks+1 }->wpAny (model X.prog X.w) X.A (f (.int i t) (.int j u)) Q E s) :
  OpR X f (rI0 fun i j=>.int (g i j)):=by
 intro U s Z H x y v u Q I rx ry h;obtain⟨i,j,rfl,rfl,q⟩:=h;obtain⟨t,rfl⟩:=rx;obtain⟨t',rfl⟩:=ry;exact rule i j t t' s _ _ ⟨.int (g i j),H,I.tok _,⟨_,rfl⟩,q⟩
def opB0{f:Value->Value->Sem Value}{g:Int->Int->Bool}
  (rule:∀ (i j:Int) (t u:Tok) (s:Shared) (Q:qc) (E:qc),Q (.bool (g i j)) s->wpAny (model X.prog X.w) X.A (f (.int i t) (.int j u)) Q E s) :
  OpR X f (rI0 fun i j=>.bl (g i j)):=by
 intro U s Z H x y v u Q I rx ry h;obtain⟨i,j,rfl,rfl,q⟩:=h;obtain⟨t,rfl⟩:=rx;obtain⟨t',rfl⟩:=ry;exact rule i j t t' s _ _ ⟨.bl (g i j),H,I,rfl,q⟩
def CPow(i j:Int):Prop:=0<=j/\j<=1000000/\i.natAbs<2 ^ 64
def op_add:OpR X (binaryOp .Add) (rI0 fun i j=>.int (i+j)):=opI0 fun _ _ _ _ _ _ _ q=>add_int q
def jpc:OpR X (binaryOp .Sub) (rI0 fun i j=>.int (i-j)):=opI0 fun _ _ _ _ _ _ _ q=>sub_int q
def jcw:OpR X (binaryOp .Mod) (rI (fun _ j=>0<j) fun i j=>.int (i % j)):=opI fun i j _ _ _ _ _ hc q=>by
 have h1:(0:Int)<j:=hc;exact mod_int' (by omega) (by rw[Int.fmod_eq_emod_of_nonneg i (by omega)];exact q)
def jGr:OpR X (binaryOp .Pow) (rI CPow fun i j=>.int (i ^ j.toNat)):=opI fun _ _ _ _ _ _ _ hc q=>pow_int_small hc.1 hc.2.1 hc.2.2 q
def iop_add:OpR X (inplaceOp .Add) (rI0 fun i j=>.int (i+j)):=opI0 fun _ _ _ _ _ _ _ q=>iadd_int q
def unI{f:Value->Sem Value}{g:Int->Int}
  (rule:∀ (i:Int) (t:Tok) (s:Shared) (Q:qc) (E:qc),Q (.int (g i) s.toks) { s with toks:=s.toks+1 }->wpAny (model X.prog X.w) X.A (f (.int i t)) Q E s) :
  UnR X f (rU fun i=>.int (g i)):=by
 intro U s Z H x v Q I rx h;obtain⟨i,rfl,q⟩:=h;obtain⟨t,rfl⟩:=rx;exact rule i t s _ _ ⟨.int (g i),H,I.tok _,⟨_,rfl⟩,q⟩
def ji2:UnR X (unaryOp .USub) (rU fun i=>.int (-i)):=unI fun _ _ _ _ _ q=>neg_int q
end
section
variable {X:Cx}{a b c:Expr}{ta tb tc:TE}{pos:Pos}
def jrq{U:qb}{Z:St}{H:Hp}{s:Shared}{Q:VK}{k k':Bool}(I:Inv X U Z H s)(q:Q (.bl k) H)(e:k=k'):EP X U Z Q (.bool k') s:=by
 subst e;exact⟨.bl k,H,I,rfl,q⟩
def op_lt:OpR X (compareOp .Lt) (rI0 fun i j=>.bl (decide (i<j))):=opB0 fun _ _ _ _ _ _ _ q=>lt_int q
def op_le:OpR X (compareOp .LtE) (rI0 fun i j=>.bl (decide (i<=j))):=opB0 fun _ _ _ _ _ _ _ q=>le_int q
def op_gt:OpR X (compareOp .Gt) (rI0 fun i j=>.bl (decide (j<i))):=opB0 fun _ _ _ _ _ _ _ q=>gt_int q
def jwb:OpR X (compareOp .Lt) (fun x y H Q=>∃ i j,x=.str i/\y=.str j/\Q (.bl (decide (i.cps.toList<j.cps.toList))) H):=by
 intro U s Z H x y v u Q I rx ry h;obtain⟨i,j,rfl,rfl,q⟩:=h;obtain⟨t,rfl⟩:=rx;obtain⟨t',rfl⟩:=ry;exact lt_str (jrq I q rfl)
def jwa:OpR X (compareOp .In) (fun x y H Q=>∃ i j,x=.str i/\y=.str j/\Q (.bl (!(Builtin.Str.occurrences j i 0 j.length 1).isEmpty)) H):=by
 intro U s Z H x y v u Q I rx ry h;obtain⟨i,j,rfl,rfl,q⟩:=h;obtain⟨t,rfl⟩:=rx;obtain⟨t',rfl⟩:=ry;exact in_str (jrq I q rfl)
def jGq:OpR X (compareOp .Is) (fun x y H Q=>y=.non/\Q (.bl (decide (x=.non))) H):=by
 intro U s Z H x y v u Q I rx ry h;obtain⟨rfl,q⟩:=h;cases ry;refine is_none_gen (jrq I q ?_);cases x<;>first
  | (cases rx;rfl)
  | (obtain⟨t,rfl⟩:=rx;rfl)
def jDg:OpR X (compareOp .IsNot) (fun x y H Q=>y=.non/\Q (.bl (!decide (x=.non))) H):=by
 intro U s Z H x y v u Q I rx ry h;obtain⟨rfl,q⟩:=h;cases ry;refine isnot_none_gen (jrq I q ?_);cases x<;>first
  | (cases rx;rfl)
  | (obtain⟨t,rfl⟩:=rx;rfl)
def OpR.or{f:Value->Value->Sem Value}{r r':R2}(h:OpR X f r)(h':OpR X f r'):OpR X f (fun x y H Q=>r x y H Q\/r' x y H Q):=by
 intro U s Z H x y v u Q I rx ry q;rcases q with q|q
 ·exact h U s Z H x y v u Q I rx ry q
 ·exact h' U s Z H x y v u Q I rx ry q
def jau(b:Expr){op:CmpOp}(h:op≠.In:=by decide)(h2:op≠.NotIn:=by decide):behindInMarks op b=false:=by
 have e1:(op == CmpOp.In)=false:=by cases op<;>first|rfl|exact absurd rfl h
 have e2:(op == CmpOp.NotIn)=false:=by cases op<;>first|rfl|exact absurd rfl h2
 cases b<;>simp[behindInMarks,e1,e2]
def jwh{op:CmpOp}{r:R2}(ho:OpR X (compareOp op) r)(ha:PE X a ta)(hb:PE X b tb)(hm:behindInMarks op b=false):PE X (.Compare a [op] [b] pos) (tOp r ta tb):=by
 intro U s Z H Q I h;exact wpAny_Compare1 (binT ha hb I h fun v u s2 x y H2 I2 rx ry q=>ho U s2 Z H2 x y v u Q I2 rx ry q) hm
def jJ9(t:TE):TT:=fun Z H Q=>t Z H fun x H'=>∃ k,x=.bl k/\Q k H'
def jwp{op:CmpOp}{r:R2}(ho:OpR X (compareOp op) r)(ha:PE X a ta)(hb:PE X b tb)(hm:behindInMarks op b=false):PT X (.Compare a [op] [b] pos) (jJ9 (tOp r ta tb)):=by
 intro U s Z H Q I h;refine wpAny_isTrue_Compare1 (thn (ha U s Z H _ I h) fun v s1 ⟨x,H1,I1,r1,q1⟩=>thn (hb U s1 Z H1 _ I1 q1) fun u s2 ⟨y,H2,I2,r2,q2⟩ =>
  thn (ho U s2 Z H2 x y v u _ I2 r1 r2 q2) fun c s3 ⟨z,H3,I3,r3,k,e,q3⟩=>?_) hm
 subst e;cases r3;exact wpAny_truthy_bool ⟨H3,I3,q3⟩
def jH2(r r':R2)(ta tb tc:TE):TE:=fun Z H Q=>ta Z H fun x H1=>tb Z H1 fun y H2=>r x y H2 fun z H3=>∃ k,z=.bl k /\
 (if k=true then tc Z H3 fun w' H4=>r' y w' H4 Q else Q (.bl false) H3)
def jy1{op op':CmpOp}{r r':R2}(ho:OpR X (compareOp op) r)(ho':OpR X (compareOp op') r')(ha:PE X a ta)(hb:PE X b tb)(hc:PE X c tc)
  (hm:lastMarks [op,op'] [b,c]=false:=by with_unfolding_all rfl):PE X (.Compare a [op,op'] [b,c] pos) (jH2 r r' ta tb tc):=by
 intro U s Z H Q I h;refine Compare_chain (thn (ha U s Z H _ I h) fun v s1 ⟨x,H1,I1,r1,q1⟩=>chain_link (thn (hb U s1 Z H1 _ I1 q1) fun u s2 ⟨y,H2,I2,r2,q2⟩ =>
  thn (ho U s2 Z H2 x y v u _ I2 r1 r2 q2) fun d s3 ⟨z,H3,I3,r3,k,e,q3⟩=>?_)) hm
 subst e;cases r3;refine wpAny_truthy_bool ?_
 cases k with
 | false=>exact ite_ff ⟨.bl false,H3,I3,rfl,q3⟩
 | true=>exact ite_tt (chain_last (thn (hc U s3 Z H3 _ I3 q3) fun w' s4 ⟨z',H4,I4,r4,q4⟩=>ho' U s4 Z H4 y z' u w' Q I4 r2 r4 q4))
def TruV(K:W.Frag)(x:V)(H:Hp)(k:Bool):Prop :=
 match x with
 | .non=>k=false
 | .bl b=>k=b
 | .int i=>k=(i != 0)
 | .str y=>y.length<=sizeLine/\k=((y.length:Int) != 0)
 | .ref p=>(∃ xs,SqL K H p xs/\k=!xs.isEmpty)\/(∃ xs,SqT K H p xs/\k=!xs.isEmpty)\/∃ kvs,H p=some (.dK kvs)/\k=!kvs.isEmpty
 | _=>False
def jsv{κ:Type}{kvs:List (κ×V)}{vs:List (κ×Value)}(r:KV kvs vs):(!vs.isEmpty)=!kvs.isEmpty:=by
 cases r<;>rfl
def jmf{xs:List V}{its:List Value}(r:Vals xs its):(!its.toArray.isEmpty)=!xs.isEmpty:=by
 cases r<;>simp
def jmi:(sizeLine:Nat)<2 ^ 63:=by rw[sizeLine_eq];decide
def jH7:TruR X (fun x H Q=>∃ k,TruV X.K x H k/\Q k H):=by
 intro U s Z H x v Q I rx h;obtain⟨k,e,q⟩:=h;have hl:=jmi;have hs:sizeLine=16777216:=sizeLine_eq
 cases x with
 | non =>
  cases rx;have e':k=false:=e;subst e';exact truthy_none ⟨H,I,q⟩
 | bl b =>
  cases rx;have e':k=b:=e;subst e';exact wpAny_truthy_bool ⟨H,I,q⟩
 | int i =>
  obtain⟨t,rfl⟩:=rx;have e':k=(i != 0):=e;subst e';exact PySem.P.truthy_int ⟨H,I,q⟩
 | str y =>
  obtain⟨t,rfl⟩:=rx;obtain⟨hy,e'⟩:y.length<=sizeLine/\k=((y.length:Int) != 0):=e;subst e';exact PySem.P.truthy_str (by omega) ⟨H,I.tok _,q⟩
 | ref p =>
  cases rx;have e':(∃ xs,SqL X.K H p xs/\k=!xs.isEmpty)\/(∃ xs,SqT X.K H p xs/\k=!xs.isEmpty)\/∃ kvs,H p=some (.dK kvs)/\k=!kvs.isEmpty:=e;rcases e' with ⟨xs,hx,e'⟩|⟨xs,hx,e'⟩|⟨kvs,hx,e'⟩
  ·subst e';obtain⟨its,r,pl,hz⟩:=I.list hx;have hlen:=r.length;exact wpAny_truthy_list pl.isList (by simp only[zbx];omega) ⟨H,I.tok _,by rw[jmf r];exact q⟩
  ·subst e';obtain⟨its,r,pl,hz⟩:=I.tuple hx;have hlen:=r.length;exact truthy_tuple pl (by simp only[zbx];omega) ⟨H,I.tok _,by rw[jmf r];exact q⟩
  ·subst e';obtain⟨hz,hS,vs,r,m⟩:kvs.length<=sizeLine/\(p == sysModules)=false/\∃ vs,KV kvs vs/\s.heap.DictOf (jqf X.prog X.w) p vs:=I.hok p _ hx;have hlen:kvs.length=vs.length:=Paired.length r;exact wpAny_truthy_dict hS m (by omega) ⟨H,I.tok _,by rw[jsv r];exact q⟩
 | _=>exact (show False from e).elim
def jr6(ha:PE X a ta)(he:∀ whole,isTrue a X.env whole=(do let v <- whole;standAt a.pos;holding [v] (truthy v))) :
  PT X a (fun Z H Q=>ta Z H fun x H'=>∃ k,TruV X.K x H' k/\Q k H'):=by
 intro U s Z H Q I h;exact isTrue_plain (thn (ha U s Z H _ I h) fun v s1 ⟨x,H1,I1,r1,q1⟩=>jH7 U s1 Z H1 x v Q I1 r1 q1) (he _)
def js4:OpR X (binaryOp .Add) (fun x y H Q=>∃ i j,x=.str i/\y=.str j/\i.length+j.length<=sizeLine/\Q (.str (i++j)) H):=by
 intro U s Z H x y v u Q I rx ry h;obtain⟨i,j,rfl,rfl,hz,q⟩:=h;obtain⟨t,rfl⟩:=rx;obtain⟨t',rfl⟩:=ry;exact add_str (fun t' tk=>⟨.str (i++j),H,I.tok _,⟨_,rfl⟩,q⟩) hz
def jh5:OpR X (inplaceOp .Add) (fun x y H Q=>∃ i j,x=.str i/\y=.str j/\i.length+j.length<=sizeLine/\Q (.str (i++j)) H):=by
 intro U s Z H x y v u Q I rx ry h;obtain⟨i,j,rfl,rfl,hz,q⟩:=h;obtain⟨t,rfl⟩:=rx;obtain⟨t',rfl⟩:=ry;exact iadd_str (fun t' tk=>⟨.str (i++j),H,I.tok _,⟨_,rfl⟩,q⟩) hz
def jqz{x:V}{us:List Value}(r:Vals [x] us):∃ u,us=[u]/\RelV x u:=by
 cases r with
 | cons r1 r2=>cases r2;exact⟨_,rfl,r1⟩
def jKf{x y:V}{us:List Value}(r:Vals [x,y] us):∃ u w',us=[u,w']/\RelV x u/\RelV y w':=by
 cases r with
 | cons r1 r2 =>
  cases r2 with
  | cons r3 r4=>cases r4;exact⟨_,_,rfl,r1,r3⟩
def jt4(hc:X.calm=true):CallR X (.builtin "max") (fun xs H Q=>∃ i j,xs=[.int i,.int j]/\Q (.int (if j > i then j else i)) H):=by
 intro U s Z H xs us Q I r h;obtain⟨i,j,rfl,q⟩:=h;obtain⟨u,w',rfl,⟨t,rfl⟩,⟨t',rfl⟩⟩:=jKf r;refine max_two_ints (I.ok.hd hc) fun h' tk k=>⟨_,H,I.kept k,?_,q⟩
 by_cases hj:j > i
 ·rw[if_pos hj,if_pos hj];exact⟨_,rfl⟩
 ·rw[if_neg hj,if_neg hj];exact⟨_,rfl⟩
def call_int1:CallR X (.type "int") (fun xs H Q=>(∃ i,xs=[.int i]/\Q (.int i) H)\/∃ k,xs=[.bl k]/\Q (.int (if k then 1 else 0)) H):=by
 intro U s Z H xs us Q I r h;rcases h with ⟨i,rfl,q⟩|⟨k,rfl,q⟩
 ·obtain⟨u,rfl,t,rfl⟩:=jqz r;exact call_int_int ⟨.int i,H,I,⟨_,rfl⟩,q⟩
 ·obtain⟨u,rfl,r1⟩:=jqz r;cases r1;exact call_int_bool ⟨.int (if k then 1 else 0),H,I.tok _,⟨_,rfl⟩,q⟩
def jgv:CallR X (.type "str") (fun xs H Q=>∃ i,xs=[.int i]/\i.natAbs.log2<1920/\Q (.str (toString i)) H):=by
 intro U s Z H xs us Q I r h;obtain⟨i,rfl,hz,q⟩:=h;obtain⟨u,rfl,t,rfl⟩:=jqz r;exact PySem.P.str_of_int hz ⟨.str _,H,I.tok _,⟨_,rfl⟩,q⟩
end
structure ObjM(h:Heap)(x dx C:Addr)(mA:qa):Prop where
 obj:h.get? x=some (W.instObj C dx)
 ns:h.Ns1 dx mA
 ne:dx≠x
def jov{h:Heap}{dx:Addr}{mA:qa}(n:h.Ns1 dx mA):∃ od,h.get? dx=some od/\∀ name,W.lookIn name od=some (mA name):=by
 obtain⟨o,es,ep,ho,hd,hk,_,hm⟩:=n;refine⟨o,ho,fun name=>?_⟩;have e:=hm name;unfold nsFind findBy at e;rw[<- Array.find?_toList] at e;unfold W.lookIn;rw[hd];dsimp only
 split
 ·rename_i y q;rw[q] at e;exact congrArg some e
 ·rename_i q;rw[q] at e;have a:es.toList.any (·.refKey)=false:=by
   rw[List.any_eq_false];intro y hy;obtain⟨z,t,hkey⟩:=hk y (Array.mem_toList_iff.mp hy);simp[DictEntry.refKey,hkey]
  have a':¬ es.toList.any (·.refKey)=true:=by rw[a];exact Bool.false_ne_true
  rw[if_neg a'];exact congrArg some e
def ObjM.look{h:Heap}{x dx C:Addr}{mA:qa}(I:ObjM h x dx C mA):∃ od,W.InstAt h x (W.instObj C dx) C (some od)/\∀ name,W.lookIn name od=some (mA name) :=
 let ⟨od,ho,hl⟩:=jov I.ns
 ⟨od,⟨I.obj,rfl,rfl,ho⟩,hl⟩
section
variable {prog:Program}{w:World}{A:Around}{E:qc}{s:Shared}{K:W.Frag}{x dx C f:Addr}{mA:qa}{name:Str}{v:Value}
def jCs{expr:Bool}{Q:qc}(X:K.In s.heap)(I:ObjM s.heap x dx C mA)(hg:W.plainGet K C name=true)(hh:W.hasDictIn K C=true)
  (ha:W.findIn K (.ref C) name=some none) (hv:mA name=some v) (hv':W.handedIn v=true) (h:Q v { s with toks:=s.toks+1 }) :
  wpAny (model prog w) A (getAttr (.ref x) name expr) Q E s:=by
 obtain⟨od,Jq,hl⟩:=I.look;exact W.get_value X Jq (W.plainGet_of hg).1 (W.findObj_own hh ha rfl (by rw[hl,hv])) hv' h
def jyc{pl:Sem Bool}{Q:Value×List Value->Shared->Prop}(X:K.In s.heap)(I:ObjM s.heap x dx C mA)(hg:W.plainGet K C name=true)
  (hf:W.findIn K (.ref C) name=some (some (.ref f))) (ht:W.isFn K (.ref f)=true) (hv:mA name=none) (h:Q (.ref f,[.ref x]) s) :
  wpAny (model prog w) A (getMethod (.ref x) name pl) Q E s:=by
 obtain⟨od,Jq,hl⟩:=I.look;exact W.method_fn X Jq (W.plainGet_of hg).1 (W.plainGet_of hg).2 hf (beq_iff_eq.mp ht) (by show (W.lookIn name od).map (·.isSome)=some false;rw[hl,hv];rfl) h
def jEa{ns:List Str}{Q:Unit->Shared->Prop}(X:K.In s.heap)(I:ObjM s.heap x dx C mA)
  (hs:W.findIn K (.ref C) "__setattr__"=some (some (.builtin "object.__setattr__"))) (hp:W.plainOver K C=true) (ht:W.takerIn K C name=some none) (hh:W.hasDictIn K C=true)
  (hw:PySem.Within mA ns) (hsz:ns.length<=sizeLine)
  (h:∀ h',ObjM h' x dx C (fun y=>if y=name then some v else mA y)->Heap.SameBut dx s.heap h'->Q () { s with heap:=h',toks:=s.toks+2 }) :
  wpAny (model prog w) A (setAttr (.ref x) name v) Q E s:=by
 obtain⟨od,Jq,hl⟩:=I.look;refine W.set_plain X Jq hs (W.osa_open (s:={ s with toks:=s.toks+1 }) (r:=none) X Jq hp ht fun b=>?_);obtain⟨cd,hc,hd'⟩:=W.any_some hh;have hx:s.heap.get? x=some ⟨.ref C,some dx,.plain,#[]⟩:=I.obj;refine zay (zab (zay (zay (wpAny_loadPart hx (zay (W.Looks.here (s:={ s with toks:=s.toks+1 }) (W.looks_clsIn X hc) ?_))))));rw[hd'];refine zab (a:=some dx) (zay (zab (zay ?_)));refine wpAny_nsSet1 (s:={ s with toks:=s.toks+1 }) I.ns fun h' hn2 hs2=>?_
 obtain⟨oD,esD,epD,hoD,hdD,hcD⟩:=hn2.count (PySem.Within.cons name v hw);refine zay (wpAny_lookBehind hoD (by rw[hdD];exact pastItsLine_dict (zdy hcD (by rw[List.length_cons];omega))) ?_);exact zab (h _ ⟨(hs2.2 _ (Ne.symm I.ne)).trans I.obj,hn2,I.ne⟩ hs2)
def jyn{R:Result->Shared->Prop}{vs:List Value}{kw:List (Str×Value)}(X:K.In s.heap)(hm:W.makesIn K C=true)
  (hi:W.findIn K (.ref C) "__init__"=some (some (.ref f))) (hf:W.typeIn K (.ref f)=some (.type "function"))
  (h:codeAny (model prog w) (A.under (.builtin "type.__call__" ⟨.ref C::vs,kw⟩)) (.call (.ref f) ⟨.ref (s.heap.objs.size+1)::vs,kw⟩) (W.InitBack (s.heap.objs.size+1) R)
   { s with heap:=(s.heap.push W.emptyDict).push (W.instObj C s.heap.objs.size) }) :
  codeAny (model prog w) A (.call (.ref C) ⟨vs,kw⟩) R s:=by
 obtain⟨hh,g,d,t,os⟩:=s;exact W.make_core (W.makes_of X hm) (W.looks_findIn X hi) (fun self=>W.bind_fn X self hf) (.inl rfl) h
end
def putF(f:Str)(v:V):List (Str×V)->List (Str×V)
 | []=>[(f,v)]
 | (g,x)::r=>if g=f then (g,v)::r else (g,x)::putF f v r
theorem jh7(f g:Str)(v:V):∀ fs:List (Str×V),(putF f v fs).lookup g=if g=f then some v else fs.lookup g
 | []=>by
  show List.lookup g [(f,v)]=_
  by_cases h:g=f
  ·have hb:(g == f)=true:=beq_iff_eq.mpr h;simp only[List.lookup,hb,if_pos h]
  ·have hb:(g == f)=false:=beq_eq_false_iff_ne.mpr h;simp only[List.lookup,hb,if_neg h]
 | (k,x)::r=>by
  have ih:=jh7 f g v r;rw[show putF f v ((k,x)::r)=(if k=f then (k,v)::r else (k,x)::putF f v r) from rfl]
  by_cases hk:k=f
  ·rw[if_pos hk]
   by_cases h:g=k
   ·have hb:(g == k)=true:=beq_iff_eq.mpr h;simp only[List.lookup,hb,if_pos (h.trans hk)]
   ·have hb:(g == k)=false:=beq_eq_false_iff_ne.mpr h;simp only[List.lookup,hb,if_neg (fun e:g=f=>h (e.trans hk.symm))]
  ·rw[if_neg hk]
   by_cases h:g=k
   ·have hb:(g == k)=true:=beq_iff_eq.mpr h;simp only[List.lookup,hb,if_neg (fun e:g=f=>hk (h.symm.trans e))]
   ·have hb:(g == k)=false:=beq_eq_false_iff_ne.mpr h;simp only[List.lookup,hb];exact ih
theorem jg0(f:Str)(v:V):∀ fs:List (Str×V),f∈(putF f v fs).map (·.1)/\∀ g,g∈fs.map (·.1)->g∈(putF f v fs).map (·.1)
 | []=>⟨by simp[putF],fun g h=>by simp at h⟩
 | (k,x)::r=>by
  obtain⟨i1,i2⟩:=jg0 f v r;rw[show putF f v ((k,x)::r)=(if k=f then (k,v)::r else (k,x)::putF f v r) from rfl]
  by_cases hk:k=f
  ·rw[if_pos hk];subst hk;exact⟨by simp,fun g h=>by simpa using h⟩
  ·rw[if_neg hk];refine⟨?_,fun g h=>?_⟩
   ·rw[List.map_cons];exact zaw _ i1
   ·rw[List.map_cons] at h |-
    rcases List.mem_cons.mp h with e|e
    ·exact List.mem_cons.mpr (.inl e)
    ·exact zaw _ (i2 g e)
theorem jh6(f:Str)(v:V):∀ fs:List (Str×V),(putF f v fs).length<=fs.length+1
 | []=>by simp[putF]
 | (k,x)::r=>by
  have ih:=jh6 f v r;rw[show putF f v ((k,x)::r)=(if k=f then (k,v)::r else (k,x)::putF f v r) from rfl]
  by_cases hk:k=f
  ·rw[if_pos hk,List.length_cons,List.length_cons];omega
  ·rw[if_neg hk,List.length_cons,List.length_cons];omega
def RelO.some_of{v:V}{o:Option Value}(r:RelO (some v) o):∃ u,o=some u/\RelV v u:=by
 cases o with
 | none=>exact (show False from r).elim
 | some u=>exact⟨u,rfl,r⟩
def RelO.none_of{o:Option Value}(r:RelO none o):o=none:=by
 cases o with
 | none=>rfl
 | some u=>exact (show False from r).elim
def jou{v:V}{u:Value}(r:RelV v u):W.handedIn u=true:=by
 cases v with
 | non=>cases (show u=Value.none from r);rfl
 | bl b=>cases (show u=Value.bool b from r);rfl
 | int i=>obtain⟨t,e⟩:=(show ∃ t,u=Value.int i t from r);cases e;rfl
 | str x=>obtain⟨t,e⟩:=(show ∃ t,u=Value.str x t from r);cases e;rfl
 | ref a=>cases (show u=Value.ref a from r);rfl
 | ty n=>cases (show u=Value.type n from r);rfl
section
variable {P:Program}{w:World}{H:Hp}{h:Heap}{a C dx:Addr}{fs:List (Str×V)}
def jp6(hok:HOk P w H h)(e:H a=some (.ins C dx fs)):∃ mA,ObjM h a dx C mA/\(∀ f,RelO (fs.lookup f) (mA f))/\PySem.Within mA (fs.map (·.1))/\fs.length<=1000/\H dx=some (.own a):=by
 obtain⟨d,z,ne,ob,mA,n,r,q⟩:=(show ObjOk P w H h a (.ins C dx fs) from hok a _ e)
 exact⟨mA,⟨ob,n,ne⟩,r,q,z,d⟩
end
structure Cls(K:W.Frag)(C:Addr):Prop where
 pg:W.plainGet K C Str.empty=true
 hd:W.hasDictIn K C=true
 po:W.plainOver K C=true
 sa:W.findIn K (.ref C) "__setattr__"=some (some (.builtin "object.__setattr__"))
def Cls.get{K:W.Frag}{C:Addr}(c:Cls K C)(f:Str):W.plainGet K C f=true:=c.pg
def NoAttr(K:W.Frag)(C:Addr)(f:Str):Prop:=W.findIn K (.ref C) f=some none
def NoAttr.taker{K:W.Frag}{C:Addr}{f:Str}(n:NoAttr K C f):W.takerIn K C f=some none:=by
 unfold W.takerIn;rw[show W.findIn K (.ref C) f=some none from n];rfl
structure Con(K:W.Frag)(C:Addr)(f:Str)(v:V)(u:Value):Prop where
 at_:W.findIn K (.ref C) f=some (some u)
 rel:RelV v u
 get:W.specialIn K u "__get__"=some none
 cp:W.copiedNames.contains f=false
structure Meth(K:W.Frag)(C:Addr)(m:Str)(f:Addr):Prop where
 at_:W.findIn K (.ref C) m=some (some (.ref f))
 fn:W.isFn K (.ref f)=true
 kp:W.keepIn K (.ref f)=true
section
variable {X:Cx}{U:qb}{Z:St}{H:Hp}{s:Shared}{a C dx:Addr}{fs:List (Str×V)}{f:Str}{v:V}{A:Around}{E:qc}
def jsu{b:Bool}{Q:qc}(I:Inv X U Z H s)(e:H a=some (.ins C dx fs))(c:Cls X.K C)(n:NoAttr X.K C f)(l:fs.lookup f=some v)
  (h:∀ u s',Inv X U Z H s'->RelV v u->Q u s'):wpAny (model X.prog X.w) A (getAttr (.ref a) f b) Q E s:=by
 obtain⟨mA,O,r,_,_,_⟩:=jp6 I.hok e;obtain⟨u,hu,ru⟩:=RelO.some_of (v:=v) (o:=mA f) (by rw[<- l];exact r f);exact jCs I.kIn O (c.get f) c.hd n hu (jou ru) (h u _ (I.tok _) ru)
def jmd{m:Str}{g:Addr}{pl:Sem Bool}{Q:Value×List Value->Shared->Prop}(I:Inv X U Z H s)(e:H a=some (.ins C dx fs))(c:Cls X.K C)(k:Meth X.K C m g)(l:fs.lookup m=none)
  (h:Q (.ref g,[.ref a]) s):wpAny (model X.prog X.w) A (getMethod (.ref a) m pl) Q E s:=by
 obtain⟨mA,O,r,_,_,_⟩:=jp6 I.hok e;have hn:mA m=none:=RelO.none_of (by rw[<- l];exact r m);exact jyc I.kIn O (c.get m) k.at_ k.fn hn h
def jtd{y:V}{u:Value}{Q:Unit->Shared->Prop}(I:Inv X U Z H s)(e:H a=some (.ins C dx fs))(c:Cls X.K C)(n:NoAttr X.K C f)(hl:fs.length<1000)(ry:RelV y u)
  (h:∀ s',Inv X U Z (upd H a (.ins C dx (putF f y fs))) s'->Q () s'):wpAny (model X.prog X.w) A (setAttr (.ref a) f u) Q E s:=by
 obtain⟨mA,O,r,wi,_,ho⟩:=jp6 I.hok e;have hz:(fs.map (·.1)).length<=sizeLine:=by rw[zav,sizeLine_eq];omega
 refine jEa I.kIn O c.sa c.po n.taker c.hd wi hz fun h' O' sb=>h _ ?_
 have hd:∃ o,h'.get? dx=some o:=let ⟨o,_,_,e',_⟩:=O'.ns;⟨o,e'⟩
 refine I.write (x:=a) (e:=dx) (by rw[e];exact True.intro) (.inr ho) (fun b q hb z=>(sb.2 b hb).trans z) hd ?_;refine⟨by rw[jai O.ne];exact ho,?_,O.ne,O'.obj,_,O'.ns,fun g=>?_,fun g hg=>?_⟩
 ·have:=jh6 f y fs;omega
 ·show RelO ((putF f y fs).lookup g) (if g=f then some u else mA g);rw[jh7]
  by_cases q:g=f
  ·rw[if_pos q,if_pos q];exact ry
  ·rw[if_neg q,if_neg q];exact r g
 ·by_cases q:g=f
  ·rw[q];exact (jg0 f y fs).1
  ·refine (jg0 f y fs).2 g (wi g fun z=>hg ?_);show (if g=f then some u else mA g)=none;rw[if_neg q];exact z
def Inv.made(I:Inv X U Z H s):Inv X U Z (upd (upd H s.heap.objs.size (.own (s.heap.objs.size+1))) (s.heap.objs.size+1) (.ins C s.heap.objs.size []))
  { s with heap:=(s.heap.push W.emptyDict).push (W.instObj C s.heap.objs.size) }:=by
 have e1:(s.heap.push W.emptyDict).get? s.heap.objs.size=some W.emptyDict:=zbz s.heap rfl;have e2:((s.heap.push W.emptyDict).push (W.instObj C s.heap.objs.size)).get? (s.heap.objs.size+1)=some (W.instObj C s.heap.objs.size):=by
  have:=zbz (s.heap.push W.emptyDict) (o:=W.instObj C s.heap.objs.size) rfl
  rwa [Heap.size_push] at this
 have e3:(s.heap.push W.emptyDict).Ns s.heap.objs.size (fun _=>none):=⟨W.emptyDict,#[],_,e1,rfl,(fun e he=>absurd he (by simp)),fun _=>rfl⟩
 have I1:=I.laid (a:=s.heap.objs.size) (o:=.own (s.heap.objs.size+1)) (h':=s.heap.push W.emptyDict) (t':=s.toks) (fun b u q=>zaz _ q) (zac _) ⟨_,e1⟩;refine I1.laid (a:=s.heap.objs.size+1) (o:=.ins C s.heap.objs.size []) (t':=s.toks) (fun b u q=>zaz _ q) (Nat.le_of_eq (Heap.size_push _ _)) ?_;have ne:s.heap.objs.size≠s.heap.objs.size+1:=zcw (Nat.lt_succ_self _);refine⟨by rw[jai ne,jam],Nat.zero_le _,ne,e2,fun _=>none,(Heap.Ns1.of_empty e3).at fun o q=>zaz _ q,fun _=>True.intro,fun y hy=>absurd rfl hy⟩
def jtw{prog:Program}{w:World}{env:Env}{e:Expr}{f:Str}{pos:Pos}{s:Shared}{Q:qc}(hb:attributeBase e f env (eval e env)=eval e env)
  (h:wpAny (model prog w) A (eval e env) (fun o s₁=>wpAny (model prog w) A (getAttr o f true) Q E s₁) E s):wpAny (model prog w) A (eval (.Attribute e f pos) env) Q E s :=
 Attribute_any_ h (by rw[arm_eval_Attribute,hb])
end
inductive FldP(K:W.Frag)(f:Str)(Q:VK)(x:V)(H1:Hp):Prop
 | mk (a C dx:Addr) (fs:List (Str×V)) (v:V) (h1:x=.ref a) (h2:H1 a=some (.ins C dx fs)) (h3:Cls K C) (h4:NoAttr K C f) (h5:fs.lookup f=some v) (h6:Q v H1)
def tFld(K:W.Frag)(ta:TE)(f:Str):TE:=fun Z H Q=>ta Z H (FldP K f Q)
def sFld(K:W.Frag)(ta tv:TE)(f:Str):TS:=fun D Z H=>tv Z H fun y H1=>ta Z H1 fun x H2=>∃ a C dx fs,x=.ref a/\H2 a=some (.ins C dx fs)/\Cls K C/\NoAttr K C f/\fs.length<1000 /\
 D.nx Z (upd H2 a (.ins C dx (putF f y fs)))
section
variable {X:Cx}{o e value:Expr}{f:Str}{pos pos':Pos}{ta tv:TE}
def jGy(he:PE X e ta)(hb:attributeBase e f X.env (eval e X.env)=eval e X.env):PE X (.Attribute e f pos) (tFld X.K ta f):=by
 intro U s Z H Q I h;refine jtw hb (thn (he U s Z H _ I h) fun u s1 hzz=>?_);obtain⟨x,H1,I1,rx,a,C,dx,fs,v,ex,ea,c,n,l,q⟩:=hzz;subst ex;obtain rfl:u=Value.ref a:=rx;exact jsu I1 ea c n l fun u' s2 I2 ru=>⟨v,H1,I2,ru,q⟩
def jG9(ha:PE X o ta)(hv:PE X value tv)(hs:swapsWith value (some (.Attribute o f pos')) pos.line X.env=pure false):PS X (.Assign [.Attribute o f pos'] value pos) (sFld X.K ta tv f):=by
 intro U s Z H D I h;refine plainObj_wpAny_Assign_Attribute (thn (hv U s Z H _ I h) fun u s1 ⟨y,H1,I1,ry,q⟩=>thn (ha U s1 Z H1 _ I1 q) fun ov s2 hzz=>?_) hs;obtain⟨x,H2,I2,rx,a,C,dx,fs,ex,ea,c,n,l,q2⟩:=hzz;subst ex;obtain rfl:ov=Value.ref a:=rx;exact jtd I2 ea c n l ry fun s3 I3=>⟨Z,_,I3,q2⟩
end
section
variable {H:Hp}
inductive TyOf(K:W.Frag)(H:Hp):V->Value->Prop where
 | non:TyOf K H .non (.type "NoneType")
 | bl (x:Bool):TyOf K H (.bl x) (.type "bool")
 | int (i:Int):TyOf K H (.int i) (.type "int")
 | str (x:Str):TyOf K H (.str x) (.type "str")
 | lst {a:Addr} {xs:List V} (e:H a=some (.lst xs)):TyOf K H (.ref a) (.type "list")
 | frz {a:Addr} {o:Obj} {xs:List V} (e:H a=some (.frz o (.lst xs))):TyOf K H (.ref a) (.type "list")
 | tup {a:Addr} {xs:List V} (e:H a=some (.tup xs)):TyOf K H (.ref a) (.type "tuple")
 | dK {a:Addr} {kvs:List (Key×V)} (e:H a=some (.dK kvs)):TyOf K H (.ref a) (.type "dict")
 | dT {a:Addr} {kvs:List (List Key×V)} (e:H a=some (.dT kvs)):TyOf K H (.ref a) (.type "dict")
 | ins {a C dx:Addr} {fs:List (Str×V)} (e:H a=some (.ins C dx fs)) (cl:Cls K C) (ha:W.findIn K (.ref C) "__class__"=some (some (.builtin "object.__class__")))
   (hn:W.specialIn K (.builtin "object.__class__") "__get__"=some (some (.builtin "getset_descriptor.__get__"))) (htk:W.takesIn K (.builtin "object.__class__")=some true)
   (hm:W.mroIn K C (.type "object")=some true):TyOf K H (.ref a) (.ref C)
end
structure Room(k:Nat)(A:Around):Prop where
 hd:A.handled=none
 dp:A.depth+3*k+5<recursionLimit
 un:A.units+16*k+200<cLine
def Room.mono{j k:Nat}{A:Around}(r:Room k A)(h:j<=k):Room j A:=⟨r.hd,by have:=r.dp;omega,by have:=r.un;omega⟩
def Room.m{j k:Nat}{A:Around}(r:Room k A)(h:Nat.ble j k=true):Room j A:=r.mono (Nat.le_of_ble_eq_true h)
def Room.deeper{k:Nat}{A:Around}(r:Room (k+1) A)(env:Env):Room k (A.deeper env) :=
 ⟨r.hd,by have:=r.dp;show A.depth+1+3*k+5<_;omega,by have:=r.un;show A.units+3+16*k+200<_;omega⟩
def jsz{A:Around}{C:Addr}{us:List Value}{kw:List (Str×Value)}:(A.under (.builtin "type.__call__" ⟨.ref C::us,kw⟩)).depth=A.depth+1:=by
 first|rfl|simp[Around.under,Code.weight,Code.isCreation,Code.isGuard,Code.isCaller,Code.frames,Code.isFrame,guardIds]
def js0{A:Around}{C:Addr}{us:List Value}{kw:List (Str×Value)}:(A.under (.builtin "type.__call__" ⟨.ref C::us,kw⟩)).units=A.units+1:=by
 first|rfl|simp[Around.under,Code.cUnits,Code.frames,Code.isFrame]
def Room.make{k:Nat}{A:Around}(r:Room (k+1) A)(C:Addr)(us:List Value)(kw:List (Str×Value)):Room k (A.under (.builtin "type.__call__" ⟨.ref C::us,kw⟩)) :=
 ⟨r.hd,by have:=r.dp;rw[jsz];omega,by have:=r.un;rw[js0];omega⟩
def Room.depth{k:Nat}{A:Around}(r:Room k A):A.depth<recursionLimit:=by have:=r.dp;omega
def Room.units{k:Nat}{A:Around}(r:Room k A):A.units+64<cLine:=by have:=r.un;omega
def tNil:TA:=fun _ H Q=>Q [] H
def jJ2(ta:TE)(tr:TA):TA:=fun Z H Q=>ta Z H fun x H1=>tr Z H1 fun xs H2=>Q (x::xs) H2
section
variable {X:Cx}{e:Expr}{es:List Expr}{te:TE}{t:TA}{pos:Pos}
def jml:PA X [] tNil:=fun _ _ _ _ H Q I h=>Calls.spliced_nil ⟨[],H,I,.nil,h⟩
def jgc(ha:PE X e te)(hr:PA X es t)(hs:zsE e es X.env:=by rfl):PA X (e::es) (jJ2 te t):=by
 intro pos U s Z H Q I h;rw[hs];show wpAny _ _ (spliced ((false,eval e X.env)::backTo pos (starEach es X.env))) _ _ s;refine Calls.spliced_cons (thn (ha U s Z H _ I h) fun u s1 hzz=>?_);obtain⟨x,H1,I1,r1,q1⟩:=hzz;exact thn (hr pos U s1 Z H1 _ I1 q1) fun us s2 ⟨xs,H2,I2,r2,q2⟩=>⟨x::xs,H2,I2,.cons r1 r2,q2⟩
def tTup(t:TA):TE:=fun Z H Q=>t Z H fun xs H1=>xs.length<=sizeLine/\∀ p,H1 p=none->Q (.ref p) (upd H1 p (.tup xs))
def tLst(t:TA):TE:=fun Z H Q=>t Z H fun xs H1=>xs.length<=sizeLine/\∀ p,H1 p=none->Q (.ref p) (upd H1 p (.lst xs))
def jAz{x1}(h:PA X es t):PE X (.Tuple es x1 pos) (tTup t):=by
 intro U s Z H Q I hq;refine wpAny_Tuple_spliced (thn (h pos U s Z H _ I hq) fun us s1 ⟨xs,H1,I1,r,z,q⟩=>⟨by rw[<- r.length];exact z,?_⟩);have hf:H1 s1.heap.objs.size=none:=I1.hok.fresh (zac _);refine⟨.ref s1.heap.objs.size,upd H1 s1.heap.objs.size (.tup xs),I1.laid (t':=s1.toks) (fun b u e=>zaz _ e) (zac _) ?_,rfl,q _ hf⟩;exact⟨z,us,r,⟨_,zbz _ rfl,rfl,_,rfl⟩⟩
def jr3(h:PA X es t):PE X (.List es pos) (tLst t):=by
 intro U s Z H Q I hq;refine wpAny_List_spliced (thn (h pos U s Z H _ I hq) fun us s1 ⟨xs,H1,I1,r,z,q⟩=>⟨by rw[<- r.length];exact z,?_⟩);have hf:H1 s1.heap.objs.size=none:=I1.hok.fresh (zac _);refine⟨.ref s1.heap.objs.size,upd H1 s1.heap.objs.size (.lst xs),I1.laid (t':=s1.toks) (fun b u e=>zaz _ e) (zac _) ?_,rfl,q _ hf⟩;exact⟨z,us,0,r,zbz _ rfl⟩
end
abbrev Sp:=List V->Hp->VK->XK->Prop
abbrev CXT:=List Env->Hp->Shared->XK->qc
structure Env0(P:Program)(w:World)(K:W.Frag)(mg:qa)(base:Heap)(A:Around)(outer:List Env)(s:Shared)(H:Hp):Prop where
 frames:A.frames=some outer
 mod:Mod K mg base
 bs:∀ b o,base.get? b=some o->s.heap.get? b=some o/\H b=none
 bsz:base.objs.size<=s.heap.objs.size
 funs:s.heap.FunFrames base outer
 frf:∀ b∈frs outer,H b=none
 hok:HOk P w H s.heap
 bare:AllBare s.gens
def CE(outer:List Env)(P:Program)(w:World)(H:Hp)(s:Shared)(Q:VK)(u:Value)(s':Shared):Prop :=
 ∃ v H',s'.os=s.os/\AllBare s'.gens/\Un (frs outer) [] H H' s.heap s'.heap/\HOk P w H' s'.heap/\RelV v u/\Q v H'
def CR(CX:CXT)(outer:List Env)(P:Program)(w:World)(H:Hp)(s:Shared)(Q:VK)(E:XK)(r:Result)(s':Shared):Prop :=
 match r with
 | .ok (.ret u)=>CE outer P w H s Q u s'
 | .ok _=>False
 | .error e=>CX outer H s E e s'
structure FnOk(P:Program)(w:World)(K:W.Frag)(mg:qa)(base:Heap)(CX:CXT)(k:Nat)(f:Addr)(fd:FuncData)(ps:List Str)(sp:Sp):Prop where
 len:∀ vs H Q E,sp vs H Q E->vs.length=ps.length
 run:∀ (A:Around) (outer:List Env) (s:Shared) (H:Hp) (args:Args) (us:List Value) (vs:List V) (Q:VK) (E:XK),Room k A->Env0 P w K mg base A outer s H->BindsTo s fd args (ps.zip us)->Vals vs us->sp vs H Q E ->
  codeAny (model P w) A (.call (.ref f) args) (CR CX outer P w H s Q E) s
def FnOk.imp{P:Program}{w:World}{K:W.Frag}{mg:qa}{base:Heap}{CX:CXT}{k:Nat}{f:Addr}{fd:FuncData}{ps:List Str}{sp sp':Sp}(F:FnOk P w K mg base CX k f fd ps sp)
  (h:∀ vs H Q E,sp' vs H Q E->sp vs H Q E):FnOk P w K mg base CX k f fd ps sp' :=
 ⟨fun vs H Q E q=>F.len vs H Q E (h _ _ _ _ q),fun A outer s H args us vs Q E hr he hb hv hs=>F.run A outer s H args us vs Q E hr he hb hv (h _ _ _ _ hs)⟩
def Env0.make{P:Program}{w:World}{K:W.Frag}{mg:qa}{base:Heap}{A:Around}{outer:List Env}{s:Shared}{H:Hp}(e:Env0 P w K mg base A outer s H)(C:Addr)(us:List Value)(kw:List (Str×Value)) :
  Env0 P w K mg base (A.under (.builtin "type.__call__" ⟨.ref C::us,kw⟩)) outer s H:=⟨by first|exact e.frames|(simpa[Around.under,Code.envs,Code.isFrame,pushEnvs] using e.frames),e.mod,e.bs,e.bsz,e.funs,e.frf,e.hok,e.bare⟩
section
variable {X:Cx}{U:qb}{Z:St}{H:Hp}{s s':Shared}
def Inv.env0(I:Inv X U Z H s):Env0 X.prog X.w X.K X.mg X.base X.A X.stack s H :=
 ⟨I.ok.frames,I.ok.mod,I.bs,zdy I.ok.bsz I.sz,I.stack,I.stkFree,I.hok,I.bare⟩
def Inv.after{Q:VK}{u:Value}(I:Inv X U Z H s)(h:CE X.stack X.prog X.w H s Q u s'):EP X U Z Q u s':=by
 obtain⟨v,H',os,bare,un,hok,r,q⟩:=h;obtain⟨hh,g,d,t,os'⟩:=s';obtain rfl:os'=s.os:=os;exact⟨v,H',I.call (h':=hh) (g':=g) (d':=d) (t':=t) (ch:=[]) un hok bare (fun b z=>absurd z (by simp)),r,q⟩
end
def jzv(sp:Sp)(dvs:List V)(E:XK)(t:TA):TE:=fun Z H Q=>t Z H fun vs H1=>sp (vs++dvs) H1 Q E
def jEh(C:Addr)(m:Str)(sp:Sp)(dvs:List V)(E:XK)(ta:TE)(t:TA):TE:=fun Z H Q=>ta Z H fun x H1=>∃ a dx fs,x=.ref a/\H1 a=some (.ins C dx fs)/\fs.lookup m=none /\
 t Z H1 fun vs H2=>sp (x::(vs++dvs)) H2 Q E
def jJ4(C:Addr)(sp:Sp)(dvs:List V)(E:XK)(t:TA):TE:=fun Z H Q=>t Z H fun vs H1=>∀ x dx,H1 x=none->H1 dx=none->dx≠x ->
 sp (.ref x::(vs++dvs)) (upd (upd H1 dx (.own x)) x (.ins C dx [])) (fun v H2=>v=.non/\Q (.ref x) H2) E
def Binds(K:W.Frag)(fd:FuncData)(ps:List Str)(ds:List Value):Prop :=
 ∀ (s:Shared) (us:List Value),K.In s.heap->(us++ds).length=ps.length->BindsTo s fd ⟨us,[]⟩ (ps.zip (us++ds))
def Binds.all{K:W.Frag}{fd:FuncData}{ps:List Str}(h:∀ us:List Value,us.length=ps.length->bindArgs fd ⟨us,[]⟩=pure (ps.zip us)):Binds K fd ps []:=fun s us _ hl=>by
 rw[List.append_nil] at hl |-
 exact .of_eq (h us hl)
def jjl(CX:CXT)(X:Cx)(E:XK):Prop:=∀ (U:qb) (Z:St) (H:Hp) (s:Shared) (e:Value) (s':Shared),Inv X U Z H s->CX X.stack H s E e s'->X.xe e s'
section
variable {X:Cx}{CX:CXT}{k:Nat}{f C:Addr}{fd:FuncData}{ps:List Str}{sp:Sp}{dvs:List V}{ds:List Value}{E:XK}{x m:Str}{p pos apos:Pos}{e o:Expr}{es:List Expr}{ta:TE}{t:TA}
def jwu{U:qb}{Z:St}{H:Hp}{s:Shared}{Q:VK}{us:List Value}{vs:List V}(F:FnOk X.prog X.w X.K X.mg X.base CX k f fd ps sp)(hr:Room k X.A)(hb:Binds X.K fd ps ds)(hd:Vals dvs ds)(hx:jjl CX X E)
  (I:Inv X U Z H s) (r:Vals vs us) (h:sp (vs++dvs) H Q E):wpAny (model X.prog X.w) X.A (call (.ref f) us) (EP X U Z Q) X.xe s:=by
 have r2:Vals (vs++dvs) (us++ds):=r.append hd;have hl:(us++ds).length=ps.length:=by rw[<- r2.length];exact F.len _ _ _ _ h
 refine wpAny_call (codeAny_mono (F.run X.A X.stack s H ⟨us,[]⟩ (us++ds) (vs++dvs) Q E hr I.env0 (hb s us I.kIn hl) r2 h) fun r s' hq=>?_)
 cases r with
 | error e=>exact hx U Z H s e s' I hq
 | ok fl =>
  cases fl with
  | ret u=>exact I.after hq
  | next=>exact False.elim hq
  | brk=>exact False.elim hq
  | cont=>exact False.elim hq
def jnx(F:FnOk X.prog X.w X.K X.mg X.base CX k f fd ps sp)(hr:Room k X.A)(hg:Gl X x)(hm:X.mg x=some (.ref f))(hk:W.keepIn X.K (.ref f)=true)(hb:Binds X.K fd ps ds)(hd:Vals dvs ds)(hx:jjl CX X E)
  (ha:PA X (e::es) t) (hdb:(x == ("__debug__":Str))=false:=by decide) (he:zsE e es X.env:=by rfl) (hpl:zbT pos es X.env:=by rfl) :
  PE X (.Call (.Name x p) (e::es) [] pos) (jzv sp dvs E t):=by
 intro U s Z H Q I h;refine wpAny_Call_Name_kw (jjc I hg hm ?_ hdb);refine W.callWith_K (h₀:=X.base) I.ok.mod.kin hk (thn (ha pos U s Z H _ I h) fun us s1 ⟨vs,H1,I1,r,q⟩=>⟨I1.kIn,?_⟩) he hpl;exact jwu F hr hb hd hx I1 r q
def jDo{pl:Sem Bool}(he:PE X o ta)(c:Cls X.K C)(hm:Meth X.K C m f)(F:FnOk X.prog X.w X.K X.mg X.base CX k f fd ps sp)(hr:Room k X.A)(hb:Binds X.K fd ps ds)(hd:Vals dvs ds)(hx:jjl CX X E)(ha:PA X (e::es) t)
  (hst:zsE e es X.env:=by rfl) (hpl:zbT pos es X.env:=by rfl)
  (ht:eval (.Call (.Attribute o m apos) (e::es) [] pos) X.env=(do
   let ov <- eval o X.env
   standAt apos.atName
   let (f,first) <- holding [ov] (getMethod ov m pl)
   callWith pos f first (backTo pos (starEach (e::es) X.env)) (backToKw pos (keywordEach [] X.env))):=by rfl) :
  PE X (.Call (.Attribute o m apos) (e::es) [] pos) (jEh C m sp dvs E ta t):=by
 intro U s Z H Q I h;refine W.methodCall_KW (pl:=pl) (thn (he U s Z H _ I h) fun u s1 hzz=>?_) ht;obtain⟨x,H1,I1,rx,a,dx,fs,ex,ea,l,q⟩:=hzz;subst ex;obtain rfl:u=Value.ref a:=rx;refine jmd I1 ea c hm l ?_;refine W.callWith_K (first:=[.ref a]) (h₀:=X.base) I.ok.mod.kin hm.kp (thn (ha pos U s1 Z H1 _ I1 q) fun us s2 ⟨vs,H2,I2,r,q2⟩=>⟨I2.kIn,?_⟩) hst hpl;exact jwu (us:=.ref a::us) (vs:=.ref a::vs) F hr hb hd hx I2 (.cons rfl r) q2
def jy3{pl:Sem Bool}(he:PE X o ta)(c:Cls X.K C)(hm:Meth X.K C m f)(F:FnOk X.prog X.w X.K X.mg X.base CX k f fd ps sp)(hr:Room k X.A)(hb:Binds X.K fd ps ds)(hd:Vals dvs ds)(hx:jjl CX X E)
  (ht:eval (.Call (.Attribute o m apos) [] [] pos) X.env=(do
   let ov <- eval o X.env
   standAt apos.atName
   let (f,first) <- holding [ov] (getMethod ov m pl)
   callWith pos f first (backTo pos (starEach [] X.env)) (backToKw pos (keywordEach [] X.env))):=by rfl) :
  PE X (.Call (.Attribute o m apos) [] [] pos) (jEh C m sp dvs E ta tNil):=by
 intro U s Z H Q I h;refine W.methodCall_KW (pl:=pl) (thn (he U s Z H _ I h) fun u s1 hzz=>?_) ht;obtain⟨x,H1,I1,rx,a,dx,fs,ex,ea,l,q⟩:=hzz;subst ex;obtain rfl:u=Value.ref a:=rx;refine jmd I1 ea c hm l ?_;exact W.callWith_K0 (first:=[.ref a]) I1.kIn hm.kp (jwu (us:=[.ref a]) (vs:=[.ref a]) F hr hb hd hx I1 (.cons rfl .nil) q)
structure Mk(K:W.Frag)(C f:Addr):Prop where
 makes:W.makesIn K C=true
 init:W.findIn K (.ref C) "__init__"=some (some (.ref f))
 fn:W.isFn K (.ref f)=true
 kp:W.keepIn K (.ref C)=true
def jzj{U:qb}{Z:St}{H:Hp}{s:Shared}{Q:VK}{us:List Value}{vs:List V}(M:Mk X.K C f)(F:FnOk X.prog X.w X.K X.mg X.base CX k f fd ps sp)(hr:Room (k+1) X.A)(hb:Binds X.K fd ps ds)(hd:Vals dvs ds)
  (hx:jjl CX X E) (I:Inv X U Z H s) (r:Vals vs us)
  (h:∀ x dx,H x=none->H dx=none->dx≠x->sp (.ref x::(vs++dvs)) (upd (upd H dx (.own x)) x (.ins C dx [])) (fun v H2=>v=.non/\Q (.ref x) H2) E) :
  wpAny (model X.prog X.w) X.A (call (.ref C) us) (EP X U Z Q) X.xe s:=by
 have hq:=h (s.heap.objs.size+1) s.heap.objs.size (I.hok.fresh (Nat.le_succ _)) (I.hok.fresh (zac _)) (zcw (Nat.lt_succ_self _));have I2:=Inv.made (C:=C) I;have r2:Vals (V.ref (s.heap.objs.size+1)::(vs++dvs)) (Value.ref (s.heap.objs.size+1)::(us++ds)):=.cons rfl (r.append hd);have hl:(Value.ref (s.heap.objs.size+1)::us++ds).length=ps.length:=by
  have e:=r2.length;rw[F.len _ _ _ _ hq] at e;exact e.symm
 refine wpAny_call (jyn (f:=f) I.kIn M.makes M.init (beq_iff_eq.mp M.fn) (codeAny_mono (F.run _ X.stack _ _ ⟨Value.ref (s.heap.objs.size+1)::us,[]⟩ (Value.ref (s.heap.objs.size+1)::(us++ds)) _ _ E (hr.make C us [])
  (I2.env0.make C us []) (hb _ (Value.ref (s.heap.objs.size+1)::us) I2.kIn hl) r2 hq) fun r s' hq'=>?_))
 cases r with
 | error e=>exact hx U Z _ _ e s' I2 hq'
 | ok fl =>
  cases fl with
  | ret u =>
   obtain⟨v,H',I3,rv,ev,q3⟩:=I2.after hq';subst ev;exact⟨rv,⟨V.ref (s.heap.objs.size+1),H',I3,rfl,q3⟩⟩
  | next=>exact False.elim hq'
  | brk=>exact False.elim hq'
  | cont=>exact False.elim hq'
def jDn(M:Mk X.K C f)(F:FnOk X.prog X.w X.K X.mg X.base CX k f fd ps sp)(hr:Room (k+1) X.A)(hg:Gl X x)(hm:X.mg x=some (.ref C))(hb:Binds X.K fd ps ds)(hd:Vals dvs ds)(hx:jjl CX X E)
  (ha:PA X (e::es) t) (hdb:(x == ("__debug__":Str))=false:=by decide) (he:zsE e es X.env:=by rfl) (hpl:zbT pos es X.env:=by rfl) :
  PE X (.Call (.Name x p) (e::es) [] pos) (jJ4 C sp dvs E t):=by
 intro U s Z H Q I h;refine wpAny_Call_Name_kw (jjc I hg hm ?_ hdb);refine W.callWith_K (h₀:=X.base) I.ok.mod.kin M.kp (thn (ha pos U s Z H _ I h) fun us s1 ⟨vs,H1,I1,r,q⟩=>⟨I1.kIn,?_⟩) he hpl;exact jzj M F hr hb hd hx I1 r q
end
section
variable {fd:FuncData}{ps ks:List Str}
structure KBinds(K:W.Frag)(fd:FuncData)(ps ks:List Str)(g:List Value->List Value->List Value)(gV:List V->List V->List V):Prop where
 to:∀ (s:Shared) (us ws:List Value),K.In s.heap->(g us ws).length=ps.length->BindsTo s fd ⟨us,ks.zip ws⟩ (ps.zip (g us ws))
 rel:∀ {vs:List V} {us:List Value} {zs:List V} {ws:List Value},Vals vs us->Vals zs ws->Vals (gV vs zs) (g us ws)
end
structure FnScope(N P:List Str)(sc:Scope):Prop where
 kind:sc.kind=.function
 co:sc.isCoroutine=false
 gen:sc.isGenerator=false
 nd:N.Nodup
 pre:N.take P.length=P
 par:∀ x∈P,sc.names.lookup x=some .local\/sc.names.lookup x=some .cell
 nofree:∀ y∈sc.names,y.2≠.free
def FnScope.m{N P:List Str}{c:Scope}(a:c.kind=.function)(b:c.isCoroutine=false)(d:c.isGenerator=false)(e:N.take P.length=P)(h:N.Nodup/\(∀ x∈P,c.names.lookup x=some .local\/c.names.lookup x=some .cell)/\∀ y∈c.names,y.2≠.free):FnScope N P c:=⟨a,b,d,h.1,e,h.2.1,h.2.2⟩
theorem joi{kindOf:Str->Option NameKind}{x:Str}:∀ {binds:List (Str×Value)} {m:qa},(∀ v,(x,v)∉binds)->bindL kindOf binds m x=m x
 | [],_,_=>rfl
 | (n,v)::r,m,h=>by
  unfold bindL;rw[joi fun w hw=>h w (zaw _ hw)]
  split
  ·have:x≠n:=by rintro rfl;exact h v zaa
   simp[this]
  ·rfl
theorem jog{kindOf:Str->Option NameKind}{x:Str}:∀ {binds:List (Str×Value)} {m:qa},(∀ v,(x,v)∉binds)->bindC kindOf binds m x=m x
 | [],_,_=>rfl
 | (n,v)::r,m,h=>by
  unfold bindC;rw[jog fun w hw=>h w (zaw _ hw)]
  split
  ·rfl
  ·have:x≠n:=by rintro rfl;exact h v zaa
   simp[this]
theorem joh{kindOf:Str->Option NameKind}{x:Str}{v:Value}:∀ {P:List Str} {vs:List Value} {i:Nat} {m:qa},P.Nodup->P[i]? = some x->vs[i]? = some v->kindOf x=some .local ->
  bindL kindOf (P.zip vs) m x=some v
 | [],_,_,_,_,h,_,_=>by simp at h
 | _::_,[],_,_,_,_,h,_=>by simp at h
 | p::P,w::vs,0,m,nd,h1,h2,hk=>by
  simp at h1 h2;subst h1;subst h2
  show bindL kindOf ((p,w)::P.zip vs) m p=_;unfold bindL;rw[joi fun v hv=>(List.nodup_cons.mp nd).1 (List.of_mem_zip hv).1,if_pos hk];simp
 | p::P,w::vs,i+1,m,nd,h1,h2,hk=>by
  show bindL kindOf ((p,w)::P.zip vs) m x=_;unfold bindL;exact joh (i:=i) (List.nodup_cons.mp nd).2 (by simpa using h1) (by simpa using h2) hk
theorem jof{kindOf:Str->Option NameKind}{x:Str}{v:Value}:∀ {P:List Str} {vs:List Value} {i:Nat} {m:qa},P.Nodup->P[i]? = some x->vs[i]? = some v->kindOf x≠some .local ->
  bindC kindOf (P.zip vs) m x=some v
 | [],_,_,_,_,h,_,_=>by simp at h
 | _::_,[],_,_,_,_,h,_=>by simp at h
 | p::P,w::vs,0,m,nd,h1,h2,hk=>by
  simp at h1 h2;subst h1;subst h2
  show bindC kindOf ((p,w)::P.zip vs) m p=_;unfold bindC;rw[jog fun v hv=>(List.nodup_cons.mp nd).1 (List.of_mem_zip hv).1,if_neg hk];simp
 | p::P,w::vs,i+1,m,nd,h1,h2,hk=>by
  show bindC kindOf ((p,w)::P.zip vs) m x=_;unfold bindC;exact jof (i:=i) (List.nodup_cons.mp nd).2 (by simpa using h1) (by simpa using h2) hk
def start(N:List Str)(vs:List V):St:=vs.map some++List.replicate (N.length-vs.length) none
def cxOf(CX:CXT)(P:Program)(w:World)(K:W.Frag)(mg:qa)(base:Heap)(N:List Str)(qual:Str)(scope:Scope)(f:Addr)(cd:Value)(A:Around)(outer:List Env)(s:Shared)(H:Hp)(E:XK):Cx where
 prog:=P
 w:=w
 K:=K
 mg:=mg
 base:=base
 A:=A.deeper (envOfC qual scope s.heap.objs.size f cd)
 N:=N
 s₀:=s
 Hz:=H
 env:=envOfC qual scope s.heap.objs.size f cd
 outer:=outer
 stack:=envOfC qual scope s.heap.objs.size f cd::outer
 ex:=[]
 calm:=true
 fn:=fun _=>true
 pn:=[]
 xe:=fun e s'=>wpAny (model P w) (A.deeper (envOfC qual scope s.heap.objs.size f cd)) (leaving (envOfC qual scope s.heap.objs.size f cd) e) (fun _ s''=>CX outer H s E e s'') (fun e' s''=>CX outer H s E e' s'') s'
def jrc{sc:Scope}{n:Nat}{x:Str}(h:sc.names.lookup x=some .cell):∃ c,(cellsFrom n sc.names []).lookup x=some c:=by
 have q:=W.cellsFrom_some sc.names n [] (.inl h);exact Option.isSome_iff_exists.mp q
def jva{CX:CXT}{P:Program}{w:World}{K:W.Frag}{mg:qa}{base:Heap}{N ps:List Str}{qual:Str}{scope:Scope}{f:Addr}{cd:Value}{A:Around}{outer:List Env}{s s1:Shared}{H:Hp}{E:XK}{us:List Value}{vs:List V}
  (S:FnScope N ps scope) (hd:A.handled=none) (e0:Env0 P w K mg base A outer s H) (hl:vs.length=ps.length) (r:Vals vs us)
  (x:InCallC s s.heap.objs.size (bindL (envOfC qual scope s.heap.objs.size f cd).kindOf (ps.zip us) fun _=>none) (cellsFrom (s.heap.objs.size+1) scope.names []) (bindC (envOfC qual scope s.heap.objs.size f cd).kindOf (ps.zip us) fun _=>none) s1) :
  Inv (cxOf CX P w K mg base N qual scope f cd A outer s H E) [] (start N vs) H s1:=by
 have hpl:ps.length<=N.length:=by have:=congrArg List.length S.pre;rw[List.length_take] at this;omega
 obtain⟨h1,tk,rfl,hk⟩:=x.done;have noA:∀ b:Addr,b∉(cxOf CX P w K mg base N qual scope f cd A outer s H E).ex:=fun b z=>absurd (show b∈([]:List Addr) from z) (by simp)
 refine⟨⟨e0.mod,S.kind,rfl,rfl,zac _,fun y z c h1 h2=>?_,fun y hy=>?_,fun y c _ h=>?_,fun _=>hd,Around.frames_deeper e0.frames,.inr ⟨rfl,rfl⟩,fun b z=>absurd z (noA b),e0.bs,e0.bsz,fun b _ _=>noA b,fun b z=>absurd z (noA b),e0.funs,e0.frf⟩,
  rfl,e0.bare,Un.kept hk,⟨_,x.toInCall.ns,fun i y v h1 h2 h3=>?_⟩,fun y c h=>⟨_,x.cell y c h⟩,e0.hok.fresh (zac _),fun y c h=>?_,fun p hp=>absurd (show p∈([]:qb) from hp) (by simp),e0.hok.kept hk,?_⟩
 ·exact name_of_addr x.apart (PySem.mem_of_lookup h1) (PySem.mem_of_lookup h2)
 ·have hy:scope.names.lookup y=some .cell\/scope.names.lookup y=some .free:=hy;rcases hy with hy|hy
  ·exact jrc hy
  ·exact absurd rfl (S.nofree _ (PySem.mem_of_lookup hy))
 ·exact Nat.le_of_lt (x.above y c (PySem.mem_of_lookup h))
 ·have hi:i<vs.length:=by
   unfold start at h2
   by_cases hi:i<vs.length
   ·exact hi
   ·rw[List.getElem?_append_right (by simpa using hi)] at h2;rw[List.getElem?_replicate] at h2
    split at h2<;>cases h2
  have ha:vs[i]? = some v:=by
   unfold start at h2;rw[List.getElem?_append_left (by simpa using hi),zba] at h2
   cases e:vs[i]? with
   | none=>rw[e] at h2;cases h2
   | some a=>rw[e] at h2;cases h2;rfl
  obtain⟨u,hu,rv⟩:=r.get ha;have hp:ps[i]? = some y:=by
   rw[<- S.pre,List.getElem?_take_of_lt (by omega)];exact h1
  have ndP:ps.Nodup:=by rw[<- S.pre];exact S.nd.sublist (List.take_sublist _ _)
  refine⟨u,rv,?_⟩;rcases S.par y (List.mem_of_getElem? hp) with k|k
  ·exact .inl ⟨k,joh ndP hp hu k⟩
  ·obtain⟨c,e⟩:=jrc (n:=s.heap.objs.size+1) k;refine .inr ⟨.inl k,c,e,?_⟩;have q:=x.cell y c e;rw[jof ndP hp hu (by show scope.names.lookup y≠_;rw[k];decide)] at q;exact q
 ·exact e0.hok.fresh (Nat.le_of_lt (x.above y c (PySem.mem_of_lookup h)))
 ·unfold start;show _=N.length;rw[zcc,zav,List.length_replicate];omega
def jFt{CX:CXT}{P:Program}{w:World}{K:W.Frag}{mg:qa}{base:Heap}{k:Nat}{f:Addr}{name qual:Str}{params:Arguments}{body:List Stmt}{scope:Scope}{dV kV doc pm cdv ct oc:Value}{an od:Option Addr}
  {osl:qe} {N ps:List Str} {sp:Sp} (lk:K.lookup f=some ⟨oc,od,.func (W.fnOf name qual params body scope dV kV doc pm an cdv ct),osl⟩) (hcd:W.codeIn K cdv qual=true) (S:FnScope N ps scope)
  (len:∀ vs H Q E,sp vs H Q E->vs.length=ps.length)
  (hbody:∀ (A:Around) (outer:List Env) (s:Shared) (H:Hp) (vs:List V) (Q:VK) (E:XK),Room k (A.deeper (envOfC qual scope s.heap.objs.size f cdv))->sp vs H Q E ->
   ∃ t,PSs (cxOf CX P w K mg base N qual scope f cdv A outer s H E) body t/\t { nx:=fun _ H'=>Q .non H',rt:=Q } (start N vs) H) :
  FnOk P w K mg base CX (k+1) f (W.fnOf name qual params body scope dV kV doc pm an cdv ct) ps sp:=by
 refine⟨len,fun A outer s H args us vs Q E hr e0 hb r hsp=>?_⟩;have hl:=len _ _ _ _ hsp;have KX:K.In s.heap:=e0.mod.kin.keeps fun b o e=>(e0.bs b o e).1
 have lim:s.heap.NoLimit:=e0.mod.nolimit.keeps fun b o e=>(e0.bs b o e).1
 have hkind:∀ y∈ps.zip us,scope.names.lookup y.1=some .local\/(scope.names.lookup y.1=some .cell/\((cellsFrom (s.heap.objs.size+1) scope.names []).lookup y.1).isSome=true):=fun ⟨n,v⟩ hy=>by
  rcases S.par n (List.of_mem_zip hy).1 with q|q
  ·exact .inl q
  ·exact .inr ⟨q,W.cellsFrom_some _ _ _ (.inl q)⟩
 refine codeAny_call_function hr.depth (KX _ _ lk) rfl S.co S.gen rfl (W.codeRec_of KX hcd) (hb _ _ _ _ ?_);refine wpAny_newFunctionEnv_cells S.kind hkind fun env he s1 x=>?_
 subst he;refine⟨lim.keeps x.toInCall.keep,codeAny_func ?_⟩;obtain⟨t,ht,hq⟩:=hbody A outer s H vs Q E (hr.deeper _) hsp;have I:Inv (cxOf CX P w K mg base N qual scope f cdv A outer s H E) [] (start N vs) H s1:=jva S hr.hd e0 hl r x;refine wpAny_mono (ht [] s1 (start N vs) H _ I hq) (fun fl s' hs=>?_) fun e s' hs=>hs
 have fin:∀ {Z':St} {H':Hp} {v:V} {u:Value},Inv (cxOf CX P w K mg base N qual scope f cdv A outer s H E) [] Z' H' s'->RelV v u->Q v H'->CE outer P w H s Q u s' :=
  fun {Z' H' v u} Jq rv q=>⟨v,H',Jq.os,Jq.bare,Jq.base,Jq.hok,rv,q⟩
 cases fl with
 | ret u =>
  obtain⟨v,Z',H',Jq,rv,q⟩:=hs;exact fin Jq rv q
 | next =>
  obtain⟨Z',H',Jq,q⟩:=hs;exact fin (v:=V.non) (u:=Value.none) Jq rfl q
 | brk =>
  obtain⟨_,_,_,q⟩:=hs;exact False.elim q
 | cont =>
  obtain⟨_,_,_,q⟩:=hs;exact False.elim q
section
variable {X:Cx}{x:Str}{p pos:Pos}{e:Expr}{es:List Expr}{t:TA}{id T:String}{r:List V->Hp->VK->Prop}
def tCB(r:List V->Hp->VK->Prop)(t:TA):TE:=fun Z H Q=>t Z H fun vs H1=>r vs H1 Q
def jny(hc:CallR X (.builtin id) r)(hg:Gl X x)(hm:X.mg x=none)(hv:bootBuiltins x=some (.builtin id))(ha:PA X (e::es) t)(hn:x≠"__name__":=by decide)(hdb:(x == ("__debug__":Str))=false:=by decide)
  (he:zsE e es X.env:=by rfl) (hpl:zbT pos es X.env:=by rfl):PE X (.Call (.Name x p) (e::es) [] pos) (tCB r t):=by
 intro U s Z H Q I h;refine wpAny_Call_Name_kw (jmg I hg hm hv ?_ hn hdb);exact PyProof.Rows.callWith_builtin1 (thn (ha pos U s Z H _ I h) fun us s1 ⟨vs,H1,I1,r1,q1⟩=>hc U s1 Z H1 vs us Q I1 r1 q1) he hpl
def jwg(hc:CallR X (.type T) r)(hg:Gl X x)(hm:X.mg x=none)(hv:bootBuiltins x=some (.type T))(ha:PA X (e::es) t)(hn:x≠"__name__":=by decide)(hdb:(x == ("__debug__":Str))=false:=by decide)
  (he:zsE e es X.env:=by rfl) (hpl:zbT pos es X.env:=by rfl):PE X (.Call (.Name x p) (e::es) [] pos) (tCB r t):=by
 intro U s Z H Q I h;refine wpAny_Call_Name_kw (jmg I hg hm hv ?_ hn hdb);exact PyProof.Rows.callWith_type1 (thn (ha pos U s Z H _ I h) fun us s1 ⟨vs,H1,I1,r1,q1⟩=>hc U s1 Z H1 vs us Q I1 r1 q1) he hpl
end
end L2
namespace HT
open PySem PyProof.Rows
section
open PySem.SeqAt
open PySem.AutoSeq1 (wpAny_loadPart')
open PySem.MeetsSeq PySem.MeetsSeq2 PySem.MeetsSeq3
end
section
variable {prog:Program}{w:World}{A:Around}{E:qc}{s:Shared}
def cat_tup{t b:Addr}{vs ws:List Value}{Q:qc}(ht:IsTup s.heap t vs.toArray)(hb:IsTup s.heap b ws.toArray)(hv:vs≠[])
  (h1:ws=[]->Q (.ref t) s) (h2:ws≠[]->Q (.ref s.heap.objs.size) { s with heap:=s.heap.push { cls:=.type "tuple",data:=.seq (vs++ws).toArray } })
  (hsz:vs.length+ws.length<=sizeLine):wpAny (model prog w) A (binaryOp .Add (.ref t) (.ref b)) Q E s:=by
 obtain⟨⟨cls,dd,data,sl⟩,ho,hc,n,hd⟩:=id ht;obtain⟨⟨cls2,dd2,data2,sl2⟩,ho2,hc2,n2,hd2⟩:=id hb;simp only at hc hd hc2 hd2;subst hc hd hc2 hd2;have e:vs.toArray++ws.toArray=(vs++ws).toArray:=by simp
 by_cases hw:ws=[]
 ·exact concat_meets ⟨_,ho,rfl⟩ ⟨_,ho2,rfl⟩ noFill_tuple_add seq_tuple_add PySem.F.slot_tuple_add PySem.F.entry_tuple_add (PySem.F.args_tuple_add_2 _ _)
   (tuple_addW1 t b vs.toArray ws.toArray n n2 dd dd2 sl sl2 (by simpa using hv) (by simp[hw])) ⟨ho,ho2,h1 hw⟩
 ·refine concat_meets ⟨_,ho,rfl⟩ ⟨_,ho2,rfl⟩ noFill_tuple_add seq_tuple_add PySem.F.slot_tuple_add PySem.F.entry_tuple_add (PySem.F.args_tuple_add_2 _ _)
   (tuple_addW2 t b vs.toArray ws.toArray n n2 dd dd2 sl sl2 (by simpa using hv) (by simpa using hw) (by rw[zbx,zbx];exact hsz)) ⟨ho,ho2,?_⟩
  rw[e];exact h2 hw
def sIx(n d:Nat):Option Int->Nat
 | none=>d
 | some v=>if v<0 then (v+(n:Int)).toNat else min v.toNat n
def jHi(n d:Nat)(hd:d<=n)(o:Option Int):sIx n d o<=n:=by
 cases o with
 | none=>exact hd
 | some v =>
  show (if v<0 then (v+(n:Int)).toNat else min v.toNat n)<=n
  by_cases hv:v<0
  ·rw[if_pos hv];omega
  ·rw[if_neg hv];exact Nat.min_le_right _ _
def jt6(v:Int)(n d:Nat):(if v<0 then max (v+(n:Int)) 0 else min v (n:Int))=((sIx n d (some v):Nat):Int):=by
 show (if v<0 then max (v+(n:Int)) 0 else min v (n:Int))=(((if v<0 then (v+(n:Int)).toNat else min v.toNat n):Nat):Int)
 by_cases hv:v<0
 ·simp only[if_pos hv];omega
 ·simp only[if_neg hv];omega
def jsl(lo hi:Option Int)(n:Nat):Builtin.Slice.sliceAdjust lo hi 1 (n:Int)=(((sIx n 0 lo:Nat):Int),((sIx n n hi:Nat):Int)):=by
 have h1:¬ ((1:Int)<0):=by omega
 unfold Builtin.Slice.sliceAdjust;simp only[h1,if_false];refine Prod.ext ?_ ?_
 ·cases lo with
  | none=>rfl
  | some v=>exact jt6 v n 0
 ·cases hi with
  | none=>rfl
  | some v=>exact jt6 v n n
def js5(i j:Nat):Builtin.Slice.slicePlaces (i:Int) (j:Int) 1=j-i:=by
 unfold Builtin.Slice.slicePlaces;have h1:(1:Int) > 0:=by omega
 simp only[h1,if_true,Int.ediv_one]
 split<;>omega
def jmo{v:Value}{o:Option Int}{Q:Option Int->Shared->Prop}(p:IsPart v o)(h:Q o s):wpAny (model prog w) A (Builtin.Slice.slicePartIndex v) Q E s:=by
 cases p with
 | none=>exact slicePart_none h
 | int i t=>exact slicePart_int h
def jj5{sl:Addr}{vl vu:Value}{lo hi:Option Int}{n:Nat}{Q:Int×Int×Nat->Shared->Prop}(hs:s.heap.IsSliceOf sl vl vu .none)(pl:IsPart vl lo)(pu:IsPart vu hi)
  (h:Q (((sIx n 0 lo:Nat):Int),1,sIx n n hi-sIx n 0 lo) s):wpAny (model prog w) A (Builtin.Slice.sliceApplied (.ref sl) (pure (n:Int))) Q E s:=by
 obtain⟨os,hos,hcs,hds⟩:=id hs;unfold Builtin.Slice.sliceApplied Builtin.Slice.sliceFields;refine zay (zay (wpAny_field hos hds (x:=vl) rfl (zay (wpAny_field hos hds (x:=vu) rfl (zay (wpAny_field hos hds (x:=.none) rfl (zab ?_)))))));refine zay (slicePart_none ?_);show wpAny _ _ (if ((1:Int) == 0)=true then _ else _) _ _ s;rw[if_neg (by decide)];refine zay (jmo pl (zay (jmo pu (zay (zab ?_)))));show wpAny _ _ (match Builtin.Slice.sliceAdjust lo hi 1 (n:Int) with|(lo,hi)=>pure (lo,(1:Int),Builtin.Slice.slicePlaces lo hi 1)) _ _ s;rw[jsl lo hi n];show wpAny _ _ (pure (((sIx n 0 lo:Nat):Int),(1:Int),Builtin.Slice.slicePlaces ((sIx n 0 lo:Nat):Int) ((sIx n n hi:Nat):Int) 1)) _ _ s;rw[js5];exact zab h
def jy7(xs:Array Value)(i k:Nat):((List.range k).filterMap fun (m:Nat)=>xs[((i:Int)+(m:Int)*1).toNat]?).toArray=((xs.toList.drop i).take k).toArray:=by
 have e:(fun (m:Nat)=>xs[((i:Int)+(m:Int)*1).toNat]?)=fun m=>xs[i+m]?:=by
  funext m
  have:((i:Int)+(m:Int)*1).toNat=i+m:=by omega
  rw[this]
 rw[e];have:=pick_run xs i k;rw[List.filterMap_map] at this;have e2:((fun x=>xs[x]?) ∘ fun x=>i+x)=fun m=>xs[i+m]?:=rfl
 rw[e2] at this;rw[this]
def getItem_tuple_cut{t sl:Addr}{items:Array Value}{vl vu:Value}{lo hi:Option Int}{Q:qc}(ht:IsTup s.heap t items)(hs:s.heap.IsSliceOf sl vl vu .none)(pl:IsPart vl lo)(pu:IsPart vu hi)
  (hw:¬ (sIx items.size 0 lo=0/\sIx items.size items.size hi=items.size))
  (h:Q (.ref s.heap.objs.size) { s with heap:=s.heap.push { cls:=.type "tuple",data:=.seq ((items.toList.drop (sIx items.size 0 lo)).take (sIx items.size items.size hi-sIx items.size 0 lo)).toArray } })
  (hsz:items.size<=sizeLine):wpAny (model prog w) A (getItem (.ref t) (.ref sl)) Q E s:=by
 have htake:sizeOk (.seq ((items.toList.drop (sIx items.size 0 lo)).take (sIx items.size items.size hi-sIx items.size 0 lo)).toArray):=by
  show ((items.toList.drop (sIx items.size 0 lo)).take (sIx items.size items.size hi-sIx items.size 0 lo)).toArray.size<=sizeLine;rw[zbx,List.length_take,List.length_drop,Array.length_toList];omega
 have hj:sIx items.size items.size hi<=items.size:=jHi _ _ (zac _) hi;obtain⟨os,hos,hcs,hds⟩:=id hs;have hTs:s.TypeIs (.ref sl) "slice":=⟨os,hos,hcs⟩
 unfold getItem
 try with_reducible refine wpAny_holding ?_
 first|refine zay (zab ?_)|skip
 refine zay (wpAny_sequenceKey ht.typeIs (by decide) ?_);refine zay (wpAny_callSpecial?_slot (name:=Str.ofString "__getitem__") ht.typeIs PyProof.Rows.slot_tuple_getitem
  (wpAny_call_entry PyProof.Rows.slot_tuple_getitem ht.typeIs entry_tuple_getitem ?_ (args_tuple_getitem _ _)))
 show wpAny _ _ (Builtin.Tuple.tupleItemsOf (.ref t) >>= _) _ _ s;refine zay (tupleItemsOf_ ht ?_);refine zay (wpAny_typeOf hTs ?_);rw[if_pos (by decide)];refine zay (jj5 hs pl pu ?_);have hno:¬ ((((sIx items.size 0 lo:Nat):Int) == 0&&(1:Int) == 1&&(sIx items.size items.size hi-sIx items.size 0 lo) == items.size)=true):=by
  intro q;rw[Bool.and_eq_true,Bool.and_eq_true] at q;have q1:((sIx items.size 0 lo:Nat):Int)=0:=eq_of_beq q.1.1;have q2:sIx items.size items.size hi-sIx items.size 0 lo=items.size:=eq_of_beq q.2;exact hw ⟨by omega,by omega⟩
 show wpAny _ _ (if (((sIx items.size 0 lo:Nat):Int) == 0&&(1:Int) == 1&&(sIx items.size items.size hi-sIx items.size 0 lo) == items.size)=true then _ else _) _ _ s;rw[if_neg hno,jy7]
 first
  | exact zay (m:=Builtin.Tuple.tupleExact _) (wpAny_newObj_type (zab ⟨_,rfl,zab h⟩) htake)
  | exact zay (m:=Builtin.Tuple.tupleExact _) (wpAny_newObj_type (zay (zab (zab ⟨_,rfl,zab h⟩))) htake)
  | exact zay (zay (m:=Builtin.Tuple.tupleExact _) (wpAny_newObj_type (zab (zab ⟨_,rfl,zab h⟩)) htake))
  | exact zay (zay (m:=Builtin.Tuple.tupleExact _) (wpAny_newObj_type (zab ⟨_,rfl,zab h⟩) htake))
end
end HT
namespace L2
open PyProof.Rows
abbrev TO:=St->Hp->(Option Int->Hp->Prop)->Prop
def PO(X:Cx)(e:Option Expr)(t:TO):Prop :=
 ∀ (U:qb) (s:Shared) (Z:St) (H:Hp) (Q:Option Int->Hp->Prop),Inv X U Z H s->t Z H Q ->
  wpAny (model X.prog X.w) X.A (evalPart e X.env) (fun u s'=>∃ o H',Inv X U Z H' s'/\IsPart u o/\Q o H') X.xe s
def jEi:TO:=fun _ H Q=>Q none H
def jJ7(t:TE):TO:=fun Z H Q=>t Z H fun x H1=>∃ i,x=.int i/\Q (some i) H1
section
variable {X:Cx}{e:Expr}{te:TE}{lo hi:Option Expr}{tl th:TO}{pos p2:Pos}
def jDq:PO X none jEi:=by
 intro U s Z H Q I h;rw[evalPart_none];exact zab ⟨none,H,I,.none,h⟩
def jDr(h:PE X e te):PO X (some e) (jJ7 te):=by
 intro U s Z H Q I hw;rw[evalPart_some];refine thn (h U s Z H _ I hw) fun u s1 hzz=>?_
 obtain⟨x,H1,I1,r1,q1⟩:=hzz;obtain⟨i,rfl,q⟩:=q1;obtain⟨t,rfl⟩:=r1;exact⟨some i,H1,I1,.int i t,q⟩
def SlR(X:Cx)(r:V->Option Int->Option Int->Hp->VK->Prop):Prop :=
 ∀ (U:qb) (s:Shared) (Z:St) (H:Hp) (x:V) (v vl vu:Value) (lo hi:Option Int) (sl:Addr) (Q:VK),Inv X U Z H s->RelV x v->s.heap.IsSliceOf sl vl vu .none->IsPart vl lo->IsPart vu hi->r x lo hi H Q ->
  ∃ T id,typeLookup (.type T) "__getitem__"=pure (some (.builtin id))/\s.TypeIs v T/\wpAny (model X.prog X.w) X.A (getItem v (.ref sl)) (EP X U Z Q) X.xe s
def SlR.or{r r':V->Option Int->Option Int->Hp->VK->Prop}(h:SlR X r)(h':SlR X r'):SlR X (fun x lo hi H Q=>r x lo hi H Q\/r' x lo hi H Q):=by
 intro U s Z H x v vl vu lo hi sl Q I rx hs pl pu q;rcases q with q|q
 ·exact h U s Z H x v vl vu lo hi sl Q I rx hs pl pu q
 ·exact h' U s Z H x v vl vu lo hi sl Q I rx hs pl pu q
def tSl(r:V->Option Int->Option Int->Hp->VK->Prop)(te:TE)(tl th:TO):TE:=fun Z H Q=>te Z H fun x H1=>tl Z H1 fun l H2=>th Z H2 fun u H3=>r x l u H3 Q
def jy4{r:V->Option Int->Option Int->Hp->VK->Prop}(hr:SlR X r)(he:PE X e te)(hl:PO X lo tl)(hu:PO X hi th):PE X (.Subscript e (.Slice lo hi none p2) pos) (tSl r te tl th):=by
 intro U s Z H Q I h;refine Subscript_ (thn (he U s Z H _ I h) fun v s1 hzz=>?_);obtain⟨x,H1,I1,r1,q1⟩:=hzz;refine wpAny_Slice (thn (hl U s1 Z H1 _ I1 q1) fun vl s2 ⟨l,H2,I2,pl,q2⟩=>thn (hu U s2 Z H2 _ I2 q2) fun vu s3 hzz=>?_);obtain⟨u,H3,I3,pu,q3⟩:=hzz;rw[evalPart_none];refine zab ?_;have I4:Inv X U Z H3 { s3 with heap:=s3.heap.push { cls:=.type "slice",data:=.fields #[vl,vu,.none] } }:=I3.kept (t':=s3.toks) fun b ob q=>zaz _ q
 obtain⟨T,id,hT,ht,hg⟩:=hr U { s3 with heap:=s3.heap.push { cls:=.type "slice",data:=.fields #[vl,vu,.none] } } Z H3 x v vl vu l u s3.heap.objs.size Q I4 r1 (Heap.IsSliceOf.new ..) pl pu q3;show wpAny (model X.prog X.w) X.A (subscriptTail e (.Slice lo hi none p2) v (.ref s3.heap.objs.size)) (EP X U Z Q) X.xe { s3 with heap:=s3.heap.push { cls:=.type "slice",data:=.fields #[vl,vu,.none] } };exact tail_any (ops:=[.ref s3.heap.objs.size,v]) ht hT hg (by with_unfolding_all rfl)
def cutV(xs:List V)(lo hi:Option Int):List V:=(xs.drop (HT.sIx xs.length 0 lo)).take (HT.sIx xs.length xs.length hi-HT.sIx xs.length 0 lo)
def jkk(xs:List V)(lo hi:Option Int):(cutV xs lo hi).length<=xs.length:=by
 unfold cutV;rw[List.length_take,List.length_drop];omega
def rSlT(K:W.Frag):V->Option Int->Option Int->Hp->VK->Prop:=fun x lo hi H Q=>∃ a xs,x=.ref a/\SqT K H a xs /\
 ¬ (HT.sIx xs.length 0 lo=0/\HT.sIx xs.length xs.length hi=xs.length)/\∀ p,H p=none->Q (.ref p) (upd H p (.tup (cutV xs lo hi)))
def sl_tup:SlR X (rSlT X.K):=by
 intro U s Z H x v vl vu lo hi sl Q I rx hs pl pu h;obtain⟨a,xs,rfl,hx,hw,q⟩:=h;cases rx;obtain⟨its,r,ht,hz⟩:=I.tuple hx;have hlen:its.toArray.size=xs.length:=by rw[zbx];exact r.length.symm
 refine⟨"tuple",_,PyProof.Rows.slot_tuple_getitem.lookup,ht.typeIs,?_⟩;refine HT.getItem_tuple_cut ht hs pl pu (by rw[hlen];exact hw) ?_ (by rw[hlen];exact hz);rw[hlen];refine⟨.ref s.heap.objs.size,_,I.laid (t':=s.toks) (o:=.tup (cutV xs lo hi)) (fun b ob q=>zaz _ q) (zac _) ?_,rfl,q _ (I.hok.fresh (zac _))⟩;exact⟨zdy (jkk xs lo hi) hz,_,(r.drop (HT.sIx xs.length 0 lo)).take (HT.sIx xs.length xs.length hi-HT.sIx xs.length 0 lo),IsTup.new _ _⟩
def jwr(K:W.Frag):R2:=fun x y H Q=>∃ a b xs ys,x=.ref a/\y=.ref b/\SqT K H a xs/\SqT K H b ys/\xs≠[]/\xs.length+ys.length<=sizeLine /\
 (ys=[]->Q (.ref a) H)/\(ys≠[]->∀ p,H p=none->Q (.ref p) (upd H p (.tup (xs++ys))))
def Vals.nil_iff{xs:List V}{us:List Value}(r:Vals xs us):us=[]↔xs=[]:=by
 cases r with
 | nil=>simp
 | cons _ _=>simp
def jv9:OpR X (binaryOp .Add) (jwr X.K):=by
 intro U s Z H x y v u Q I rx ry h;obtain⟨a,b,xs,ys,rfl,rfl,ha,hb,hx,hz,q1,q2⟩:=h;cases rx;cases ry;obtain⟨its,r1,p1,_⟩:=I.tuple ha;obtain⟨its2,r2,p2,_⟩:=I.tuple hb;refine HT.cat_tup p1 p2 (fun z=>hx (r1.nil_iff.mp z)) (fun z=>⟨.ref a,H,I,rfl,q1 (r2.nil_iff.mp z)⟩) (fun z=>?_) (by rw[<- r1.length,<- r2.length];exact hz);refine⟨.ref s.heap.objs.size,_,I.laid (t':=s.toks) (o:=.tup (xs++ys)) (fun b ob q=>zaz _ q) (zac _) ?_,rfl,q2 (fun w=>z (r2.nil_iff.mpr w)) _ (I.hok.fresh (zac _))⟩;exact⟨by rw[zcc];exact hz,_,r1.append r2,IsTup.new _ _⟩
end
def ixN(n:Nat)(i:Int):Option Nat:=if 0<=i then (if i<n then some i.toNat else none) else if -(n:Int)<=i then some (i+n).toNat else none
def atI{α:Type}(xs:List α)(i:Int):Option α:=(ixN xs.length i).bind fun j=>xs[j]?
def jCz{n:Nat}{i:Int}{j:Nat}(h:ixN n i=some j):seqIndex? i n=some j/\j<n/\-(n:Int)<=i/\i<n:=by
 unfold ixN at h
 by_cases h0:0<=i
 ·rw[if_pos h0] at h
  by_cases h1:i<n
  ·rw[if_pos h1] at h;have e:i.toNat=j:=zby h;exact⟨by rw[seqIndex_of h0 h1,e],by omega,by omega,h1⟩
  ·rw[if_neg h1] at h;cases h
 ·rw[if_neg h0] at h
  by_cases h1:-(n:Int)<=i
  ·rw[if_pos h1] at h;have e:(i+n).toNat=j:=zby h;exact⟨by rw[seqIndex_neg (by omega) h1,e],by omega,h1,by omega⟩
  ·rw[if_neg h1] at h;cases h
def atI_get{α:Type}{xs:List α}{i:Int}{v:α}(h:atI xs i=some v):∃ j,seqIndex? i xs.length=some j/\xs[j]? = some v/\j<xs.length/\-(xs.length:Int)<=i/\i<xs.length:=by
 unfold atI at h
 cases e:ixN xs.length i with
 | none=>rw[e] at h;cases h
 | some j =>
  rw[e] at h;obtain⟨h1,h2,h3,h4⟩:=jCz e;exact⟨j,h1,h,h2,h3,h4⟩
def jpz(b:Expr):Prop:=∀ o i,subscripted b false o i=operate [o,i] (getItem o i)
def IxR(X:Cx)(r:R2):Prop :=
 ∀ (value slice:Expr) (U:qb) (s:Shared) (Z:St) (H:Hp) (x y:V) (v u:Value) (Q:VK),Inv X U Z H s->RelV x v->RelV y u->r x y H Q ->
  subscripted slice false v u=operate [v,u] (getItem v u)->wpAny (model X.prog X.w) X.A (subscriptTail value slice v u) (EP X U Z Q) X.xe s
def MtR(X:Cx)(id:String)(r:V->List V->Hp->VK->Prop):Prop :=
 ∀ (U:qb) (s:Shared) (Z:St) (H:Hp) (x:V) (xs:List V) (v:Value) (us:List Value) (Q:VK),Inv X U Z H s->RelV x v->Vals xs us->r x xs H Q ->
  wpAny (model X.prog X.w) X.A (call (.builtin id) (v::us)) (EP X U Z Q) X.xe s
section
variable {X:Cx}{a b:Expr}{ta tb:TE}{pos:Pos}
def IxR.or{r r':R2}(h:IxR X r)(h':IxR X r'):IxR X (fun x y H Q=>r x y H Q\/r' x y H Q):=by
 intro value slice U s Z H x y v u Q I rx ry q hs;rcases q with q|q
 ·exact h value slice U s Z H x y v u Q I rx ry q hs
 ·exact h' value slice U s Z H x y v u Q I rx ry q hs
def jG0{r:R2}(hr:IxR X r)(ha:PE X a ta)(hb:PE X b tb)(hs:jpz b):PE X (.Subscript a b pos) (tOp r ta tb):=by
 intro U s Z H Q I h;exact Subscript_ (binT ha hb I h fun v u s2 x y H2 I2 rx ry q=>hr a b U s2 Z H2 x y v u Q I2 rx ry q (hs _ _))
def rIxL(K:W.Frag):R2:=fun x y H Q=>∃ p xs i v,x=.ref p/\y=.int i/\SqL K H p xs/\atI xs i=some v/\Q v H
def rIxT(K:W.Frag):R2:=fun x y H Q=>∃ p xs i v,x=.ref p/\y=.int i/\SqT K H p xs/\atI xs i=some v/\Q v H
def rIxS:R2:=fun x y H Q=>∃ z i c,x=.str z/\y=.int i/\z.length<=sizeLine/\atI z.cps.toList i=some c/\Q (.str ⟨#[c]⟩) H
def ix_list:IxR X (rIxL X.K):=by
 intro value slice U s Z H x y v u Q I rx ry h hs;obtain⟨p,xs,i,z,rfl,rfl,hq,he,q⟩:=h;cases rx;obtain⟨t,rfl⟩:=ry;obtain⟨its,r,pl,hz⟩:=I.list hq;obtain⟨j,h1,h2,h3,h4,h5⟩:=atI_get he;obtain⟨w,ew,rw'⟩:=r.get h2;have hl:=r.length;have hn:=jmi;have fin:EP X U Z Q w s:=⟨z,H,I,rw',q⟩
 by_cases h0:0<=i
 ·have hj:i.toNat=j:=by
   rw[seqIndex_of h0 h5] at h1;exact zby h1
  exact item_listR pl.isList h0 (by omega) (by rw[hj];simpa using ew) fin hs
 ·have hj:(i+(its.toArray.size:Int)).toNat=j:=by
   rw[seqIndex_neg (by omega) h4] at h1;rw[zbx,<- hl];exact zby h1
  exact subscriptTail_builtinR (x:=w) pl.isList.typeIs slot_list_getitem.lookup
   (wpAny_getItem_list_neg (Q:=fun r s'=>r=w/\EP X U Z Q r s') pl.isList (by omega) (by rw[zbx]<;>omega) (by omega) (by rw[hj];simpa using ew) ⟨rfl,fin⟩) hs
def ix_tup:IxR X (rIxT X.K):=by
 intro value slice U s Z H x y v u Q I rx ry h hs;obtain⟨p,xs,i,z,rfl,rfl,hq,he,q⟩:=h;cases rx;obtain⟨t,rfl⟩:=ry;obtain⟨its,r,pl,hz⟩:=I.tuple hq;obtain⟨j,h1,h2,h3,h4,h5⟩:=atI_get he;obtain⟨w,ew,rw'⟩:=r.get h2;have hl:=r.length;have hn:=jmi;have fin:EP X U Z Q w s:=⟨z,H,I,rw',q⟩
 exact subscriptTail_builtinR (x:=w) pl.typeIs slot_tuple_getitem.lookup
  (getItem_tuple (j:=j) (Q:=fun r s'=>r=w/\EP X U Z Q r s') pl (by omega) (by omega) (by rw[zbx,<- hl];exact h1) (by simpa using ew) ⟨rfl,fin⟩) hs
def jF1:IxR X rIxS:=by
 intro value slice U s Z H x y v u Q I rx ry h hs;obtain⟨z,i,c,rfl,rfl,hz,he,q⟩:=h;obtain⟨t,rfl⟩:=rx;obtain⟨t',rfl⟩:=ry;obtain⟨j,h1,h2,h3,h4,h5⟩:=atI_get he;have hl:z.cps.toList.length=z.length:=by simp[Str.length]
 rw[hl] at h1 h4 h5;have hn:=jmi;exact tail_any (typeIs_str s z t) slot_str_getitem.lookup (getItem_str (c:=c) (by
  have e1:decide (i < -(2 ^ 63:Int))=false:=decide_eq_false (by omega);have e2:decide (i >= 2 ^ 63)=false:=decide_eq_false (by omega);rw[e1,e2,Bool.or_false]) (by rw[h1];simpa using h2) ⟨.str ⟨#[c]⟩,H,I.tok _,⟨_,rfl⟩,q⟩) hs
def rIx(K:W.Frag):R2:=fun x y H Q=>rIxL K x y H Q\/rIxT K x y H Q\/rIxS x y H Q
def jap:IxR X (rIx X.K):=ix_list.or (ix_tup.or jF1)
def jpt(lo hi:Option Int)(n:Nat):(sliceBounds lo hi none n).1=((HT.sIx n 0 lo:Nat):Int)/\(sliceBounds lo hi none n).2.1=((HT.sIx n n hi:Nat):Int)/\(sliceBounds lo hi none n).2.2=1:=by
 refine⟨?_,?_,rfl⟩
 ·cases lo with
  | none=>simp[sliceBounds,HT.sIx]
  | some i =>
   simp only[sliceBounds,HT.sIx,Option.getD_none,show (1:Int) > 0 by decide,if_true]
   by_cases h:i<0
   ·simp only[h,if_true]<;>omega
   ·simp only[h,if_false]<;>omega
 ·cases hi with
  | none=>simp[sliceBounds,HT.sIx]
  | some i =>
   simp only[sliceBounds,HT.sIx,Option.getD_none,show (1:Int) > 0 by decide,if_true]
   by_cases h:i<0
   ·simp only[h,if_true]<;>omega
   ·simp only[h,if_false]<;>omega
def jn7(its:List Value)(lo hi:Option Int):slicePick its.toArray lo hi none=((its.drop (HT.sIx its.length 0 lo)).take (HT.sIx its.length its.length hi-HT.sIx its.length 0 lo)).toArray:=by
 obtain⟨h1,h2,h3⟩:=jpt lo hi its.toArray.size;unfold slicePick;rw[h1,h2,h3];simp only[sliceRange_one,pick_run,zbx]<;>rfl
def rSlL(K:W.Frag):V->Option Int->Option Int->Hp->VK->Prop:=fun x lo hi H Q=>∃ a xs,x=.ref a/\SqL K H a xs/\∀ p,H p=none->Q (.ref p) (upd H p (.lst (cutV xs lo hi)))
def sl_list:SlR X (rSlL X.K):=by
 intro U s Z H x v vl vu lo hi sl Q I rx hs pl pu h;obtain⟨a,xs,rfl,hx,q⟩:=h;cases rx;obtain⟨its,r,ht,hz⟩:=I.list hx;have hlen:=r.length;refine⟨"list",_,slot_list_getitem.lookup,ht.isList.typeIs,?_⟩;refine wpAny_getItem_list_slice ht.isList hs pl pu .none (by simp) ?_ (by rw[zbx]<;>omega);rw[jn7,<- hlen];refine⟨.ref s.heap.objs.size,_,I.laid (t':=s.toks) (o:=.lst (cutV xs lo hi)) (fun b ob q=>zaz _ q) (zac _) ?_,rfl,q _ (I.hok.fresh (zac _))⟩;exact⟨zdy (jkk xs lo hi) hz,_,0,(r.drop (HT.sIx xs.length 0 lo)).take (HT.sIx xs.length xs.length hi-HT.sIx xs.length 0 lo),zbz _ rfl⟩
def jlz:V->Bool
 | .non=>true
 | .bl _=>true
 | .int _=>true
 | .str _=>true
 | _=>false
def eqV:V->V->Bool
 | .non,.non=>true
 | .bl a,.bl b=>a == b
 | .bl a,.int b=>(if a then 1 else 0) == b
 | .int a,.bl b=>a == (if b then 1 else 0)
 | .int a,.int b=>a == b
 | .str a,.str b=>a == b
 | _,_=>false
def jFs{A:Around}{s:Shared}{y x:V}{u v:Value}(ry:RelV y u)(rx:RelV x v)(fy:jlz y=true)(fx:jlz x=true):SeqAt.EqAt A s u v (eqV y x):=by
 cases y with
 | non =>
  cases ry
  cases x with
  | non=>cases rx;exact SeqAt.EqAt.same _
  | bl b=>cases rx;exact SeqAt.EqAt.none_bool b
  | int b=>obtain⟨t,rfl⟩:=rx;exact SeqAt.EqAt.none_int b t
  | str b=>obtain⟨t,rfl⟩:=rx;exact SeqAt.EqAt.none_str b t
  | _=>exact absurd (show false=true from fx) Bool.false_ne_true
 | bl a =>
  cases ry
  cases x with
  | non=>cases rx;exact SeqAt.EqAt.bool_none a
  | bl b=>cases rx;exact SeqAt.EqAt.bool_bool a b
  | int b=>obtain⟨t,rfl⟩:=rx;exact SeqAt.EqAt.bool_int a b t
  | str b=>obtain⟨t,rfl⟩:=rx;exact SeqAt.EqAt.bool_str a b t
  | _=>exact absurd (show false=true from fx) Bool.false_ne_true
 | int a =>
  obtain⟨t',rfl⟩:=ry
  cases x with
  | non=>cases rx;exact SeqAt.EqAt.int_none a t'
  | bl b=>cases rx;exact SeqAt.EqAt.int_bool a t' b
  | int b=>obtain⟨t,rfl⟩:=rx;exact SeqAt.EqAt.int_int a t' b t
  | str b=>obtain⟨t,rfl⟩:=rx;exact SeqAt.EqAt.int_str a t' b t
  | _=>exact absurd (show false=true from fx) Bool.false_ne_true
 | str a =>
  obtain⟨t',rfl⟩:=ry
  cases x with
  | non=>cases rx;exact SeqAt.EqAt.str_none a t'
  | bl b=>cases rx;exact SeqAt.EqAt.str_bool a t' b
  | int b=>obtain⟨t,rfl⟩:=rx;exact SeqAt.EqAt.str_int a t' b t
  | str b=>obtain⟨t,rfl⟩:=rx;exact SeqAt.EqAt.str_str a t' b t
  | _=>exact absurd (show false=true from fx) Bool.false_ne_true
 | _=>exact absurd (show false=true from fy) Bool.false_ne_true
def eqU(x:V)(u:Value):Bool:=match u with
 | .none=>eqV .non x
 | .bool b=>eqV (.bl b) x
 | .int i _=>eqV (.int i) x
 | .str z _=>eqV (.str z) x
 | _=>false
def jAf{x y:V}{u:Value}(r:RelV y u)(f:jlz y=true):eqU x u=eqV y x:=by
 cases y with
 | non=>cases r;rfl
 | bl b=>cases r;rfl
 | int i=>obtain⟨t,rfl⟩:=r;rfl
 | str z=>obtain⟨t,rfl⟩:=r;rfl
 | _=>exact absurd (show false=true from f) Bool.false_ne_true
theorem jkf{x:V}:∀ {xs:List V} {us:List Value},Vals xs us->xs.all jlz=true->us.any (eqU x)=xs.any fun y=>eqV y x
 | _,_,.nil,_=>rfl
 | y::xs,u::us,.cons r t,f=>by
  rw[List.all_cons,Bool.and_eq_true] at f;rw[List.any_cons,List.any_cons,jAf r f.1,jkf t f.2]
theorem jiq{A:Around}{s:Shared}{x:V}{v:Value}(rx:RelV x v)(fx:jlz x=true):∀ {xs:List V} {us:List Value},Vals xs us->xs.all jlz=true->∀ u∈us,SeqAt.EqAt A s u v (eqU x u)
 | _,_,.nil,_=>fun u hu=>by cases hu
 | y::xs,u::us,.cons r t,f=>fun u' hu=>by
  rw[List.all_cons,Bool.and_eq_true] at f;rcases List.mem_cons.mp hu with rfl|hu
  ·rw[jAf r f.1];exact jFs r rx f.1 fx
  ·exact jiq rx fx t f.2 u' hu
def inV(x:V)(xs:List V):Bool:=xs.any fun y=>eqV y x
def rIn(K:W.Frag)(neg:Bool):R2:=fun x y H Q=>∃ p xs,y=.ref p/\(SqL K H p xs\/SqT K H p xs)/\jlz x=true/\xs.all jlz=true/\Q (.bl (if neg then !inV x xs else inV x xs)) H
def jk8:OpR X (compareOp .In) (rIn X.K false):=by
 intro U s Z H x y v u Q I rx ry h;obtain⟨p,xs,rfl,hq,fx,fs,q⟩:=h;cases ry;rcases hq with hq|hq
 ·obtain⟨its,r,pl,hz⟩:=I.list hq;refine SeqAt.in_listAt (eqU x) pl.isList (fun w hw=>jiq rx fx r fs w (by simpa using hw)) ⟨.bl _,H,I,rfl,?_⟩;rw[show its.toArray.any (eqU x)=its.any (eqU x) by simp,jkf r fs];exact q
 ·obtain⟨its,r,pl,hz⟩:=I.tuple hq;refine SeqAt.in_tupleAt (eqU x) pl (fun w hw=>jiq rx fx r fs w (by simpa using hw)) ⟨.bl _,H,I,rfl,?_⟩;rw[show its.toArray.any (eqU x)=its.any (eqU x) by simp,jkf r fs];exact q
def jfa:OpR X (compareOp .NotIn) (rIn X.K true):=by
 intro U s Z H x y v u Q I rx ry h;obtain⟨p,xs,rfl,hq,fx,fs,q⟩:=h;cases ry;rcases hq with hq|hq
 ·obtain⟨its,r,pl,hz⟩:=I.list hq;refine SeqAt.notIn_listAt (eqU x) pl.isList (fun w hw=>jiq rx fx r fs w (by simpa using hw)) ⟨.bl _,H,I,rfl,?_⟩;rw[show its.toArray.any (eqU x)=its.any (eqU x) by simp,jkf r fs];exact q
 ·obtain⟨its,r,pl,hz⟩:=I.tuple hq;refine SeqAt.notIn_tupleAt (eqU x) pl (fun w hw=>jiq rx fx r fs w (by simpa using hw)) ⟨.bl _,H,I,rfl,?_⟩;rw[show its.toArray.any (eqU x)=its.any (eqU x) by simp,jkf r fs];exact q
def call_len_seq:CallR X (.builtin "len") (fun xs H Q=>∃ p ys,xs=[.ref p]/\(SqL X.K H p ys\/SqT X.K H p ys)/\Q (.int ys.length) H):=by
 intro U s Z H xs us Q I r h;obtain⟨p,ys,rfl,hq,q⟩:=h;obtain⟨u,rfl,rx⟩:=jqz r;cases rx;have hn:=jmi;rcases hq with hq|hq
 ·obtain⟨its,r',pl,hz⟩:=I.list hq;have hlen:=r'.length;exact Calls.call_len_list pl.isList (by simp only[zbx]<;>omega) ⟨.int ys.length,H,I.tok _,⟨s.toks+1,by rw[zbx,hlen]⟩,q⟩
 ·obtain⟨its,r',pl,hz⟩:=I.tuple hq;have hlen:=r'.length;exact len_tuple pl (by simp only[zbx]<;>omega) ⟨.int ys.length,H,I.tok _,⟨s.toks+1,by rw[zbx,hlen]⟩,q⟩
def jol:CallR X (.builtin "len") (fun xs H Q=>∃ z,xs=[.str z]/\z.length<=sizeLine/\Q (.int z.length) H):=by
 intro U s Z H xs us Q I r h;obtain⟨z,rfl,hz,q⟩:=h;obtain⟨u,rfl,t,rfl⟩:=jqz r;have hn:=jmi;exact len_str (by omega) ⟨.int z.length,H,I.tok _,⟨_,rfl⟩,q⟩
def CallR.or{f:Value}{r r':List V->Hp->VK->Prop}(h:CallR X f r)(h':CallR X f r'):CallR X f (fun xs H Q=>r xs H Q\/r' xs H Q):=by
 intro U s Z H xs us Q I rs q;rcases q with q|q
 ·exact h U s Z H xs us Q I rs q
 ·exact h' U s Z H xs us Q I rs q
def jjm:CallR X (.type "list") (fun xs H Q=>∃ p ys,xs=[.ref p]/\(SqL X.K H p ys\/SqT X.K H p ys)/\∀ l,H l=none->Q (.ref l) (upd H l (.lst ys))):=by
 intro U s Z H xs us Q I r h;obtain⟨p,ys,rfl,hq,q⟩:=h;obtain⟨u,rfl,rx⟩:=jqz r;cases rx;have fin:∀ (its:List Value),Vals ys its->ys.length<=sizeLine->∀ (h':Heap) (c':Nat),(∀ b o',s.heap.get? b=some o'->h'.get? b=some o') ->
   h'.get? s.heap.objs.size=some { cls:=.type "list",dict:=none,data:=.seq its.toArray c',slots:=#[] }->EP X U Z Q (.ref s.heap.objs.size) { s with heap:=h' }:=fun its r' hz h' c' kp e =>
  ⟨.ref s.heap.objs.size,_,I.laid (t':=s.toks) kp (zac _) (show ObjOk X.prog X.w _ h' _ (.lst ys) from ⟨hz,its,c',r',e⟩),rfl,q _ (I.hok.fresh (zac _))⟩
 rcases hq with hq|hq
 ·obtain⟨its,r',pl,hz⟩:=I.list hq;have hlen:=r'.length;obtain⟨o,ho,hc,n,hd⟩:=pl.isList;exact call_list_seq p (.inl rfl) ho hc hd (fun h' c' kp e=>fin its r' hz h' c' kp e) (by simp only[zbx]<;>omega)
 ·obtain⟨its,r',pl,hz⟩:=I.tuple hq;have hlen:=r'.length;obtain⟨o,ho,hc,n,hd⟩:=pl;exact call_list_seq p (.inr rfl) ho hc hd (fun h' c' kp e=>fin its r' hz h' c' kp e) (by simp only[zbx]<;>omega)
def jbr:CallR X (.type "tuple") (fun xs H Q=>∃ p ys,xs=[.ref p]/\((SqL X.K H p ys/\∀ l,H l=none->Q (.ref l) (upd H l (.tup ys)))\/(SqT X.K H p ys/\Q (.ref p) H))):=by
 intro U s Z H xs us Q I r h;obtain⟨p,ys,rfl,h⟩:=h;obtain⟨u,rfl,rx⟩:=jqz r;cases rx;rcases h with ⟨hq,q⟩|⟨hq,q⟩
 ·obtain⟨its,r',pl,hz⟩:=I.list hq;have hlen:=r'.length;refine call_tuple_list pl.isList (fun h' kp=>?_) (by simp only[zbx]<;>omega);have I1:Inv X U Z H { s with heap:=h' }:=I.kept (t':=s.toks) kp;have I2:Inv X U Z (upd H h'.objs.size (.tup ys)) { s with heap:=h'.push { cls:=.type "tuple",data:=.seq its.toArray } } :=
   I1.laid (t':=s.toks) (fun b o e=>zaz _ e) (zac _) (show ObjOk X.prog X.w _ _ _ (.tup ys) from ⟨hz,its,r',IsTup.new _ _⟩)
  exact⟨.ref h'.objs.size,_,I2,rfl,q _ (I1.hok.fresh (zac _))⟩
 ·obtain⟨its,r',pl,hz⟩:=I.tuple hq;exact call_tuple_same pl ⟨.ref p,H,I,rfl,q⟩
def tyV(K:W.Frag)(T:String)(x:V)(H:Hp):Prop:=match x with
 | .str _=>T="str"
 | .int _=>T="int"
 | .ref p=>(T="list"/\∃ xs,SqL K H p xs)\/(T="tuple"/\∃ o,K.lookup p=some o/\o.cls=.type "tuple"/\o.dict=none) \/
   (T="dict"/\((∃ kvs,H p=some (.dK kvs))\/∃ kvs,H p=some (.dT kvs)))
 | _=>False
def jBg{U:qb}{Z:St}{H:Hp}{s:Shared}{T:String}{x:V}{v:Value}(I:Inv X U Z H s)(r:RelV x v)(ty:tyV X.K T x H) :
  s.TypeIs v T/\∀ a,v=.ref a->∃ ob,s.heap.get? a=some ob/\ob.dict=none:=by
 cases x with
 | str z =>
  obtain⟨t,rfl⟩:=r;cases (show T="str" from ty);exact⟨typeIs_str s z t,fun _ e=>nomatch e⟩
 | int i =>
  obtain⟨t,rfl⟩:=r;cases (show T="int" from ty);exact⟨typeIs_int s i t,fun _ e=>nomatch e⟩
 | ref p =>
  cases r;rcases ty with ⟨rfl,xs,hq⟩|⟨rfl,o,hk,hc,hd⟩|⟨rfl,hk⟩
  ·obtain⟨its,_,pl,_⟩:=I.list hq;refine⟨pl.isList.typeIs,fun a e=>?_⟩;cases e;obtain⟨o,n,e,c,hd,_⟩:=pl;exact⟨o,e,hd⟩
  ·refine⟨⟨o,I.kIn p o hk,hc⟩,fun a e=>?_⟩;cases e;exact⟨o,I.kIn _ o hk,hd⟩
  ·have z:∃ o,s.heap.get? p=some o/\o.ExactDict:=by
    rcases hk with ⟨kvs,hk⟩|⟨kvs,hk⟩
    ·obtain⟨_,_,_,_,o,_,_,e,ex,_⟩:=I.hok p _ hk;exact⟨o,e,ex⟩
    ·obtain⟨_,_,_,_,o,_,_,e,ex,_⟩:=I.hok p _ hk;exact⟨o,e,ex⟩
   obtain⟨o,e,ex⟩:=z;refine⟨⟨o,e,ex.1⟩,fun a e2=>?_⟩;cases e2;exact⟨o,e,ex.2.1⟩
 | _=>exact False.elim ty
def tBM0(K:W.Frag)(T:String)(r:V->List V->Hp->VK->Prop)(to:TE):TE:=fun Z H Q=>to Z H fun x H1=>tyV K T x H1/\r x [] H1 Q
def tBM(K:W.Frag)(T:String)(r:V->List V->Hp->VK->Prop)(to:TE)(t:TA):TE:=fun Z H Q=>to Z H fun x H1=>tyV K T x H1/\t Z H1 fun xs H2=>r x xs H2 Q
variable {o e:Expr}{es:List Expr}{to:TE}{t:TA}{name:Str}{apos cpos:Pos}{T id:String}{r:V->List V->Hp->VK->Prop}
def jGx(pa:PlainAttrs T)(slot:Slot T name id)(hty:typeOf (.builtin id)=pure (.type "method_descriptor"))(hm:MtR X id r)(ho:PE X o to)
  (hbase:attributeBase o name X.env (eval o X.env)=eval o X.env:=by rfl) (hline:(apos.endLine == cpos.line)=true:=by rfl):PE X (.Call (.Attribute o name apos) [] [] cpos) (tBM0 X.K T r to):=by
 intro U s Z H Q I h;refine wpAny_Call_method0_late hbase hline (thn (ho U s Z H _ I h) fun v s1 hzz=>?_);obtain⟨x,H1,I1,r1,ty,q1⟩:=hzz;obtain⟨h1,h2⟩:=jBg I1 r1 ty;exact⟨T,id,pa,slot,hty,h1,h2,Calls.callWith_builtin rfl (PySem.evalArgs_none (hm U s1 Z H1 x [] v [] Q I1 r1 .nil q1))⟩
def jGw(pa:PlainAttrs T)(slot:Slot T name id)(hty:typeOf (.builtin id)=pure (.type "method_descriptor"))(hm:MtR X id r)(ho:PE X o to)(ha:PA X (e::es) t)
  (hbase:attributeBase o name X.env (eval o X.env)=eval o X.env:=by rfl)
  (hfew:((backTo cpos (starEach (e::es) X.env)).all (fun x=>!x.1)&&(backToKw cpos (keywordEach [] X.env)).all (fun x=>x.1.isSome)
   && decide ((e::es).length+([]:List Keyword).length+(if ([]:List Keyword).isEmpty then 0 else 1)<30))=true:=by rfl)
  (hline:(apos.endLine == cpos.line)=true:=by rfl) (hs:zsE e es X.env:=by rfl) (hplain:(backTo cpos (starEach es X.env)).any (·.1)=false:=by rfl) :
  PE X (.Call (.Attribute o name apos) (e::es) [] cpos) (tBM X.K T r to t):=by
 intro U s Z H Q I h;refine wpAny_Call_method_late hbase hfew hline rfl (thn (ho U s Z H _ I h) fun v s1 hzz=>?_);obtain⟨x,H1,I1,r1,ty,q1⟩:=hzz;obtain⟨h1,h2⟩:=jBg I1 r1 ty;refine⟨T,id,pa,slot,hty,h1,h2,?_⟩;have hA:=ha cpos U s1 Z H1 _ I1 q1;rw[hs] at hA |-
 refine Calls.callWith_builtin (by show (false || (backTo cpos (starEach es X.env)).any (·.1))=false;rw[hplain]<;>rfl) (Calls.evalArgs_plain ?_);exact thn hA fun us s2 ⟨vs,H2,I2,r2,q2⟩=>hm U s2 Z H2 x vs v us Q I2 r1 r2 q2
end
def MtM(X:Cx)(id:String)(r:V->List V->Hp->VK->Prop):Prop :=
 ∀ (U:qb) (s:Shared) (Z:St) (H:Hp) (x:V) (xs:List V) (v:Value) (us:List Value) (Q:VK),Inv X U Z H s->RelV x v->Vals xs us->r x xs H Q ->
  wpAny (model X.prog X.w) X.A (call (.builtin id) (v::us)) (EP X U Z Q) X.xe s
def Vals.one:∀ {x:V} {us:List Value},Vals [x] us->∃ u,us=[u]/\RelV x u
 | _,_,.cons r .nil=>⟨_,rfl,r⟩
def Vals.two:∀ {x y:V} {us:List Value},Vals [x,y] us->∃ u v,us=[u,v]/\RelV x u/\RelV y v
 | _,_,_,.cons r (.cons q .nil)=>⟨_,_,rfl,r,q⟩
def Vals.zero:∀ {us:List Value},Vals [] us->us=[]
 | _,.nil=>rfl
theorem Vals.dropLast{xs:List V}{us:List Value}(h:Vals xs us):Vals xs.dropLast us.dropLast:=by
 induction h with
 | nil=>exact .nil
 | cons r t ih =>
  cases t with
  | nil=>exact .nil
  | cons q t'=>exact .cons r ih
theorem Vals.rep{xs:List V}{us:List Value}(h:Vals xs us):∀ k:Nat,Vals (List.replicate k xs).flatten (List.replicate k us).flatten
 | 0=>.nil
 | k+1=>by
  rw[List.replicate_succ,List.replicate_succ,List.flatten_cons,List.flatten_cons];exact Vals.append h (Vals.rep h k)
def jsr{α:Type}(l:List α):l.eraseIdx (l.length-1)=l.dropLast:=by
 induction l with
 | nil=>rfl
 | cons a r ih =>
  cases r with
  | nil=>rfl
  | cons b r =>
   have e:(a::b::r).length-1=((b::r).length-1)+1:=by
    have h1:(a::b::r).length=r.length+2:=rfl;have h2:(b::r).length=r.length+1:=rfl;omega
   rw[e,List.eraseIdx_cons_succ,ih]
   all_goals rfl
theorem jko(its:List Value):∀ (k:Nat) (acc:List Value),
  List.foldl (fun x1 x2=>x1++x2) acc.toArray (List.replicate k its.toArray)=(acc++(List.replicate k its).flatten).toArray
 | 0,acc=>by simp
 | k+1,acc=>by
  have e:acc.toArray++its.toArray=(acc++its).toArray:=by simp
  have e2:(acc++its)++(List.replicate k its).flatten=acc++(List.replicate (k+1) its).flatten:=by
   rw[List.replicate_succ,List.flatten_cons,List.append_assoc]
  rw[<- e2,<- jko its k (acc++its),<- e,List.replicate_succ,List.foldl_cons]
section
variable {X:Cx}{U:qb}{Z:St}{H:Hp}{s:Shared}{l:Addr}{xs ys:List V}
def Inv.lset{its its':List Value}{n:Nat}{f:Array Value->Array Value}{t':Nat}(I:Inv X U Z H s)(hH:H l=some (.lst xs))
  (e:s.heap.get? l=some { cls:=.type "list",data:=.seq its.toArray n }) (hf:f its.toArray=its'.toArray) (hv:Vals ys its') (hz:ys.length<=sizeLine) :
  Inv X U Z (upd H l (.lst ys)) { s with heap:=s.heap.update l (Obj.mapSeq f),toks:=t' }:=by
 have q:=PySem.IsL.update e f;rw[hf] at q;refine I.write (x:=l) (e:=l) (by rw[hH];exact trivial) (.inl rfl) (fun b' u hb hu=>(Heap.get?_update_other s.heap (Obj.mapSeq f) (Ne.symm hb)).trans hu) ⟨_,q⟩ ?_;exact⟨hz,its',_,hv,q⟩
def Inv.lnew{its:List Value}{t':Nat}(I:Inv X U Z H s)(hv:Vals ys its)(hz:ys.length<=sizeLine) :
  Inv X U Z (upd H s.heap.objs.size (.lst ys)) { s with heap:=s.heap.push { cls:=.type "list",data:=.seq its.toArray },toks:=t' } :=
 I.laid (fun _ _ q=>zaz _ q) (zac _) ⟨hz,its,0,hv,zbz _ rfl⟩
def Inv.fresh(I:Inv X U Z H s):H s.heap.objs.size=none:=I.hok.fresh (zac _)
def Inv.lstM(I:Inv X U Z H s)(hH:H l=some (.lst xs)):xs.length<=sizeLine/\∃ (its:List Value) (n:Nat),Vals xs its/\xs.length=its.length/\s.heap.get? l=some { cls:=.type "list",data:=.seq its.toArray n }:=by
 obtain⟨z,its,n,r,e⟩:=I.hok l _ hH;exact⟨z,its,n,r,r.length,e⟩
def jyx{n:Nat}(h:n<=sizeLine):Builtin.List.listTooLong n=false:=by
 unfold Builtin.List.listTooLong;exact decide_eq_false (by omega)
end
section
variable {X:Cx}
def jD1:V->List V->Hp->VK->Prop:=fun x vs H Q=>∃ l xs y,x=.ref l/\vs=[y]/\H l=some (.lst xs)/\xs.length<sizeLine/\Q .non (upd H l (.lst (xs++[y])))
def jir:MtM X "list.append" jD1:=by
 intro U s Z H x vs v us Q I rx rv h;obtain⟨l,xs,y,rfl,rfl,hH,hz,q⟩:=h;cases rx;obtain⟨u,rfl,ru⟩:=rv.one;obtain⟨z,its,n,r,hl,e⟩:=I.lstM hH;refine call_meets F.slot_list_append ⟨_,e,rfl⟩ F.entry_list_append (F.args_list_append_2 _ _) (PySem.list_append l its.toArray n u (by rw[zbx];omega)) ⟨e,?_⟩;refine⟨.non,_,I.lset (its':=its++[u]) hH e (by simp) (r.append (.cons ru .nil)) ?_,rfl,q⟩;rw[zcc,List.length_singleton];omega
def rPop:V->List V->Hp->VK->Prop:=fun x vs H Q=>∃ l xs y,x=.ref l/\vs=[]/\H l=some (.lst xs)/\xs[xs.length-1]? = some y/\Q y (upd H l (.lst xs.dropLast))
def jGj:MtM X "list.pop" rPop:=by
 intro U s Z H x vs v us Q I rx rv h;obtain⟨l,xs,y,rfl,rfl,hH,hy,q⟩:=h;cases rx;have hus:=rv.zero;subst hus;obtain⟨z,its,n,r,hl,e⟩:=I.lstM hH;obtain⟨u,hu,ru⟩:=r.get hy;have hy':its.toArray[its.toArray.size-1]? = some u:=by
  show its.toArray[its.length-1]? = some u;rw[<- Array.getElem?_toList,<- hl];exact hu
 refine call_meets F.slot_list_pop ⟨_,e,rfl⟩ F.entry_list_pop (F.args_list_pop_1 _) (MeetsSeq.list_pop_last l its.toArray n u hy' (by rw[zbx];omega)) ⟨e,?_⟩;refine⟨y,_,I.lset (its':=its.dropLast) hH e ?_ r.dropLast ?_,ru,q⟩
 ·show its.toArray.eraseIdxIfInBounds (its.toArray.size-1)=its.dropLast.toArray;rw[zbx,List.eraseIdxIfInBounds_toArray,jsr]
 ·rw[List.length_dropLast];omega
def rRep:R2:=fun x y H Q=>∃ l k xs,x=.ref l/\y=.int k/\H l=some (.lst xs)/\-(2 ^ 63)<=k/\k<2 ^ 63/\xs.length*k.toNat<=sizeLine /\
 ∀ p,H p=none->Q (.ref p) (upd H p (.lst (List.replicate k.toNat xs).flatten))
def jvi{α:Type}(xs:List α)(k:Nat):(List.replicate k xs).flatten.length=k*xs.length:=by
 induction k with
 | zero=>simp
 | succ k ih=>rw[List.replicate_succ,List.flatten_cons,zcc,ih,Nat.succ_mul,Nat.add_comm]
def jGs:OpR X (binaryOp .Mult) rRep:=by
 intro U s Z H x y v u Q I rx ry h;obtain⟨l,k,xs,rfl,rfl,hH,h1,h2,hz,q⟩:=h;cases rx;obtain⟨t,rfl⟩:=ry;obtain⟨z,its,n,r,hl,e⟩:=I.lstM hH;have hlen:its.toArray.size*k.toNat<=sizeLine:=by rw[zbx,<- hl];exact hz
 have hcap:¬ its.toArray.size*k.toNat > (2 ^ 63-1) / 8:=by
  have:(sizeLine:Nat)<=(2 ^ 63-1) / 8:=by decide
  omega
 have hfit:¬ (!Builtin.List.listFitsIndex k)=true:=by
  rw[fitsIndex_both h1 h2];exact Bool.false_ne_true
 have hlong:¬ Builtin.List.listTooLong (its.toArray.size*k.toNat)=true:=by
  rw[jyx hlen];exact Bool.false_ne_true
 have hnew:List.foldl (fun x1 x2=>x1++x2) #[] (List.replicate (if its.toArray.isEmpty=true then 0 else k.toNat) its.toArray)=(List.replicate k.toNat its).flatten.toArray:=by
  have f0:∀ m:Nat,List.foldl (fun x1 x2=>x1++x2) #[] (List.replicate m its.toArray)=(List.replicate m its).flatten.toArray:=fun m=>by
   have:=jko its m [];rw[List.nil_append] at this;exact this
  rw[f0]
  cases its with
  | nil=>simp
  | cons a r'=>rw[if_neg (by simp)]
 refine wpAny_binaryOp_repeat_ref (T:="list") (U:="int") (by decide) ⟨_,e,rfl⟩ (fun s'=>typeIs_int s' k t) noFill_list_mul F.fills_int_mul F.slot_int_rmul repeat_list F.slot_int_index.lookup
  (call_meets F.slot_int_rmul (typeIs_int s k t) F.entry_int_rmul (F.args_int_rmul_2 _ _) (int___rmul___int_list k t l its.toArray n)
   ⟨e,rfl,⟨_,e,rfl⟩,call_meets F.slot_list_mul ⟨_,e,rfl⟩ F.entry_list_mul (F.args_list_mul_2 _ _) (AutoListH.list___mul___list_int_3 l its.toArray n k t hfit hcap hlong) ⟨e,?_⟩⟩)
 rw[hnew];exact⟨.ref _,_,I.lnew (t':=s.toks) (r.rep k.toNat) (by rw[jvi,Nat.mul_comm];exact hz),rfl,q _ I.fresh⟩
end
section
end
section
end
end L2
namespace Att
open PySem PySem.W PySem.Calls PyProof.Rows
def jkt{P:Params}{h:Heap}:∀ (ns:List Int) (vs:List Value),WellAll P h vs (ns.map WData.int)->IntsAre vs ns:=by
 intro ns
 induction ns with
 | nil =>
  intro vs w;rw[List.map_nil] at w;cases w;exact .nil
 | cons n ns ih =>
  intro vs w;rw[List.map_cons] at w
  cases w with
  | cons a b =>
   cases a;exact .cons _ _ (ih _ b)
def jw6{l:OpenLaw}{n:Nat}(hn:l.most=some n){P:Params}{h:Heap}{args:List WData}{vals:List Value}
  (hpre:l.row.toRowW.claim.pre args=true) (hwl:WellAll P h vals args) :
  ∃ a vs ns,vals=[Value.ref a]/\args=[WData.list (ns.map WData.int)]/\h.get? a=some { cls:=.type "list",data:=.seq vs.toArray }/\IntsAre vs ns/\ns.length<=n:=by
 have hsh:WShape.hasAll [] args [.list .int]=true:=(pre_splitW hpre).1;have hc:l.pre.holds [] { args:=args }=true:=(pre_splitW hpre).2;obtain⟨d,r,rfl,h1,h2⟩:=hasAllW_cons hsh;obtain rfl:=hasAllW_nil h2;obtain⟨xs,rfl,h3⟩:=hasW_list h1;obtain⟨ns,rfl⟩:=items_int h3;have hlen:ns.length<=n:=by
  unfold OpenLaw.pre at hc;have h4:(WTm.not (.lt (.lit (.int (n:Int))) (.len (.arg 0)))).holds [] { args:=[.list (ns.map .int)] }=true:=by
   have h4:=(holds_andW hc).1;rw[hn] at h4;exact h4
  have h5:=condW_of h4 (w_not (w_lt w_lit (w_len_list (w_arg rfl))));rw[zav] at h5;refine Nat.le_of_not_lt fun q=>?_
  have q':(n:Int)<((ns.length:Nat):Int):=by omega
  first
   | (rw[decide_eq_true q'] at h5;exact absurd h5 (by decide))
   | (simp at h5;omega)
 cases hwl with
 | cons w1 w2 =>
  cases w2
  cases w1 with
  | list ho hall=>exact⟨_,_,ns,rfl,rfl,ho,jkt ns _ hall,hlen⟩
def jwl(l:OpenLaw)(args:List WData):l.row.toRowW.claim.post args (.bool true) args=true :=
 postW_of (r:=l.row.toRowW) (X:=(true == true))
  (show WShape.has [] (.bool true) .bool=true by first|rfl|decide|simp[WShape.has,WShape.arms,WShape.armsAll])
  (show (WTm.eq .res (.lit (.bool true))).value [] { args:=args,res:=some (.bool true),after:=args }=some (.bool (true == true)) from w_eq_bool (w_res rfl) w_lit) rfl
def attach_call{l:OpenLaw}{n:Nat}{q:Program}{loose:List Str}{XP:(qa)->Heap->Prop}{YP:World->Heap->Prop}{d:DefRec}
  (hn:l.most=some n) (hdf:d.params.defaults=[])
  (call:∀ (w:World) (s₀ s₁:Shared) (mg mb:qa) (fa:Addr) (o:Obj) (pm cd doc:Value) (a:Addr) (vs:List Value) (ns:List Int),
   Ground q loose [] XP w s₀ mg mb s₁.heap->YP w s₁.heap ->
   s₁.heap.get? fa=some o->o.data=.func (docDef d.name d.params d.body d.scope pm cd doc)->s₁.heap.CodeRec cd d.name->mg d.name=some (.ref fa) ->
   s₁.heap.get? a=some { cls:=.type "list",data:=.seq vs.toArray }->IntsAre vs ns->ns.length<=n->s₁.gens=#[] ->
   codeAny (model l.prog w) callerA (.call (.ref fa) ⟨[.ref a],[]⟩) (fun r s'=>r=.ok (.ret (.bool true))/\OldK s₁.heap s'.heap/\s'.os=s₁.os/\AllBare s'.gens) s₁) :
  WalkO q loose XP YP l.row.toRowW d [] (fun f vs=>PySem.call f vs):=by
 intro w s₀ s₁ mg mb G Yq fa o pm cd doc dV kV ho hd hcd hD hmg hg args vals as hpre hlay hrd hwl hlo;obtain rfl:dV=.none:=Dflts.none hD hdf;obtain rfl:kV=.none:=Dflts.noKw hD;obtain⟨a,vs,ns,rfl,rfl,hobj,hints,hlen⟩:=jw6 hn hpre hwl;refine enter_call (codeAny_mono (call w s₀ s₁ mg mb fa o pm cd doc a vs ns G Yq ho (fd_plain hd) hcd hmg hobj hints hlen hg) fun r s' hq=>?_);obtain⟨rfl,h2,h3,h4⟩:=hq;exact⟨.inl ⟨.bool true,.bool true,[],rfl,fun _=>rfl,.bool true,jwl l _,fun _=>⟨List.Pairwise.nil,fun _ hm=>(nomatch hm)⟩⟩,h2,h3,h4⟩
section
end
end Att
namespace L2
open PyProof.Rows
theorem jpw:∀ {vs:List Value} {ns:List Int},IntsAre vs ns->Vals (ns.map V.int) vs
 | _,_,.nil=>.nil
 | _,_,.cons n t h=>.cons ⟨t,rfl⟩ (jpw h)
def Only(H:Hp):Prop:=∀ b,H b=none\/∃ o xs,H b=some (.frz o (.lst xs))
def jyl{P:Program}{w:World}{K:W.Frag}{mg mb:qa}{CX:CXT}{k:Nat}{fa a:Addr}{fd:FuncData}{x:Str}{sp:Sp}{s₁:Shared}{vs:List Value}{ns:List Int}
  (KX:K.In s₁.heap) (hns:s₁.heap.Ns mainGlobals mg) (hb:s₁.heap.Ns builtinsNs mb) (hbb:∀ x:Str,x≠"__name__"->mb x=bootBuiltins x) (hlim:s₁.heap.NoLimit) (hg:s₁.gens=#[])
  (ha:s₁.heap.get? a=some { cls:=.type "list",data:=.seq vs.toArray }) (hi:IntsAre vs ns) (hl:ns.length<=sizeLine) (hr:Room k callerA)
  (F:∀ base:Heap,K.In base->base.Ns mainGlobals mg->FnOk P w K mg base CX k fa fd [x] sp) (hbind:∀ (s:Shared) (u:Value),BindsTo s fd ⟨[u],[]⟩ [(x,u)])
  (hsp:∀ H:Hp,Only H->SqL K H a (ns.map V.int)->sp [.ref a] H (fun v _=>v=.bl true) fun _ _ _=>False)
  (hCX:∀ H e s',CX [] H s₁ (fun _ _ _=>False) e s'->False) :
  codeAny (model P w) callerA (.call (.ref fa) ⟨[.ref a],[]⟩) (fun r s'=>r=.ok (.ret (.bool true))/\OldK s₁.heap s'.heap/\s'.os=s₁.os/\AllBare s'.gens) s₁:=by
 have rv:=jpw hi;have lenV:=hi.length;have core:∀ H:Hp,Only H->SqL K H a (ns.map V.int)->HOk P w H s₁.heap->(∀ b,H b≠none->b=a)->(H a≠none->K.lookup a=none) ->
   codeAny (model P w) callerA (.call (.ref fa) ⟨[.ref a],[]⟩) (fun r s'=>r=.ok (.ret (.bool true))/\OldK s₁.heap s'.heap/\s'.os=s₁.os/\AllBare s'.gens) s₁:=by
  intro H hO hS hok hA hK;have base_of:∀ {b:Addr} {o:Obj},s₁.heap.get? b=some o->H b=none->(hidT s₁.heap H).get? b=some o:=fun e n=>jyf e n
  have noA:∀ {b:Addr} {o:Obj} {es:Array DictEntry} {ep:Nat},s₁.heap.get? b=some o->o.data=.dict es ep->H b=none:=fun {b o es ep} e d=>by
   cases q:H b with
   | none=>rfl
   | some u =>
    have e':b=a:=hA b (by rw[q];simp);subst e';rw[ha] at e;cases e
    have d':Data.seq vs.toArray _=Data.dict es ep:=d;cases d'
  have nsK:∀ {b:Addr} {m:qa},s₁.heap.Ns b m->(hidT s₁.heap H).Ns b m:=fun {b m} ⟨o,es,ep,e,d,r⟩=>⟨o,es,ep,base_of e (noA e d),d,r⟩
  have hKb:K.In (hidT s₁.heap H):=fun b o e=>base_of (KX b o e) (by
   cases q:H b with
   | none=>rfl
   | some u =>
    have e':b=a:=hA b (by rw[q];simp);subst e';rw[hK (by rw[q];simp)] at e;cases e)
  have hM:Mod K mg (hidT s₁.heap H):=⟨hKb,nsK hns,⟨mb,nsK hb,hbb⟩,let ⟨mc,h1,h2⟩:=hlim;⟨mc,nsK h1,h2⟩⟩
  have e0:Env0 P w K mg (hidT s₁.heap H) callerA [] s₁ H:=⟨rfl,hM,fun b o e=>jDd e,Nat.le_of_eq (ju4 _ _),trivial,fun b hb=>absurd (show b∈([]:List Addr) from hb) (by simp),hok,.of_eq hg⟩
  refine codeAny_mono ((F _ hKb (nsK hns)).run callerA [] s₁ H ⟨[.ref a],[]⟩ [.ref a] [.ref a] _ _ hr e0 (hbind s₁ (.ref a)) (.cons rfl .nil) (hsp H hO hS)) fun r s' h=>?_
  cases r with
  | error e=>exact (hCX H e s' h).elim
  | ok fl =>
   cases fl with
   | next=>exact False.elim h
   | brk=>exact False.elim h
   | cont=>exact False.elim h
   | ret u =>
    obtain⟨v,H',os,bare,un,hok',r',q⟩:=h;have q':v=.bl true:=q;subst q';obtain rfl:u=Value.bool true:=r';refine⟨rfl,OldK.of_keep fun b o e=>?_,os,bare⟩
    cases q:H b with
    | none=>exact un.keep b o e q (by intro z;exact absurd (show b∈([]:List Addr) from z) (by simp)) (by simp)
    | some u =>
     rcases hO b with z|⟨ob,xs,z⟩
     ·rw[q] at z;cases z
     ·have z2:=un.frzs b ob _ z;obtain⟨e1,_⟩:=hok b _ z;obtain⟨e2,_⟩:=hok' b _ z2;rw[e] at e1;cases e1
      exact e2
 cases hk:K.lookup a with
 | some o =>
  have e:=KX a o hk;rw[ha] at e;cases e;refine core (fun _=>none) (fun _=>.inl rfl) (.inr ⟨_,vs.toArray,_,hk,rfl,rfl,rfl,by rw[zbx,lenV];exact hl,by simpa using rv⟩) (fun b u z=>by have z':(none:Option HO)=some u:=z;cases z') (fun b z=>absurd rfl z) fun z=>absurd rfl z
 | none =>
  refine core (fun b=>if b=a then some (.frz { cls:=.type "list",data:=.seq vs.toArray } (.lst (ns.map V.int))) else none) (fun b=>?_) (.inl (.inr ⟨{ cls:=.type "list",data:=.seq vs.toArray },if_pos rfl⟩)) (fun b u z=>?_) (fun b z=>?_) fun _=>hk
  ·by_cases hb:b=a
   ·exact .inr ⟨_,_,if_pos hb⟩
   ·exact .inl (if_neg hb)
  ·by_cases hb:b=a
   ·have z':=(if_pos hb).symm.trans z;cases z';subst hb;exact⟨ha,by rw[zav];exact hl,vs,_,rv,ha⟩
   ·have z':=(if_neg hb).symm.trans z;cases z'
  ·by_cases hb:b=a
   ·exact hb
   ·exact absurd (if_neg hb) z
def walk_of{l:W.OpenLaw}{n k:Nat}{q:Program}{loose:List Str}{XP:(qa)->Heap->Prop}{YP:World->Heap->Prop}{d:DefRec}{K:Params->W.Frag}{CX:World->CXT}{sp:World->Sp}{x:Str}
  (hn:l.most=some n) (hn2:n<=sizeLine) (hdf:d.params.defaults=[]) (hr:Room k callerA)
  (hY:∀ (w:World) (h:Heap),YP w h->(K w.params).In h)
  (F:∀ (w:World) (mg:qa) (fa:Addr) (h:Heap),(K w.params).In h->h.Ns mainGlobals mg->mg d.name=some (.ref fa) ->
   ∃ fd:FuncData,(∀ (s:Shared) (u:Value),BindsTo s fd ⟨[u],[]⟩ [(x,u)]) /\
    ∀ base:Heap,(K w.params).In base->base.Ns mainGlobals mg->FnOk l.prog w (K w.params) mg base (CX w) k fa fd [x] (sp w))
  (hsp:∀ (w:World) (H:Hp) (a:Addr) (ns:List Int),ns.length<=n->Only H->SqL (K w.params) H a (ns.map V.int)->sp w [.ref a] H (fun v _=>v=.bl true) fun _ _ _=>False)
  (hCX:∀ (w:World) (H:Hp) (s:Shared) (e:Value) (s':Shared),CX w [] H s (fun _ _ _=>False) e s'->False) :
  W.WalkO q loose XP YP l.row.toRowW d [] (fun f vs=>PySem.call f vs):=by
 refine Att.attach_call hn hdf fun w s₀ s₁ mg mb fa o pm cd doc a vs ns G Yq ho hd hcd hmg hobj hints hlen hg=>?_
 have KX:=hY w _ Yq;obtain⟨fd,hb,hF⟩:=F w mg fa _ KX G.T.g hmg;exact jyl KX G.T.g G.T.b G.T.builtins G.T.nolimit hg hobj hints (zdy hlen hn2) hr hF hb (fun H hO hS=>hsp w H a ns hlen hO hS) fun H e s'=>hCX w H s₁ e s'
def jbw(s:Stmt):Arguments:=match s with
 | .FunctionDef _ a _ _ _ _ _ _ _ _=>a
 | _=>{ posonlyargs:=[],args:=[],vararg:=none,kwonlyargs:=[],kw_defaults:=[],kwarg:=none,defaults:=[] }
def ja1(s:Stmt):List Stmt:=match s with
 | .FunctionDef _ _ b _ _ _ _ _ _ _=>b
 | _=>[]
def jaf(s:Stmt):Scope:=match s with
 | .FunctionDef _ _ _ _ _ _ sc _ _ _=>sc
 | _=>{ kind:=.function,names:=[],isGenerator:=false,isCoroutine:=false }
abbrev CX0:CXT:=fun _ _ _ _ _ _=>False
abbrev E0:XK:=fun _ _ _=>False
structure Fun(K:W.Frag)(x qual:Str)(st:Stmt)(f:Addr)(fd:FuncData):Prop where
 ex:∃ (oc:Value) (od:Option Addr) (kV doc pm:Value) (an:Option Addr) (cdv ct:Value) (osl:qe),
  fd=W.fnOf x qual (jbw st) (ja1 st) (jaf st) .none kV doc pm an cdv ct/\K.lookup f=some ⟨oc,od,.func fd,osl⟩/\W.codeIn K cdv qual=true
 kp:W.keepIn K (.ref f)=true
section
variable {P:Program}{w:World}{K:W.Frag}{mg:qa}{base:Heap}
def Fun.ok{x qual:Str}{st:Stmt}{f:Addr}{fd:FuncData}{N ps:List Str}{k:Nat}{sp:Sp}(F:Fun K x qual st f fd)(S:FnScope N ps (jaf st))(len:∀ vs H Q E,sp vs H Q E->vs.length=ps.length)
  (hbody:∀ (cdv:Value) (A:Around) (outer:List Env) (s:Shared) (H:Hp) (vs:List V) (Q:VK) (E:XK),Room k (A.deeper (envOfC qual (jaf st) s.heap.objs.size f cdv))->sp vs H Q E ->
   ∃ t,PSs (cxOf CX0 P w K mg base N qual (jaf st) f cdv A outer s H E).nox (ja1 st) t/\t { nx:=fun _ H'=>Q .non H',rt:=Q } (start N vs) H):FnOk P w K mg base CX0 (k+1) f fd ps sp:=by
 obtain⟨oc,od,kV,doc,pm,an,cdv,ct,osl,rfl,lk,hcd⟩:=F.ex;refine jFt lk hcd S len fun A outer s H vs Q E hr hsp=>?_
 obtain⟨t,h,q⟩:=hbody cdv A outer s H vs Q E hr hsp;exact⟨t,h.nox,q⟩
def Fun.binds{x qual:Str}{st:Stmt}{f:Addr}{fd:FuncData}{ps:List Str}(F:Fun K x qual st f fd)
  (h:∀ (kV doc pm:Value) (an:Option Addr) (cdv ct:Value) (us:List Value),us.length=ps.length->bindArgs (W.fnOf x qual (jbw st) (ja1 st) (jaf st) .none kV doc pm an cdv ct) ⟨us,[]⟩=pure (ps.zip us)):Binds K fd ps []:=by
 obtain⟨oc,od,kV,doc,pm,an,cdv,ct,osl,rfl,lk,hcd⟩:=F.ex;exact .all (h kV doc pm an cdv ct)
def jrr{x qual:Str}{st:Stmt}{f:Addr}{oc:Value}{od an:Option Addr}{osl:qe}{kV doc pm cdv ct:Value}(l:K.lookup f=some ⟨oc,od,.func (W.fnOf x qual (jbw st) (ja1 st) (jaf st) .none kV doc pm an cdv ct),osl⟩)
  (c:W.codeIn K cdv qual=true) (k:W.keepIn K (.ref f)=true):Fun K x qual st f (W.fnOf x qual (jbw st) (ja1 st) (jaf st) .none kV doc pm an cdv ct):=⟨⟨oc,od,kV,doc,pm,an,cdv,ct,osl,rfl,l,c⟩,k⟩
end
section
end
def iteF{A B:Prop}(h:B):if false=true then A else B:=by
 rw[if_neg Bool.false_ne_true];exact h
def iteT{A B:Prop}(h:A):if true=true then A else B:=by
 rw[if_pos rfl];exact h
def Same(H H':Hp):Prop:=∀ b o,H b=some o->H' b=some o
def Same.refl(H:Hp):Same H H:=fun _ _ h=>h
def Same.trans{H H1 H2:Hp}(a:Same H H1)(b:Same H1 H2):Same H H2:=fun c o h=>b c o (a c o h)
end L2
set_option maxHeartbeats 4000000
namespace L2
open PyProof.Rows
def ffk:(NameKind.free == NameKind.free)=true:=by decide
def clOf(cells:List (Str×Addr)):List (Str×NameKind)->List (Str×Addr)->List (Str×Addr)
 | [],acc=>acc
 | (n,k)::r,acc=>clOf cells r (if k == .free then (n,(cells.lookup n).getD 0)::acc else acc)
theorem jt7{env:Env}:∀ (ns:List (Str×NameKind)) (acc:List (Str×Addr)),(∀ p∈ns,p.2=.free->∃ c,env.cells.lookup p.1=some c) ->
  (forIn ns acc fun p cs=>(if p.2 == NameKind.free then (do let a <- cellOf env p.1;pure (ForInStep.yield ((p.1,a)::cs))) else pure (ForInStep.yield cs):Sem (ForInStep (List (Str×Addr)))))=pure (clOf env.cells ns acc)
 | [],acc,_=>by rw[List.forIn_nil];rfl
 | (n,k)::r,acc,h=>by
  rw[List.forIn_cons]
  by_cases hk:k=.free
  ·subst hk;obtain⟨c,hc⟩:=h (n,.free) zaa rfl;have e1:cellOf env n=pure c:=by unfold cellOf;rw[hc]
   show (do let a <- cellOf env n;pure (ForInStep.yield ((n,a)::acc)):Sem _) >>= _=_;rw[e1];show (forIn r ((n,c)::acc) _:Sem _)=_;rw[jt7 r _ fun p hp=>h p (zaw _ hp)];show _=pure (clOf env.cells r (if NameKind.free == NameKind.free then _ else _));have hc':env.cells.lookup n=some c:=hc;rw[if_pos ffk,hc'];rfl
  ·have e2:(k == NameKind.free)=false:=by simpa using hk
   show (if (k == NameKind.free)=true then _ else _:Sem _) >>= _=_;rw[if_neg (by rw[e2];decide)];show (forIn r acc _:Sem _)=_;rw[jt7 r _ fun p hp=>h p (zaw _ hp)];show _=pure (clOf env.cells r (if (k == NameKind.free)=true then _ else _));rw[if_neg (by rw[e2];decide)]
def jl8{scope:Scope}{env:Env}(h:∀ p∈scope.names,p.2=.free->∃ c,env.cells.lookup p.1=some c):closureFor scope env=pure (clOf env.cells scope.names []):=by
 unfold closureFor;have e:=jt7 (env:=env) scope.names [] h;show (forIn scope.names ([]:List (Str×Addr)) _ >>= fun r=>pure r:Sem _)=_;have e':(forIn scope.names ([]:List (Str×Addr)) fun (p:Str×NameKind) (cs:List (Str×Addr))=>(if p.2 == NameKind.free then (do let a <- cellOf env p.1;pure (ForInStep.yield ((p.1,a)::cs))) else pure (ForInStep.yield cs):Sem (ForInStep (List (Str×Addr))))) >>= (fun r=>(pure r:Sem _))=pure (clOf env.cells scope.names []):=by rw[e];rfl
 exact e'
theorem jrf{cells:List (Str×Addr)}{x:Str}{c:Addr}:∀ (ns:List (Str×NameKind)) (acc:List (Str×Addr)),(clOf cells ns acc).lookup x=some c->acc.lookup x=some c\/((x,NameKind.free)∈ns/\c=(cells.lookup x).getD 0)
 | [],acc,h=>.inl h
 | (n,k)::r,acc,h=>by
  rcases jrf r _ h with e|⟨e1,e2⟩
  ·by_cases hk:k=.free
   ·subst hk;rw[if_pos ffk,List.lookup_cons] at e
    cases hx:x == n with
    | true =>
     rw[hx] at e;have:x=n:=by simpa using hx
     subst this;exact .inr ⟨zaa,(zby e).symm⟩
    | false=>rw[hx] at e;exact .inl e
   ·rw[if_neg (by simpa using hk)] at e;exact .inl e
  ·exact .inr ⟨zaw _ e1,e2⟩
theorem jre{cells:List (Str×Addr)}{x:Str}:∀ (ns:List (Str×NameKind)) (acc:List (Str×Addr)),acc.lookup x=some ((cells.lookup x).getD 0)->(clOf cells ns acc).lookup x=some ((cells.lookup x).getD 0)
 | [],acc,h=>h
 | (n,k)::r,acc,h=>by
  refine jre r _ ?_
  by_cases hk:k=.free
  ·subst hk;rw[if_pos ffk,List.lookup_cons]
   cases hx:x == n with
   | true =>
    have:x=n:=by simpa using hx
    subst this;rfl
   | false=>exact h
  ·rw[if_neg (by simpa using hk)];exact h
theorem jm3{cells:List (Str×Addr)}{x:Str}:∀ (ns:List (Str×NameKind)) (acc:List (Str×Addr)),(x,NameKind.free)∈ns->(clOf cells ns acc).lookup x=some ((cells.lookup x).getD 0)
 | [],acc,h=>by cases h
 | (n,k)::r,acc,h=>by
  rcases List.mem_cons.mp h with e|e
  ·cases e;refine jre r _ ?_;rw[if_pos ffk,List.lookup_cons];simp
  ·exact jm3 r _ e
def jb5(X:Cx)(scope:Scope)(N:List Str)(C:Addr)(s0:Shared)(H0:Hp)(ex:List Addr):Cx where
 prog:=X.prog
 w:=X.w
 K:=X.K
 mg:=X.mg
 base:=X.base
 A:=X.A
 N:=N
 s₀:=s0
 Hz:=H0
 env:=compEnvC scope (clOf X.env.cells scope.names []) C X.env
 outer:=X.stack
 stack:=X.stack
 ex:=ex
 fn:=fun _=>false
 calm:=X.calm
 pn:=[]
 xe:=fun _ _=>False
def jz6(N:List Str)(out:List (Str×NameKind))(inn:List (Str×NameKind))(caps:qf):Bool :=
 inn.all (fun p=>p.2 != .cell)&&inn.all (fun p=>p.2 != .local || inn.lookup p.1 == some .local) &&
 inn.all (fun p=>p.2 != .free || (out.lookup p.1 == some .cell || out.lookup p.1 == some .free)) &&
 caps.all (fun p=>N[p.2]? == some p.1&&inn.lookup p.1 == some .free)
structure CapsOk(X:Cx)(scope:Scope)(caps:qf):Prop where
 kind:scope.kind=.function
 nocell:∀ x∈scope.names,x.2≠.cell
 loc:∀ x∈scope.names,x.2=.local->scope.names.lookup x.1=some .local
 fre:∀ p∈scope.names,p.2=.free->X.env.kindOf p.1=some .cell\/X.env.kindOf p.1=some .free
 cap:∀ p∈caps,X.N[p.2]? = some p.1/\scope.names.lookup p.1=some .free
def jfc{X:Cx}{scope osc:Scope}{N:List Str}{caps:qf}(hN:X.N=N)(ho:X.env.scope=osc)(hk:scope.kind=.function)(h:jz6 N osc.names scope.names caps=true):CapsOk X scope caps:=by
 unfold jz6 at h;simp only[Bool.and_eq_true,List.all_eq_true] at h;obtain⟨⟨⟨h1,h2⟩,h3⟩,h4⟩:=h;refine⟨hk,fun x hx=>by simpa using h1 x hx,fun x hx hl=>?_,fun p hp hf=>?_,fun p hp=>?_⟩
 ·have:=h2 x hx;rw[hl] at this;simpa using this
 ·have:=h3 p hp;rw[hf] at this;show X.env.scope.names.lookup p.1=_\/X.env.scope.names.lookup p.1=_;rw[ho];simpa using this
 ·have:=h4 p hp;rw[hN];simpa using this
def jdv(own:Nat)(caps:qf)(Z:St):St:=List.replicate own none++caps.map fun p=>(Z[p.2]?).join
def jxg(own:Nat)(caps:qf)(wi:TI)(g:TG)(tc:TT)(te:TE):TE:=fun Z H Q=>wi Z H fun Jq H1=>∀ D,H1 D=none ->
 ∃ W:Nat->Nat->St->Hp->Prop,(∃ m,W 0 m (jdv own caps Z) (upd H1 D (.lst [])))/\∀ i m Z' H',W i m Z' H' ->
  (Jq.stop i H'/\Q (.ref D) H')\/(Jq.go i H'/\∃ N:St->Hp->Prop,(∀ Z2 H2,N Z2 H2->∃ m',m'<m/\W (i+1) m' Z2 H2) /\
   ∀ x H2,Jq.yld i H' x H2->g x Z' H2 fun Z3 H3=>tc Z3 H3 fun b H4=>if b=true then te Z3 H4 fun v H5=>∃ ys,H5 D=some (.lst ys)/\ys.length<sizeLine/\N Z3 (upd H5 D (.lst (ys++[v]))) else N Z3 H4)
theorem jg6{scope:Scope}{env:Env}{x:Str}{k:NameKind}:∀ {ns:List (Str×NameKind)},(ns.map fun (n,k)=>if (k == NameKind.free&&env.scope.kind == .function&&env.kindOf n == some .cell) then (n,NameKind.cell) else (n,k)).lookup x=some k ->
  ∃ k',ns.lookup x=some k'/\(k=k'\/(k'=.free/\k=.cell))
 | [],h=>by simp at h
 | (n,k0)::r,h=>by
  rw[List.map_cons] at h
  by_cases hc:(k0 == NameKind.free&&env.scope.kind == .function&&env.kindOf n == some .cell)=true
  ·simp only[if_pos hc,List.lookup_cons] at h
   cases hx:x == n with
   | true =>
    rw[hx] at h;refine⟨k0,by simp[List.lookup_cons,hx],.inr ⟨?_,(zby h).symm⟩⟩;simp only[Bool.and_eq_true] at hc;simpa using hc.1.1
   | false =>
    rw[hx] at h;obtain⟨k',e,q⟩:=jg6 (scope:=scope) h;exact⟨k',by simp only[List.lookup_cons,hx];exact e,q⟩
  ·simp only[if_neg hc,List.lookup_cons] at h
   cases hx:x == n with
   | true =>
    rw[hx] at h;exact⟨k0,by simp[List.lookup_cons,hx],.inl (zby h).symm⟩
   | false =>
    rw[hx] at h;obtain⟨k',e,q⟩:=jg6 (scope:=scope) h;exact⟨k',by simp only[List.lookup_cons,hx];exact e,q⟩
theorem jg5{env:Env}{x:Str}:∀ {ns:List (Str×NameKind)},ns.lookup x=some .free ->
  (ns.map fun (n,k)=>if (k == NameKind.free&&env.scope.kind == .function&&env.kindOf n == some .cell) then (n,NameKind.cell) else (n,k)).lookup x=some .cell \/
  (ns.map fun (n,k)=>if (k == NameKind.free&&env.scope.kind == .function&&env.kindOf n == some .cell) then (n,NameKind.cell) else (n,k)).lookup x=some .free
 | [],h=>by simp at h
 | (n,k0)::r,h=>by
  rw[List.map_cons];simp only[List.lookup_cons] at h
  by_cases hc:(k0 == NameKind.free&&env.scope.kind == .function&&env.kindOf n == some .cell)=true
  ·simp only[if_pos hc,List.lookup_cons]
   cases hx:x == n with
   | true=>exact .inl rfl
   | false=>rw[hx] at h;exact jg5 h
  ·simp only[if_neg hc,List.lookup_cons]
   cases hx:x == n with
   | true=>rw[hx] at h;exact .inr h
   | false=>rw[hx] at h;exact jg5 h
def ju7{own:Nat}{caps:qf}{Z:St}{i:Nat}{v:V}(h:(jdv own caps Z)[i]? = some (some v)):∃ p,caps[i-own]? = some p/\own<=i/\Z[p.2]? = some (some v):=by
 unfold jdv at h
 by_cases hi:i<own
 ·rw[List.getElem?_append_left (by simpa using hi),List.getElem?_replicate,if_pos hi] at h;cases h
 ·rw[List.getElem?_append_right (by simpa using hi),List.length_replicate,zba] at h
  cases e:caps[i-own]? with
  | none=>rw[e] at h;cases h
  | some p =>
   rw[e] at h;refine⟨p,rfl,by omega,?_⟩;have h':(Z[p.2]?).join=some v:=zby h
   cases q:Z[p.2]? with
   | none=>rw[q] at h';cases h'
   | some o=>rw[q] at h';exact congrArg some h'
section
variable {X:Cx}{U:qb}{Z:St}{H:Hp}{s:Shared}
def jrw{scope:Scope}{own:List Str}{caps:qf}{h':Heap}{t':Nat}{fp:List Addr}(I:Inv X U Z H s)(ck:CapsOk X scope caps)
  (hf:∀ b∈fp,FpOk X U H b) (hb:∀ b∈fp,b<s.heap.objs.size) (ns:h'.Ns s.heap.objs.size fun x=>([]:List (Str×Value)).reverse.lookup x)
  (sb:Heap.SameBut s.heap.objs.size (s.heap.push { cls:=.type "dict",data:=.dict #[] }) h') :
  Inv (jb5 X scope (own++caps.map (·.1)) s.heap.objs.size s H fp) [] (jdv own.length caps Z) H { s with heap:=h',toks:=t' }:=by
 have up:∀ b o,s.heap.get? b=some o->h'.get? b=some o:=fun b o e=>sb.extBut b o (zcw (zbv e)) (zaz _ e)
 have stk:∀ b∈fp,b∉frs X.stack:=fun b hb' z=>by
  obtain⟨_,f1,f2,_⟩:=hf b hb';rcases List.mem_cons.mp (I.stkSub b z) with q|q
  ·exact f1 q
  ·exact f2 q
 have clc:∀ x c,(clOf X.env.cells scope.names []).lookup x=some c->X.env.cells.lookup x=some c:=fun x c h=>by
  rcases jrf _ _ h with e|⟨e1,e2⟩
  ·cases e
  ·obtain⟨c',hc'⟩:=I.ok.has x (ck.fre _ e1 rfl);rw[hc'] at e2 |-
   exact congrArg some e2.symm
 have cell:∀ x c,(clOf X.env.cells scope.names []).lookup x=some c->∃ v,s.heap.IsCell c v:=fun x c h=>I.cell x c (clc x c h)
 have okk:(jb5 X scope (own++caps.map (·.1)) s.heap.objs.size s H fp).Ok:=by
  refine⟨I.ok.mod,ck.kind,I.ok.glob,I.ok.blt,zac _,fun x y c h1 h2=>I.ok.inj x y c (clc x c h1) (clc y c h2),fun x hx=>?_,fun x c hfn=>?_,I.ok.hd,I.ok.frames,.inl rfl,fun b z=>⟨?_,fun x c h=>?_⟩,I.bs,
   zdy I.ok.bsz I.sz,fun b o e z=>?_,stk,I.stack,I.stkFree⟩
  ·have hx':∃ k,(scope.names.map fun (n,k)=>if (k == NameKind.free&&X.env.scope.kind == .function&&X.env.kindOf n == some .cell) then (n,NameKind.cell) else (n,k)).lookup x=some k/\(k=.cell\/k=.free):=by
    rcases hx with q|q
    ·exact⟨_,q,.inl rfl⟩
    ·exact⟨_,q,.inr rfl⟩
   obtain⟨k,q,hk⟩:=hx';obtain⟨k',e,r⟩:=jg6 (scope:=scope) q;have m:=PySem.mem_of_lookup e;have hfree:k'=.free:=by
    rcases r with r|r
    ·rcases hk with hk|hk
     ·exact absurd (r.symm.trans hk) (ck.nocell _ m)
     ·exact r.symm.trans hk
    ·exact r.1
   subst hfree;exact⟨_,jm3 _ _ m⟩
  ·cases hfn
  ·exact zcw (hb b z)
  ·exact (hf b z).2.2.2.2.1 x c (clc x c h)
  ·rcases (hf b z).2.2.2.1 with q|q
   ·exact I.ok.noex b o e q
   ·exact absurd (zcx (zbv e) (zdy I.ok.bsz q)) (Nat.lt_irrefl _)
 refine⟨okk,rfl,I.bare,Un.kept up,⟨_,ns,fun i x v h1 h2 h3=>?_⟩,fun x c h=>?_,I.hok.fresh (zac _),fun x c h=>I.freeC x c (clc x c h),fun p hp=>absurd (show p∈([]:qb) from hp) (by simp),I.hok.kept up,?_⟩
 ·obtain⟨p,hp,hi,hv⟩:=ju7 h2;have hx:p.1=x:=by
   have h1':(own++caps.map (·.1))[i]? = some x:=h1;rw[List.getElem?_append_right hi,zba,hp] at h1';exact zby h1'
  subst hx;obtain⟨cN,cf⟩:=ck.cap p (List.mem_of_getElem? hp);have mem:=PySem.mem_of_lookup cf;obtain⟨m,hn,hl⟩:=I.loc;have kf:=ck.fre _ mem rfl;obtain⟨u,r,l⟩:=hl p.2 p.1 v cN hv (by rcases kf with q|q;exact .inr (.inl q);exact .inr (.inr q));refine⟨u,r,.inr ?_⟩;rcases l with ⟨k,_⟩|⟨k,c,e,z⟩
  ·rcases kf with q|q<;>(rw[q] at k;cases k)
  ·refine⟨jg5 cf,c,?_,z.keeps up⟩;show (clOf X.env.cells scope.names []).lookup p.1=some c;rw[jm3 _ _ mem,e];rfl
 ·obtain⟨v,z⟩:=cell x c h;exact⟨v,z.keeps up⟩
 ·show (jdv own.length caps Z).length=(own++caps.map (·.1)).length;simp[jdv]
end
abbrev NoX:qc:=fun _ _=>False
def jyw{α:Type}{M:Model}{A:Around}{t:Sem α}{Q:α->Shared->Prop}{E:qc}{s:Shared}(h:wpAny M A t Q NoX s):wpAny M A t Q E s:=wpAny_mono h (fun _ _ q=>q) fun _ _ q=>q.elim
abbrev jxh(ifs:List Expr)(env:Env):Sem Bool:=forIn ifs true fun c r=>if r=true then do let ok <- isTrue c env (eval c env);pure (ForInStep.yield ok) else pure (ForInStep.yield r)
section
variable {prog:Program}{w:World}{A:Around}{R:Result->Shared->Prop}{s:Shared}
def jjn{elt target iter:Expr}{ifs:List Expr}{scope:Scope}{pos:Pos}{it acc:Value}{env:Env}(Jq:Nat->Shared->Prop)
  (turn:∀ n s,Jq n s->wpAny (model prog w) A (pyNext it) (fun r s1=>match r with
   | none=>R (.ok .next) s1
   | some v=>wpAny (model prog w) A (letOwnedTupleGo target it v) (fun _ s2=>wpAny (model prog w) A (assign target env v) (fun _ s3=>wpAny (model prog w) A (jxh ifs env) (fun ok s4 =>
     if ok=true then wpAny (model prog w) A (eval elt env) (fun x s5=>wpAny (model prog w) A (call (.builtin "list.append") [acc,x]) (fun _ s6=>∃ m,m<n/\Jq m s6) NoX s5) NoX s4
     else ∃ m,m<n/\Jq m s4) NoX s3) NoX s2) NoX s1) NoX s)
  (n:Nat) (h:Jq n s):codeAny (model prog w) A (.compLoop (.ListComp elt [⟨target,iter,ifs,0⟩] scope pos) 0 it acc env) R s:=by
 refine codeAny_loop rfl Jq (fun n s hJ=>?_) n h;show wpAny _ A ((compTurn (.ListComp elt [⟨target,iter,ifs,0⟩] scope pos) 0 it acc env).onRaise (fun x=>do noteFrame x env;theTreesLotGoes x)) _ _ s;refine wpAny_noted (jyw ?_);rw[compTurn_list];refine zay (wpAny_standAt (zay (thn (turn n s hJ) fun r s1 h1=>?_)))
 cases r with
 | none=>exact zab h1
 | some v =>
  refine zay (thn h1 fun _ s2 h2=>zay (thn h2 fun _ s3 h3=>zay (thn h3 fun ok s4 h4=>?_)))
  cases ok with
  | false =>
   rw[if_neg (by decide)] at h4
   first
    | exact zab ⟨rfl,h4⟩
    | exact zay (zab (zab ⟨rfl,h4⟩))
  | true =>
   rw[if_pos rfl] at h4
   first
    | exact zay (zay (thn h4 fun x s5 h5=>zay (thn h5 fun _ s6 h6=>zab (zab ⟨rfl,h6⟩))))
    | exact zay (thn h4 fun x s5 h5=>zay (thn h5 fun _ s6 h6=>zab ⟨rfl,h6⟩))
end
section
variable {X:Cx}
def PC0(X:Cx)(ifs:List Expr)(t:TT):Prop :=
 ∀ (U:qb) (s:Shared) (Z:St) (H:Hp) (Q:Bool->Hp->Prop),Inv X U Z H s->t Z H Q->wpAny (model X.prog X.w) X.A (jxh ifs X.env) (TP X U Z Q) X.xe s
def jEj:TT:=fun _ H Q=>Q true H
def jDl:PC0 X [] jEj:=fun U s Z H Q I h=>wpAny_tests_nil ⟨H,I,h⟩
def jGv{c:Expr}{t:TT}(h:PT X c t):PC0 X [c] t:=fun U s Z H Q I hw=>wpAny_tests_one (h U s Z H Q I hw)
def jCv{P:Program}{w:World}{H:Hp}{h h':Heap}{C:Addr}(ok:HOk P w H h)(hC:H C=none)(sb:Heap.SameBut C h h'):HOk P w H h':=fun b ob e=>by
 refine (ok b ob e).stay (fun c u hc q=>(sb.2 c ?_).trans q) (fun _ q=>q) fun _ _ q=>q
 rintro rfl;rcases hc with rfl|hc
 ·rw[hC] at e;cases e
 ·rw[hC] at hc;cases hc
def jBh{fs ex:List Addr}{H H':Hp}{h h1 h2:Heap}{C:Addr}(u:Un fs ex H H' h h1)(hC:h.objs.size<=C)(sb:Heap.SameBut C h1 h2):Un fs ex H H' h h2:=by
 have ne:∀ b o,h.get? b=some o->b≠C:=fun b o e=>zcw (zcx (zbv e) hC)
 refine⟨fun b o e n a c=>(sb.2 b (ne b o e)).trans (u.keep b o e n a c),fun b o e n a c=>?_,u.free,fun b o e c=>?_,u.tups,u.frzs,u.tbls⟩
 ·obtain⟨sl,q⟩:=u.slot b o e n a c;exact⟨sl,(sb.2 b (ne b o e)).trans q⟩
 ·obtain⟨o',q⟩:=u.there b o e c;exact⟨o',(sb.2 b (ne b o e)).trans q⟩
inductive CpInv(X:Cx)(tn:Nat->Heap->Prop)(fp:List Addr)(W:Nat->Nat->St->Hp->Prop)(n:Nat)(s:Shared):Prop
 | mk (i:Nat) (Z:St) (H:Hp) (hI:Inv X [] Z H s) (ht:tn i s.heap) (hf:∀ b∈fp,H b=none) (hw:W i n Z H)
def jDm{elt tg iter:Expr}{ifs:List Expr}{scope:Scope}{pos:Pos}{own:List Str}{caps:qf}{wi:TI}{g:TG}{tc:TT}{te:TE}(hc:X.calm=true)(ck:CapsOk X scope caps)
  (hi:PI X tg iter wi) (hg:∀ C s0 H0 ex,PG (jb5 X scope (own++caps.map (·.1)) C s0 H0 ex) tg g) (ht:∀ C s0 H0 ex,PC0 (jb5 X scope (own++caps.map (·.1)) C s0 H0 ex) ifs tc)
  (he:∀ C s0 H0 ex,PE (jb5 X scope (own++caps.map (·.1)) C s0 H0 ex) elt te) (hs:∀ x,foldedSetIterable iter X.env x=pure x:=by intro _;rfl) :
  PE X (.ListComp elt [⟨tg,iter,ifs,0⟩] scope pos) (jxg own.length caps wi g tc te):=by
 intro U s Z H Q I h;have hcl:closureFor scope X.env=pure (clOf X.env.cells scope.names []):=jl8 fun p hp hf=>I.ok.has p.1 (ck.fre p hp hf)
 rw[eval_ListComp];refine wpAny_comprehension_free (use:=none) rfl hs hcl ck.kind ck.loc (thn (hi U s Z H _ I h) fun v s1 h1=>thn h1 fun itv s2 h2=>?_);obtain⟨it,fp,tn,Jq,H2,e,I2,T,st2,f2,hw⟩:=h2;subst e;obtain⟨W,⟨m0,w0⟩,turn⟩:=hw s2.heap.objs.size (I2.hok.fresh (zac _));refine wpAny_newObj_type ?_;have hD:=I2.hok.fresh (zac s2.heap.objs.size);have I3:Inv X U Z (upd H2 s2.heap.objs.size (.lst [])) { s2 with heap:=s2.heap.push { cls:=.type "list",data:=.seq ([]:List Value).toArray } } :=
  I2.laid (t':=s2.toks) (fun b u e=>zaz _ e) (zac _) ⟨Nat.zero_le _,[],0,.nil,zbz _ rfl⟩
 have hlt:∀ b∈fp,b<s2.heap.objs.size:=fun b hb=>by obtain⟨o,e,_⟩:=T.obj _ _ st2 b hb;exact zbv e
 have f3:∀ b∈fp,FpOk X U (upd H2 s2.heap.objs.size (.lst [])) b:=fun b hb=>⟨by rw[jai (zcw (hlt b hb))];exact (f2 b hb).1,(f2 b hb).2⟩
 have hlt3:∀ b∈fp,b<(s2.heap.push { cls:=.type "list",data:=.seq ([]:List Value).toArray }).objs.size:=fun b hb=>by rw[Heap.size_push];exact Nat.lt_succ_of_lt (hlt b hb)
 refine wpAny_newFunctionEnv ck.nocell (by intro y hy;simp at hy) (fun h' hns hsb=>?_) ck.kind;generalize hS3:({ s2 with heap:=s2.heap.push { cls:=.type "list",data:=.seq ([]:List Value).toArray } }:Shared)=S3 at I3 hns hsb |-
 have hlt3':∀ b∈fp,b<S3.heap.objs.size:=by rw[<- hS3];exact hlt3
 have I4:=jrw (own:=own) (t':=S3.toks+([]:List (Str×Value)).length) I3 ck f3 hlt3' hns hsb;have st4:tn 0 h':=T.keep _ _ _ st2 fun b hb o e=>hsb.extBut b o (zcw (hlt3' b hb)) (zaz _ (by rw[<- hS3];exact zaz _ e))
 have hsz:s2.heap.objs.size<S3.heap.objs.size:=by rw[<- hS3];show _<(Heap.push _ _).objs.size;rw[Heap.size_push];exact Nat.lt_succ_self _
 generalize hCC:S3.heap.objs.size=C at I4 hsb hns hsz;have loop:codeAny (model X.prog X.w) X.A (.compLoop (.ListComp elt [⟨tg,iter,ifs,0⟩] scope pos) 0 (.ref it) (.ref s2.heap.objs.size) (compEnvC scope (clOf X.env.cells scope.names []) C X.env))
   (compPost (model X.prog X.w) X.A X.xe none (EP X U Z Q) (.ref s2.heap.objs.size) C) { S3 with heap:=h',toks:=S3.toks+([]:List (Str×Value)).length }:=by
  have xf:∀ {H':Hp},(∀ b∈fp,H' b=none)->∀ b∈fp,FpOk (jb5 X scope (own++caps.map (·.1)) C S3 (upd H2 s2.heap.objs.size (.lst [])) fp) [] H' b:=fun hn b hb=>by
   refine⟨hn b hb,?_,?_,.inl hb,fun x c e=>(I4.ok.exf b hb).2 x c e,fun p hp=>absurd (show p∈([]:qb) from hp) (by simp)⟩
   ·exact (I4.ok.exf b hb).1
   ·exact I4.ok.exfs b hb
  refine jjn (CpInv (jb5 X scope (own++caps.map (·.1)) C S3 (upd H2 s2.heap.objs.size (.lst [])) fp) tn fp W) ?_ m0
   ⟨0,_,_,I4,st4,fun b hb=>(f3 b hb).1,w0⟩
  rintro n s5 ⟨i,Z5,H5,I5,st5,fr5,w5⟩;rcases turn i n Z5 H5 w5 with ⟨stop,qn⟩|⟨go,N,hN,step⟩
  ·refine thn (T.done (jb5 X scope (own++caps.map (·.1)) C S3 (upd H2 s2.heap.objs.size (.lst [])) fp) rfl rfl rfl hc i [] s5 Z5 H5 NoX I5 (xf fr5) st5 stop) fun r s6 hzz=>?_
   obtain⟨hr,I6⟩:=hzz;subst hr;obtain⟨m6,n6,_⟩:=id I6.loc;refine⟨m6,n6,fun h7 sb7=>⟨.ref s2.heap.objs.size,H5,?_,rfl,qn⟩⟩;have C3:S3.heap.objs.size<=C:=Nat.le_of_eq hCC;refine I3.call' (s':={ s6 with heap:=h7 }) (ch:=fp) I6.os (jBh I6.base C3 sb7) (jCv I6.hok I6.free sb7) I6.bare fun b hb=>?_
   obtain⟨_,q1,_,q3,q4,q5⟩:=f3 b hb;exact⟨q3,q1,q4,q5⟩
  ·refine thn (T.item (jb5 X scope (own++caps.map (·.1)) C S3 (upd H2 s2.heap.objs.size (.lst [])) fp) rfl rfl rfl hc i [] s5 Z5 H5 NoX I5 (xf fr5) st5 go) fun r s6 hzz=>?_
   obtain⟨u,hr,h6⟩:=hzz;subst hr;refine thn h6 fun _ s7 hzz=>?_
   obtain⟨x,H7,I7,r7,y7,st7,fr7⟩:=hzz;have I7':=I7.pinned (xf fr7) (T.obj _ _ st7);refine thn (hg _ _ _ _ _ s7 Z5 H7 x u _ I7' r7 (step x H7 y7)) fun _ s8 hzz=>?_
   obtain⟨Z8,H8,I8,q8⟩:=hzz;refine thn (ht _ _ _ _ _ s8 Z8 H8 _ I8 q8) fun ok s9 hzz=>?_
   obtain⟨H9,I9,q9⟩:=hzz;have again:∀ {s':Shared} {Z':St} {H':Hp},Inv (jb5 X scope (own++caps.map (·.1)) C S3 (upd H2 s2.heap.objs.size (.lst [])) fp) ([]++jmn fp s7.heap) Z' H' s'->N Z' H'->∃ m,m<n/\CpInv (jb5 X scope (own++caps.map (·.1)) C S3 (upd H2 s2.heap.objs.size (.lst [])) fp) tn fp W m s':=fun {s' Z' H'} Ia na=>by
    obtain⟨m',hm,wa⟩:=hN Z' H' na;refine⟨m',hm,i+1,Z',H',Ia.unpinned,T.keep _ _ _ st7 fun b hb o e=>(Ia.pin (b,o) (zcy _ (zcy _ (jeu hb e)))).1,fun b hb=>?_,wa⟩;obtain⟨o,e,d⟩:=T.obj _ _ st7 b hb;exact (Ia.pin (b,o) (zcy _ (zcy _ (jeu hb e)))).2.1
   cases ok with
   | false =>
    rw[if_neg (by decide)] at q9 |-
    exact again I9 q9
   | true =>
    rw[if_pos rfl] at q9 |-
    refine thn (he _ _ _ _ _ s9 Z8 H9 _ I9 q9) fun y s10 hzz=>?_
    obtain⟨vy,H10,I10,r10,ys,hys,hlen,q10⟩:=hzz;refine thn (jir _ s10 Z8 H10 (.ref s2.heap.objs.size) [vy] (.ref s2.heap.objs.size) [y] (fun _ H'=>N Z8 H') I10 rfl (.cons r10 .nil) ⟨_,ys,vy,rfl,rfl,hys,hlen,q10⟩) fun _ s11 hzz=>?_
    obtain⟨_,H11,I11,_,q11⟩:=hzz;exact again I11 q11
 exact codeAny_compStart_list loop (T.self _ 0 _ _ _ st4 loop)
end
end L2
namespace DL
open L2
inductive D where
 | non|bl (b:Bool)|int (i:Int)|str (x:Str)|ty (n:String)|obj (i:Nat)|tup (xs:List D)|lst (xs:List D)
structure XD where
 cls:Str
 fs:List (Str×D)
abbrev M(α:Type):=Option (Except XD α)
def M.b{α β:Type}(m:M α)(f:α->M β):M β:=match m with
 | none=>none
 | some (.error x)=>some (.error x)
 | some (.ok a)=>f a
def M.p{α:Type}(a:α):M α:=some (.ok a)
def M.o{α:Type}:Option α->M α
 | none=>none
 | some a=>some (.ok a)
inductive M.BInv{α β:Type}(m:M α)(f:α->M β)(r:Except XD β):Prop
 | ok (a:α) (h1:m=some (.ok a)) (h2:f a=some r)
 | err (x:XD) (h1:m=some (.error x)) (h2:r=.error x)
def M.b_inv{α β:Type}{m:M α}{f:α->M β}{r:Except XD β}(h:m.b f=some r):M.BInv m f r:=by
 cases m with
 | none=>cases h
 | some e =>
  cases e with
  | error x=>exact .err x rfl (zby h).symm
  | ok a=>exact .ok a rfl h
def M.o_inv{α:Type}{m:Option α}{r:Except XD α}(h:M.o m=some r):∃ a,m=some a/\r=.ok a:=by
 cases m with
 | none=>cases h
 | some a=>exact⟨a,rfl,(zby h).symm⟩
@[simp] theorem M.b_ok{α β:Type}(a:α)(f:α->M β):M.b (some (.ok a)) f=f a:=rfl
@[simp] theorem M.b_p{α β:Type}(a:α)(f:α->M β):M.b (M.p a) f=f a:=rfl
@[simp] theorem M.b_err{α β:Type}(x:XD)(f:α->M β):M.b (some (.error x)) f=some (.error x):=rfl
@[simp] theorem M.o_some{α:Type}(a:α):M.o (some a)=M.p a:=rfl
abbrev Rho:=Nat->Option Addr
mutual
def Rep(J:Rho)(K:W.Frag)(H:Hp):D->V->Prop
 | .non,v=>v=.non
 | .bl b,v=>v=.bl b
 | .int i,v=>v=.int i
 | .str x,v=>v=.str x
 | .ty n,v=>v=.ty n
 | .obj i,v=>∃ a,J i=some a/\v=.ref a
 | .tup ds,v=>∃ a xs,v=.ref a/\SqT K H a xs/\Reps J K H ds xs
 | .lst ds,v=>∃ a xs,v=.ref a/\SqL K H a xs/\Reps J K H ds xs
def Reps(J:Rho)(K:W.Frag)(H:Hp):List D->List V->Prop
 | [],xs=>xs=[]
 | d::ds,xs=>∃ v vs,xs=v::vs/\Rep J K H d v/\Reps J K H ds vs
end
variable {J:Rho}{K:W.Frag}{H H':Hp}
def jw4{a:Addr}{u:HO}(e:Same H H')(h:Rd H a u):Rd H' a u:=by
 rcases h with h|⟨o,h⟩
 ·exact .inl (e a _ h)
 ·exact .inr ⟨o,e a _ h⟩
def jd3{a:Addr}{xs:List V}(e:Same H H')(h:SqL K H a xs):SqL K H' a xs:=h.imp (jw4 e) id
def jda{a:Addr}{xs:List V}(e:Same H H')(h:SqT K H a xs):SqT K H' a xs:=h.imp (jw4 e) id
mutual
def Rep.mono(e:Same H H'):∀ {d:D} {v:V},Rep J K H d v->Rep J K H' d v
 | .non,_,h=>by unfold Rep at h |-;exact h
 | .bl _,_,h=>by unfold Rep at h |-;exact h
 | .int _,_,h=>by unfold Rep at h |-;exact h
 | .str _,_,h=>by unfold Rep at h |-;exact h
 | .ty _,_,h=>by unfold Rep at h |-;exact h
 | .obj _,_,h=>by unfold Rep at h |-;exact h
 | .tup _,_,h=>by
  unfold Rep at h |-
  obtain⟨a,xs,q1,q2,q3⟩:=h;exact⟨a,xs,q1,jda e q2,Reps.mono e q3⟩
 | .lst _,_,h=>by
  unfold Rep at h |-
  obtain⟨a,xs,q1,q2,q3⟩:=h;exact⟨a,xs,q1,jd3 e q2,Reps.mono e q3⟩
def Reps.mono(e:Same H H'):∀ {ds:List D} {vs:List V},Reps J K H ds vs->Reps J K H' ds vs
 | [],_,h=>by unfold Reps at h |-;exact h
 | _::_,_,h=>by
  unfold Reps at h |-
  obtain⟨v,vs,q1,q2,q3⟩:=h;exact⟨v,vs,q1,Rep.mono e q2,Reps.mono e q3⟩
end
def reps_nil{vs:List V}:Reps J K H [] vs↔vs=[]:=by unfold Reps;exact Iff.rfl
def reps_cons{d:D}{ds:List D}{vs:List V}:Reps J K H (d::ds) vs↔∃ v r,vs=v::r/\Rep J K H d v/\Reps J K H ds r:=by
 conv=>lhs;unfold Reps
def Reps.cons{d:D}{ds:List D}{v:V}{vs:List V}(h:Rep J K H d v)(t:Reps J K H ds vs):Reps J K H (d::ds) (v::vs):=reps_cons.mpr ⟨v,vs,rfl,h,t⟩
def Reps.nil:Reps J K H [] []:=reps_nil.mpr rfl
theorem Reps.length:∀ {ds:List D} {vs:List V},Reps J K H ds vs->vs.length=ds.length
 | [],_,h=>by rw[reps_nil.mp h];rfl
 | _::_,_,h=>by
  obtain⟨v,r,rfl,_,t⟩:=reps_cons.mp h;simp[Reps.length t]
theorem Reps.get:∀ {ds:List D} {vs:List V} {i:Nat} {d:D},Reps J K H ds vs->ds[i]? = some d->∃ v,vs[i]? = some v/\Rep J K H d v
 | [],_,_,_,_,e=>by simp at e
 | _::_,_,0,_,h,e=>by
  obtain⟨v,r,rfl,q,_⟩:=reps_cons.mp h;simp at e;subst e
  exact⟨v,rfl,q⟩
 | _::_,_,i+1,_,h,e=>by
  obtain⟨v,r,rfl,_,t⟩:=reps_cons.mp h;obtain⟨u,q1,q2⟩:=Reps.get (i:=i) t (by simpa using e);exact⟨u,by simpa using q1,q2⟩
theorem Reps.append:∀ {ds es:List D} {vs us:List V},Reps J K H ds vs->Reps J K H es us->Reps J K H (ds++es) (vs++us)
 | [],_,_,_,h,k=>by rw[reps_nil.mp h];exact k
 | _::_,_,_,_,h,k=>by
  obtain⟨v,r,rfl,q,t⟩:=reps_cons.mp h;exact Reps.cons q (Reps.append t k)
def rep_int{i:Int}{v:V}:Rep J K H (.int i) v↔v=.int i:=by unfold Rep;exact Iff.rfl
def rep_str{x:Str}{v:V}:Rep J K H (.str x) v↔v=.str x:=by unfold Rep;exact Iff.rfl
def rep_ty{n:String}{v:V}:Rep J K H (.ty n) v↔v=.ty n:=by unfold Rep;exact Iff.rfl
def rep_obj{i:Nat}{v:V}:Rep J K H (.obj i) v↔∃ a,J i=some a/\v=.ref a:=by unfold Rep;exact Iff.rfl
def rep_bl{b:Bool}{v:V}:Rep J K H (.bl b) v↔v=.bl b:=by unfold Rep;exact Iff.rfl
def rep_non{v:V}:Rep J K H .non v↔v=.non:=by unfold Rep;exact Iff.rfl
def rep_tup{ds:List D}{v:V}:Rep J K H (.tup ds) v↔∃ a xs,v=.ref a/\SqT K H a xs/\Reps J K H ds xs:=by conv=>lhs;unfold Rep
def rep_lst{ds:List D}{v:V}:Rep J K H (.lst ds) v↔∃ a xs,v=.ref a/\SqL K H a xs/\Reps J K H ds xs:=by conv=>lhs;unfold Rep
theorem reps_ints:∀ {ns:List Int} {vs:List V},Reps J K H (ns.map .int) vs↔vs=ns.map V.int
 | [],vs=>reps_nil
 | n::ns,vs=>by
  rw[List.map_cons,reps_cons];constructor
  ·rintro⟨v,r,rfl,h1,h2⟩;rw[rep_int.mp h1,reps_ints.mp h2];rfl
  ·rintro rfl;exact⟨_,_,rfl,rep_int.mpr rfl,reps_ints.mpr rfl⟩
def hid(H:Hp)(G:qd):Hp:=fun b=>if G b=true then none else H b
def hid_some{G:qd}{b:Addr}{o:HO}:hid H G b=some o↔G b=false/\H b=some o:=by
 unfold hid;cases e:G b<;>simp
def jas{G:qd}(e:Same H H'):Same (hid H G) (hid H' G):=fun b o h=>by
 obtain⟨q1,q2⟩:=hid_some.mp h;exact hid_some.mpr ⟨q1,e b o q2⟩
def jfj{G G':qd}(h:∀ b,G' b=true->G b=true):Same (hid H G) (hid H G'):=fun b o q=>by
 obtain⟨q1,q2⟩:=hid_some.mp q;refine hid_some.mpr ⟨?_,q2⟩
 cases e:G' b with
 | false=>rfl
 | true=>rw[h b e] at q1;cases q1
def jao{G:qd}:Same (hid H G) H:=fun b o q=>(hid_some.mp q).2
def je2{G:qd}{a:Addr}{o:HO}(h:G a=true):hid (upd H a o) G=hid H G:=by
 funext b
 unfold hid upd
 by_cases e:b=a
 ·subst e;rw[if_pos h,if_pos h]
 ·rw[if_neg e]
def ja7{p:Addr}{o:HO}(h:H p=none):Same H (upd H p o):=fun b u e=>by rw[jai (ja6 e h)];exact e
def jg7{Hz:Hp}{p:Addr}{o:HO}(e:Same Hz H)(h:Hz p=none):Same Hz (upd H p o):=fun b u q=>by rw[jai (ja6 q h)];exact e b u q
abbrev DSt:=List (Option D)
def jD5:Option (Option V)->Option Addr
 | some (some (.ref a))=>some a
 | _=>none
def js8{o:Option (Option V)}{a:Addr}:jD5 o=some a↔o=some (some (.ref a)):=by
 constructor
 ·intro h;unfold jD5 at h
  split at h
  ·cases h;rfl
  ·cases h
 ·rintro rfl;rfl
def ownA(Z:St):List Nat->List Addr
 | []=>[]
 | i::O=>(jD5 Z[i]?).toList++ownA Z O
def jyq{Z:St}{O:List Nat}{a:Addr}:a∈ownA Z O↔∃ i∈O,Z[i]? = some (some (.ref a)):=by
 induction O with
 | nil=>simp[ownA]
 | cons j O ih =>
  unfold ownA;rw[List.mem_append,ih,Option.mem_toList,js8];constructor
  ·rintro (h|⟨i,hi,h⟩)
   ·exact⟨j,zaa,h⟩
   ·exact⟨i,zaw _ hi,h⟩
  ·rintro⟨i,hi,h⟩;rcases List.mem_cons.mp hi with rfl|hi
   ·exact .inl h
   ·exact .inr ⟨i,hi,h⟩
def fob(F:qd)(Z:St)(O:List Nat):qd:=fun b=>F b || (ownA Z O).contains b
def fob_t{F:qd}{Z:St}{O:List Nat}{b:Addr}:fob F Z O b=true↔F b=true\/∃ i∈O,Z[i]? = some (some (.ref b)):=by
 unfold fob;rw[Bool.or_eq_true,zbc,jyq]
def jc2{F:qd}{Z:St}:fob F Z []=F:=by
 funext b;unfold fob ownA;simp
structure RS(J:Rho)(K:W.Frag)(Hz H:Hp)(F:qd)(O:List Nat)(Z:St)(Y:DSt):Prop where
 len:Z.length=Y.length
 same:Same Hz H
 fin:∀ b,F b=true->H b≠none
 val:∀ (i:Nat) d,Y[i]? = some (some d)->i∉O->∃ v,Z[i]? = some (some v)/\Rep J K (hid H (fob F Z O)) d v
 own:∀ i∈O,∃ (a:Addr) (xs:List V) (ds:List D),Y[i]? = some (some (.lst ds))/\Z[i]? = some (some (.ref a))/\H a=some (.lst xs)/\(Hz a=none/\F a=false)/\Reps J K (hid H (fob F Z O)) ds xs
 nd:∀ i∈O,∀ j∈O,∀ a,Z[i]? = some (some (.ref a))->Z[j]? = some (some (.ref a))->i=j
section
variable {Hz:Hp}{F:qd}{O:List Nat}{Z:St}{Y:DSt}
def jD7{b:Addr}(e:Same H H')(h:H b≠none):H' b≠none:=fun z=>by
 cases q:H b with
 | none=>exact h q
 | some o=>rw[e b o q] at z;cases z
def jg9{b p:Addr}{o:HO}(h:H b≠none):upd H p o b≠none:=by
 by_cases e:b=p
 ·subst e;rw[jam];exact fun z=>nomatch z
 ·rw[jai e];exact h
def RS.mono(R:RS J K Hz H F O Z Y)(e:Same H H'):RS J K Hz H' F O Z Y :=
 ⟨R.len,R.same.trans e,fun b hb=>jD7 e (R.fin b hb),fun i d h ho=>let ⟨v,q1,q2⟩:=R.val i d h ho;⟨v,q1,q2.mono (jas e)⟩,
  fun i hi=>let ⟨a,xs,ds,q1,q2,q3,q4,q5⟩:=R.own i hi;⟨a,xs,ds,q1,q2,e a _ q3,q4,q5.mono (jas e)⟩,R.nd⟩
def RS.fresh(R:RS J K Hz H F O Z Y){p:Addr}(h:H p=none):fob F Z O p=false:=by
 cases e:fob F Z O p with
 | false=>rfl
 | true =>
  rcases fob_t.mp e with q|⟨i,hi,q⟩
  ·exact absurd h (R.fin p q)
  ·obtain⟨a,xs,ds,_,q2,q3,_⟩:=R.own i hi;rw[q] at q2;cases q2
   rw[q3] at h;cases h
def RS.fresh0(R:RS J K Hz H F O Z Y){p:Addr}(h:H p=none):Hz p=none:=by
 cases e0:Hz p with
 | none=>rfl
 | some o=>rw[R.same p o e0] at h;cases h
def RS.thaw{O':List Nat}(R:RS J K Hz H F O Z Y)(h:∀ i∈O',i∈O):RS J K Hz H F O' Z Y:=by
 have le:∀ b,fob F Z O' b=true->fob F Z O b=true:=fun b q=>by
  rcases fob_t.mp q with q|⟨i,hi,q⟩
  ·exact fob_t.mpr (.inl q)
  ·exact fob_t.mpr (.inr ⟨i,h i hi,q⟩)
 refine⟨R.len,R.same,R.fin,fun i d hd ho=>?_,fun i hi=>?_,fun i hi j hj=>R.nd i (h i hi) j (h j hj)⟩
 ·by_cases hO:i∈O
  ·obtain⟨a,xs,ds,q1,q2,q3,q4,q5⟩:=R.own i hO;rw[q1] at hd;cases hd
   refine⟨_,q2,rep_lst.mpr ⟨a,xs,rfl,SqL.of (hid_some.mpr ⟨?_,q3⟩),q5.mono (jfj le)⟩⟩
   cases e:fob F Z O' a with
   | false=>rfl
   | true =>
    rcases fob_t.mp e with z|⟨j,hj,z⟩
    ·rw[q4.2] at z;cases z
    ·exact absurd (R.nd i hO j (h j hj) a q2 z ▸ hj) ho
  ·obtain⟨v,q1,q2⟩:=R.val i d hd hO;exact⟨v,q1,q2.mono (jfj le)⟩
 ·obtain⟨a,xs,ds,q1,q2,q3,q4,q5⟩:=R.own i (h i hi);exact⟨a,xs,ds,q1,q2,q3,q4,q5.mono (jfj le)⟩
def jb8{i:Nat}{v:V}(h:i∉O):fob F (Z.set i (some v)) O=fob F Z O:=by
 have:ownA (Z.set i (some v)) O=ownA Z O:=by
  induction O with
  | nil=>rfl
  | cons j O ih =>
   unfold ownA;rw[zbw (by rintro rfl;exact h zaa),ih fun z=>h (zaw _ z)]
 unfold fob;rw[this]
def RS.set(R:RS J K Hz H F O Z Y){i:Nat}{d:D}{v:V}(ho:i∉O)(hr:Rep J K (hid H (fob F Z O)) d v):RS J K Hz H F O (Z.set i (some v)) (Y.set i (some d)):=by
 have ne:∀ j∈O,j≠i:=fun j hj e=>ho (e ▸ hj)
 refine⟨by simp[R.len],R.same,R.fin,fun j e hd hj=>?_,fun j hj=>?_,fun j hj k hk a e1 e2=>?_⟩
 ·rw[jb8 ho]
  by_cases hji:j=i
  ·subst hji;have hl:j<Y.length:=by
    by_cases q:j<Y.length
    ·exact q
    ·rw[List.getElem?_eq_none (by simpa using q)] at hd;cases hd
   rw[zcz hl] at hd;cases hd;exact⟨v,zcz (by rw[R.len];exact hl),hr⟩
  ·rw[zbw (Ne.symm hji)] at hd |-
   exact R.val j e hd hj
 ·rw[jb8 ho,zbw (Ne.symm (ne j hj)),zbw (Ne.symm (ne j hj))];exact R.own j hj
 ·rw[zbw (Ne.symm (ne j hj))] at e1;rw[zbw (Ne.symm (ne k hk))] at e2;exact R.nd j hj k hk a e1 e2
def RS.take(R:RS J K Hz H F O Z Y){i:Nat}{ds:List D}{p:Addr}{xs:List V}{H1:Hp}(ho:i∉O)(hi:i<Y.length)(e:Same H H1)(hp:H1 p=none)(hr:Reps J K (hid H1 (fob F Z O)) ds xs) :
  RS J K Hz (upd H1 p (.lst xs)) F (i::O) (Z.set i (some (.ref p))) (Y.set i (some (.lst ds))):=by
 have R1:=R.mono e;have p0:=R1.fresh0 hp;have pf:=R1.fresh hp;have ne:∀ j∈O,j≠i:=fun j hj e=>ho (e ▸ hj)
 have lZ:i<Z.length:=by rw[R.len];exact hi
 have gp:∀ b,fob F (Z.set i (some (.ref p))) (i::O) b=true↔b=p\/fob F Z O b=true:=fun b=>by
  rw[fob_t,fob_t];constructor
  ·rintro (q|⟨j,hj,q⟩)
   ·exact .inr (.inl q)
   ·rcases List.mem_cons.mp hj with rfl|hj
    ·rw[zcz lZ] at q;cases q;exact .inl rfl
    ·rw[zbw (Ne.symm (ne j hj))] at q;exact .inr (.inr ⟨j,hj,q⟩)
  ·rintro (rfl|q|⟨j,hj,q⟩)
   ·exact .inr ⟨i,zaa,zcz lZ⟩
   ·exact .inl q
   ·exact .inr ⟨j,zaw _ hj,by rw[zbw (Ne.symm (ne j hj))];exact q⟩
 have eqH:hid (upd H1 p (.lst xs)) (fob F (Z.set i (some (.ref p))) (i::O))=hid H1 (fob F Z O):=by
  funext b
  by_cases hb:b=p
  ·subst hb;unfold hid;rw[if_pos ((gp b).mpr (.inl rfl)),hp]
   split<;>rfl
  ·unfold hid;rw[jai hb]
   cases q:fob F Z O b with
   | true=>rw[if_pos ((gp b).mpr (.inr q)),if_pos rfl]
   | false =>
    rw[if_neg (by rw[gp];rintro (z|z);exact hb z;rw[q] at z;cases z),if_neg (by decide)]
 refine⟨by simp[R.len],jg7 R1.same p0,fun b hb=>jg9 (R1.fin b hb),fun j d hd hj=>?_,fun j hj=>?_,fun j hj k hk a e1 e2=>?_⟩
 ·have hji:j≠i:=fun z=>hj (z ▸ zaa)
  rw[eqH];rw[zbw (Ne.symm hji)] at hd |-
  exact R1.val j d hd fun z=>hj (zaw _ z)
 ·rw[eqH];rcases List.mem_cons.mp hj with rfl|hj
  ·exact⟨p,xs,ds,zcz hi,zcz lZ,jam,⟨p0,by cases z:F p with|false=>rfl|true=>rw[fob_t.mpr (.inl z)] at pf;cases pf⟩,hr⟩
  ·obtain⟨a,ys,es,q1,q2,q3,q4,q5⟩:=R1.own j hj;refine⟨a,ys,es,by rw[zbw (Ne.symm (ne j hj))];exact q1,by rw[zbw (Ne.symm (ne j hj))];exact q2,?_,q4,q5⟩;rw[jai (ja6 q3 hp)];exact q3
 ·have np:∀ j∈O,∀ a,Z[j]? = some (some (.ref a))->a≠p:=fun j hj a q z=>by
   obtain⟨a',ys,es,q1,q2,q3,q4,q5⟩:=R1.own j hj;rw[q] at q2;cases q2
   rw[z,hp] at q3;cases q3
  rcases List.mem_cons.mp hj with rfl|hj
  ·rw[zcz lZ] at e1;cases e1;rcases List.mem_cons.mp hk with rfl|hk
   ·rfl
   ·rw[zbw (Ne.symm (ne k hk))] at e2;exact absurd rfl (np k hk p e2)
  ·rw[zbw (Ne.symm (ne j hj))] at e1;rcases List.mem_cons.mp hk with hke|hk
   ·subst hke;rw[zcz lZ] at e2;cases e2;exact absurd rfl (np j (by assumption) p e1)
   ·rw[zbw (Ne.symm (ne k hk))] at e2;exact R.nd j hj k hk a e1 e2
def RS.write(R:RS J K Hz H F O Z Y){i:Nat}{a:Addr}{ds:List D}{xs:List V}(hi:i∈O)(ha:Z[i]? = some (some (.ref a)))(hr:Reps J K (hid H (fob F Z O)) ds xs) :
  RS J K Hz (upd H a (.lst xs)) F O Z (Y.set i (some (.lst ds))):=by
 obtain⟨a',ys,es,q1,q2,q3,q4,q5⟩:=R.own i hi;rw[ha] at q2;cases q2
 have hl:i<Y.length:=(zbb.mp q1).1;have hh:hid (upd H a (.lst xs)) (fob F Z O)=hid H (fob F Z O):=je2 (fob_t.mpr (.inr ⟨i,hi,ha⟩));refine⟨by simp[R.len],jg7 R.same q4.1,fun b hb=>jg9 (R.fin b hb),fun j d hd hj=>?_,fun j hj=>?_,R.nd⟩
 ·have hji:j≠i:=fun z=>hj (z ▸ hi)
  rw[hh];rw[zbw (Ne.symm hji)] at hd;exact R.val j d hd hj
 ·rw[hh]
  by_cases hji:j=i
  ·subst hji;exact⟨a,xs,ds,zcz hl,ha,jam,q4,hr⟩
  ·obtain⟨b,zs,fs,p1,p2,p3,p4,p5⟩:=R.own j hj;refine⟨b,zs,fs,by rw[zbw (Ne.symm hji)];exact p1,p2,?_,p4,p5⟩;rw[jai (show b≠a from fun z=>hji (R.nd j hj i hi b p2 (by rw[z];exact ha)))];exact p3
end
def XRep(K:W.Frag)(H:Hp)(x:XD)(c:Value)(dx:Option Addr):Prop:=False
def okX(K:W.Frag)(Hz:Hp)(E:XK)(x:XD):Prop:=∀ c dx H',Same Hz H'->XRep K H' x c dx->E c dx H'
inductive tD(K:W.Frag)(O:List Nat)(E:XK)(f:DSt->M D)(Z:St)(H:Hp)(Q:VK):Prop
 | mk (J:Rho) (Hz:Hp) (F:qd) (Y:DSt) (r:Except XD D) (R:RS J K Hz H F O Z Y) (hf:f Y=some r) (k:match (generalizing:=false) r with
  | .ok d=>∀ v H',Same H H'->Rep J K (hid H' (fob F Z O)) d v->Q v H'
  | .error x=>okX K Hz E x)
def DE(X:Cx)(O:List Nat)(E:XK)(e:Expr)(f:DSt->M D):Prop:=PE X e (tD X.K O E f)
inductive tB(K:W.Frag)(O:List Nat)(E:XK)(f:DSt->M Bool)(Z:St)(H:Hp)(Q:Bool->Hp->Prop):Prop
 | mk (J:Rho) (Hz:Hp) (F:qd) (Y:DSt) (r:Except XD Bool) (R:RS J K Hz H F O Z Y) (hf:f Y=some r) (k:match (generalizing:=false) r with
  | .ok b=>∀ H',Same H H'->Q b H'
  | .error x=>okX K Hz E x)
def DT(X:Cx)(O:List Nat)(E:XK)(e:Expr)(f:DSt->M Bool):Prop:=PT X e (tB X.K O E f)
inductive tL(K:W.Frag)(O:List Nat)(E:XK)(f:DSt->M (List D))(Z:St)(H:Hp)(Q:List V->Hp->Prop):Prop
 | mk (J:Rho) (Hz:Hp) (F:qd) (Y:DSt) (r:Except XD (List D)) (R:RS J K Hz H F O Z Y) (hf:f Y=some r) (k:match (generalizing:=false) r with
  | .ok ds=>∀ vs H',Same H H'->Reps J K (hid H' (fob F Z O)) ds vs->Q vs H'
  | .error x=>okX K Hz E x)
def DA(X:Cx)(O:List Nat)(E:XK)(es:List Expr)(f:DSt->M (List D)):Prop:=PA X es (tL X.K O E f)
def vR(i:Nat):DSt->M D:=fun Y=>M.o (Y[i]?).join
def fC(d:D):DSt->M D:=fun _=>M.p d
def f2(g:D->D->Option D)(fa fb:DSt->M D):DSt->M D:=fun Y=>(fa Y).b fun x=>(fb Y).b fun y=>M.o (g x y)
def f1(g:D->Option D)(fa:DSt->M D):DSt->M D:=fun Y=>(fa Y).b fun x=>M.o (g x)
def t2(g:D->D->Option D)(fa fb:DSt->M D):DSt->M Bool:=fun Y=>(fa Y).b fun x=>(fb Y).b fun y=>match g x y with
 | some (.bl b)=>M.p b
 | _=>none
def fNil:DSt->M (List D):=fun _=>M.p []
def jac(f:DSt->M D)(g:DSt->M (List D)):DSt->M (List D):=fun Y=>(f Y).b fun x=>(g Y).b fun xs=>M.p (x::xs)
def fL(k:List D->Option D)(g:DSt->M (List D)):DSt->M D:=fun Y=>(g Y).b fun xs=>M.o (k xs)
section
variable {J:Rho}{X:Cx}{O:List Nat}{E:XK}{a b c e:Expr}{es:List Expr}{fa fb fc:DSt->M D}{fl:DSt->M (List D)}{pos:Pos}
def join_some{Y:DSt}{i:Nat}{d:D}(h:(Y[i]?).join=some d):Y[i]? = some (some d):=by
 cases e:Y[i]? with
 | none=>rw[e] at h;cases h
 | some o=>rw[e] at h;exact congrArg some h
def jab(i:Nat){x:Str}(ho:O.contains i=false:=by rfl)(hN:X.N[i]? = some x:=by rfl)(hv:Vis X.env.scope x:=by first|exact Or.inl rfl|exact Or.inr (Or.inl rfl)|exact Or.inr (Or.inr rfl))
  (hd:(x == ("__debug__":Str))=false:=by decide) (hcd:(x == ("__classdict__":Str))=false:=by decide):DE X O E (.Name x pos) (vR i):=by
 rintro U s Z H Q I ⟨J,Hz,F,Y,r,R,hf,h⟩;obtain⟨d,e,rfl⟩:=M.o_inv hf;have ho':i∉O:=fun z=>by rw[zbc.mpr z] at ho;cases ho
 obtain⟨v,q1,q2⟩:=R.val i d (join_some e) ho';exact jmm hN hv hd hcd U s Z H Q I ⟨v,q1,h v H (Same.refl H) q2⟩
def jkl{t:TE}{d:D}{v:V}(h:PE X e (tC v))(hr:∀ J H,Rep J X.K H d v):DE X O E e (fC d):=by
 rintro U s Z H Q I ⟨J,Hz,F,Y,r,R,hf,k⟩;cases hf;exact h U s Z H Q I (k v H (Same.refl H) (hr _ _))
def jae{i:Int}{j}:DE X O E (.Constant (.int i) j pos) (fC (.int i)):=jkl (t:=tC (.int i)) jGz fun _ _=>rep_int.mpr rfl
def juh{k:Bool}{j}:DE X O E (.Constant (.bool k) j pos) (fC (.bl k)):=jkl (t:=tC (.bl k)) jJp fun _ _=>rep_bl.mpr rfl
def jl9{j}:DE X O E (.Constant .none j pos) (fC .non):=jkl (t:=tC .non) jG1 fun _ _=>rep_non.mpr rfl
def jaq{x:Str}{j}:DE X O E (.Constant (.str x) j pos) (fC (.str x)):=jkl (t:=tC (.str x)) jG4 fun _ _=>rep_str.mpr rfl
def OpD(K:W.Frag)(g:D->D->Option D)(r:R2):Prop:=∀ x y d,g x y=some d->∀ (J:Rho) (H:Hp) (G:qd) u v (Q:VK),(∀ p,H p=none->G p=false)->Rep J K (hid H G) x u->Rep J K (hid H G) y v ->
 (∀ w H',Same H H'->Rep J K (hid H' G) d w->Q w H')->r u v H Q
def UnD(K:W.Frag)(g:D->Option D)(r:V->Hp->VK->Prop):Prop:=∀ x d,g x=some d->∀ (J:Rho) (H:Hp) (G:qd) u (Q:VK),(∀ p,H p=none->G p=false)->Rep J K (hid H G) x u ->
 (∀ w H',Same H H'->Rep J K (hid H' G) d w->Q w H')->r u H Q
def CaD(K:W.Frag)(g:List D->Option D)(r:List V->Hp->VK->Prop):Prop:=∀ xs d,g xs=some d->∀ (J:Rho) (H:Hp) (G:qd) us (Q:VK),(∀ p,H p=none->G p=false)->Reps J K (hid H G) xs us ->
 (∀ w H',Same H H'->Rep J K (hid H' G) d w->Q w H')->r us H Q
def jq6{g:D->D->Option D}{r:R2}{Z:St}{H:Hp}{Q:VK}(hg:OpD X.K g r)(h:tD X.K O E (f2 g fa fb) Z H Q):tOp r (tD X.K O E fa) (tD X.K O E fb) Z H Q:=by
 obtain⟨J,Hz,F,Y,rr,R,hf,h⟩:=h;rcases M.b_inv hf with ⟨x,e1,hf⟩|⟨x,e1,rfl⟩
 ·refine⟨J,Hz,F,Y,.ok x,R,e1,fun u H1 s1 r1=>?_⟩;rcases M.b_inv hf with ⟨y,e2,hf⟩|⟨y,e2,rfl⟩
  ·refine⟨J,Hz,F,Y,.ok y,R.mono s1,e2,fun v H2 s2 r2=>?_⟩;obtain⟨d,hd,rfl⟩:=M.o_inv hf;exact hg x y d hd J H2 _ u v Q (fun p hp=>(R.mono (s1.trans s2)).fresh hp) (r1.mono (jas s2)) r2 fun w H3 s3 r3=>h w H3 (s1.trans (s2.trans s3)) r3
  ·exact⟨J,Hz,F,Y,.error y,R.mono s1,e2,h⟩
 ·exact⟨J,Hz,F,Y,.error x,R,e1,h⟩
def jal{op:Operator}{g:D->D->Option D}{r:R2}(ho:OpR X (binaryOp op) r)(hg:OpD X.K g r)(ha:DE X O E a fa)(hb:DE X O E b fb):DE X O E (.BinOp a op b pos) (f2 g fa fb) :=
 fun U s Z H Q I h=>jG3 ho ha hb U s Z H Q I (jq6 hg h)
def jba{g:D->D->Option D}{r:R2}(ho:IxR X r)(hg:OpD X.K g r)(ha:DE X O E a fa)(hb:DE X O E b fb)(hs:jpz b:=by exact fun _ _=>rfl):DE X O E (.Subscript a b pos) (f2 g fa fb) :=
 fun U s Z H Q I h=>jG0 ho ha hb hs U s Z H Q I (jq6 hg h)
def jjp{op:CmpOp}{g:D->D->Option D}{r:R2}(ho:OpR X (compareOp op) r)(hg:OpD X.K g r)(ha:DE X O E a fa)(hb:DE X O E b fb)(hm:behindInMarks op b=false):DE X O E (.Compare a [op] [b] pos) (f2 g fa fb) :=
 fun U s Z H Q I h=>jwh ho ha hb hm U s Z H Q I (jq6 hg h)
def jax{op:CmpOp}{g:D->D->Option D}{r:R2}(ho:OpR X (compareOp op) r)(hg:OpD X.K g r)(ha:DE X O E a fa)(hb:DE X O E b fb)(hm:behindInMarks op b=false):DT X O E (.Compare a [op] [b] pos) (t2 g fa fb):=by
 rintro U s Z H Q I ⟨J,Hz,F,Y,rr,R,hf,h⟩;refine jwp ho ha hb hm U s Z H Q I (jq6 (r:=r) hg ?_);have key:∃ r':Except XD D,f2 g fa fb Y=some r'/\(match r',rr with|.ok d,.ok b=>d=.bl b|.error x,.error y=>x=y|_,_=>False):=by
  rcases M.b_inv hf with ⟨x,e1,hf⟩|⟨x,e1,rfl⟩
  ·rcases M.b_inv hf with ⟨y,e2,hf⟩|⟨y,e2,rfl⟩
   ·unfold f2;rw[e1,M.b_ok,e2,M.b_ok]
    cases e3:g x y with
    | none=>rw[e3] at hf;cases hf
    | some d =>
     rw[e3] at hf
     cases d with
     | bl k=>cases hf;exact⟨_,rfl,rfl⟩
     | _=>cases hf
   ·exact⟨.error y,by unfold f2;rw[e1,M.b_ok,e2];rfl,rfl⟩
  ·exact⟨.error x,by unfold f2;rw[e1];rfl,rfl⟩
 obtain⟨r',e,q⟩:=key;refine⟨J,Hz,F,Y,r',R,e,?_⟩
 cases r' with
 | error x=>cases rr with
  | error y=>cases q;exact h
  | ok _=>exact q.elim
 | ok d=>cases rr with
  | error y=>exact q.elim
  | ok k =>
   cases q;exact fun v H' s' rv=>⟨k,rep_bl.mp rv,h H' s'⟩
def jKe{g:D->Option D}{r:V->Hp->VK->Prop}{Z:St}{H:Hp}{Q:VK}(hg:UnD X.K g r)(h:tD X.K O E (f1 g fa) Z H Q):tUn r (tD X.K O E fa) Z H Q:=by
 obtain⟨J,Hz,F,Y,rr,R,hf,h⟩:=h;rcases M.b_inv hf with ⟨x,e1,hf⟩|⟨x,e1,rfl⟩
 ·refine⟨J,Hz,F,Y,.ok x,R,e1,fun u H1 s1 r1=>?_⟩;obtain⟨d,hd,rfl⟩:=M.o_inv hf;exact hg x d hd J H1 _ u Q (fun p hp=>(R.mono s1).fresh hp) r1 fun w H3 s3 r3=>h w H3 (s1.trans s3) r3
 ·exact⟨J,Hz,F,Y,.error x,R,e1,h⟩
def jm5{op:UnaryOp}{g:D->Option D}{r:V->Hp->VK->Prop}(ho:UnR X (unaryOp op) r)(hg:UnD X.K g r)(ha:DE X O E a fa):DE X O E (.UnaryOp op a pos) (f1 g fa) :=
 fun U s Z H Q I h=>jJr ho ha U s Z H Q I (jKe hg h)
def jad:DA X O E [] fNil:=by
 rintro p U s Z H Q I ⟨J,Hz,F,Y,r,R,hf,h⟩;cases hf;exact jml p U s Z H Q I (h [] H (Same.refl H) Reps.nil)
def jaa(ha:DE X O E e fa)(hr:DA X O E es fl)(hs:zsE e es X.env:=by rfl):DA X O E (e::es) (jac fa fl):=by
 rintro p U s Z H Q I ⟨J,Hz,F,Y,r,R,hf,h⟩;refine jgc ha hr hs p U s Z H Q I ?_;rcases M.b_inv hf with ⟨x,e1,hf⟩|⟨x,e1,rfl⟩
 ·refine⟨J,Hz,F,Y,.ok x,R,e1,fun u H1 s1 r1=>?_⟩;rcases M.b_inv hf with ⟨xs,e2,hf⟩|⟨y,e2,rfl⟩
  ·cases hf;exact⟨J,Hz,F,Y,.ok xs,R.mono s1,e2,fun vs H2 s2 r2=>h (u::vs) H2 (s1.trans s2) (Reps.cons (r1.mono (jas s2)) r2)⟩
  ·exact⟨J,Hz,F,Y,.error y,R.mono s1,e2,h⟩
 ·exact⟨J,Hz,F,Y,.error x,R,e1,h⟩
def jvk{k:List D->Option D}{r:List V->Hp->VK->Prop}{Z:St}{H:Hp}{Q:VK}(hg:CaD X.K k r)(h:tD X.K O E (fL k fl) Z H Q):tCB r (tL X.K O E fl) Z H Q:=by
 obtain⟨J,Hz,F,Y,rr,R,hf,h⟩:=h;rcases M.b_inv hf with ⟨x,e1,hf⟩|⟨x,e1,rfl⟩
 ·refine⟨J,Hz,F,Y,.ok x,R,e1,fun u H1 s1 r1=>?_⟩;obtain⟨d,hd,rfl⟩:=M.o_inv hf;exact hg x d hd J H1 _ u Q (fun p hp=>(R.mono s1).fresh hp) r1 fun w H3 s3 r3=>h w H3 (s1.trans s3) r3
 ·exact⟨J,Hz,F,Y,.error x,R,e1,h⟩
def ja8{k:List D->Option D}{r:List V->Hp->VK->Prop}{x:Str}{id:String}{p:Pos}(hc:CallR X (.builtin id) r)(hg:CaD X.K k r)(hG:Gl X x)(hm:X.mg x=none)(hv:bootBuiltins x=some (.builtin id))(ha:DA X O E (e::es) fl)
  (hn:x≠"__name__":=by decide) (hdb:(x == ("__debug__":Str))=false:=by decide) (he:zsE e es X.env:=by rfl) (hpl:zbT pos es X.env:=by rfl) :
  DE X O E (.Call (.Name x p) (e::es) [] pos) (fL k fl):=fun U s Z H Q I h=>jny hc hG hm hv ha hn hdb he hpl U s Z H Q I (jvk hg h)
def jbk{k:List D->Option D}{r:List V->Hp->VK->Prop}{x:Str}{T:String}{p:Pos}(hc:CallR X (.type T) r)(hg:CaD X.K k r)(hG:Gl X x)(hm:X.mg x=none)(hv:bootBuiltins x=some (.type T))(ha:DA X O E (e::es) fl)
  (hn:x≠"__name__":=by decide) (hdb:(x == ("__debug__":Str))=false:=by decide) (he:zsE e es X.env:=by rfl) (hpl:zbT pos es X.env:=by rfl) :
  DE X O E (.Call (.Name x p) (e::es) [] pos) (fL k fl):=fun U s Z H Q I h=>jwg hc hG hm hv ha hn hdb he hpl U s Z H Q I (jvk hg h)
def jb2(xs:List D):Option D:=if xs.length<=sizeLine then some (.tup xs) else none
def jaw(xs:List D):Option D:=if xs.length<=sizeLine then some (.lst xs) else none
def jdj{J:Rho}{K:W.Frag}{H:Hp}{G:qd}{p:Addr}{vs:List V}{ds:List D}(hp:H p=none)(hG:G p=false)(h:Reps J K (hid H G) ds vs):Rep J K (hid (upd H p (.tup vs)) G) (.tup ds) (.ref p) :=
 rep_tup.mpr ⟨p,vs,rfl,SqT.of (hid_some.mpr ⟨hG,jam⟩),h.mono (jas (ja7 hp))⟩
def jdi{J:Rho}{K:W.Frag}{H:Hp}{G:qd}{p:Addr}{vs:List V}{ds:List D}(hp:H p=none)(hG:G p=false)(h:Reps J K (hid H G) ds vs):Rep J K (hid (upd H p (.lst vs)) G) (.lst ds) (.ref p) :=
 rep_lst.mpr ⟨p,vs,rfl,SqL.of (hid_some.mpr ⟨hG,jam⟩),h.mono (jas (ja7 hp))⟩
def jbp{x1}(h:DA X O E es fl):DE X O E (.Tuple es x1 pos) (fL jb2 fl):=by
 rintro U s Z H Q I ⟨J,Hz,F,Y,rr,R,hf,k⟩;refine jAz h U s Z H Q I ?_;rcases M.b_inv hf with ⟨x,e1,hf⟩|⟨x,e1,rfl⟩
 ·refine⟨J,Hz,F,Y,.ok x,R,e1,fun u H1 s1 r1=>?_⟩;obtain⟨d,hd,rfl⟩:=M.o_inv hf;unfold jb2 at hd
  split at hd
  ·rename_i hz;cases hd;exact⟨by rw[r1.length];exact hz,fun p hp=>k _ _ (s1.trans (ja7 hp)) (jdj hp ((R.mono s1).fresh hp) r1)⟩
  ·cases hd
 ·exact⟨J,Hz,F,Y,.error x,R,e1,k⟩
def jbv(h:DA X O E es fl):DE X O E (.List es pos) (fL jaw fl):=by
 rintro U s Z H Q I ⟨J,Hz,F,Y,rr,R,hf,k⟩;refine jr3 h U s Z H Q I ?_;rcases M.b_inv hf with ⟨x,e1,hf⟩|⟨x,e1,rfl⟩
 ·refine⟨J,Hz,F,Y,.ok x,R,e1,fun u H1 s1 r1=>?_⟩;obtain⟨d,hd,rfl⟩:=M.o_inv hf;unfold jaw at hd
  split at hd
  ·rename_i hz;cases hd;exact⟨by rw[r1.length];exact hz,fun p hp=>k _ _ (s1.trans (ja7 hp)) (jdi hp ((R.mono s1).fresh hp) r1)⟩
  ·cases hd
 ·exact⟨J,Hz,F,Y,.error x,R,e1,k⟩
def fAnd(fa fb:DSt->M D):DSt->M D:=fun Y=>(fa Y).b fun x=>match x with
 | .bl true=>fb Y
 | .bl false=>M.p (.bl false)
 | _=>none
def fOr(fa fb:DSt->M D):DSt->M D:=fun Y=>(fa Y).b fun x=>match x with
 | .bl true=>M.p (.bl true)
 | .bl false=>fb Y
 | _=>none
def gNot:D->Option D
 | .bl b=>some (.bl !b)
 | _=>none
def tAnd(ta tb:DSt->M Bool):DSt->M Bool:=fun Y=>(ta Y).b fun x=>if x=true then tb Y else M.p false
def tOr(ta tb:DSt->M Bool):DSt->M Bool:=fun Y=>(ta Y).b fun x=>if x=true then M.p true else tb Y
def tNot(ta:DSt->M Bool):DSt->M Bool:=fun Y=>(ta Y).b fun x=>M.p !x
def fIf(tc:DSt->M Bool)(fa fb:DSt->M D):DSt->M D:=fun Y=>(tc Y).b fun x=>if x=true then fa Y else fb Y
variable {rest:List Expr}{ta tb' tc:DSt->M Bool}
def jrj{op}(h:DE X O E a fa):DE X O E (.BoolOp op [a] pos) fa:=fun U s Z H Q I hw=>jAy h U s Z H Q I hw
def jz8(ha:DE X O E a fa)(hb:DE X O E (.BoolOp .And (b::rest) pos) fb):DE X O E (.BoolOp .And (a::b::rest) pos) (fAnd fa fb):=by
 rintro U s Z H Q I ⟨J,Hz,F,Y,rr,R,hf,k⟩;refine jAx ha hb U s Z H Q I ?_;rcases M.b_inv hf with ⟨x,e1,hf⟩|⟨x,e1,rfl⟩
 ·refine⟨J,Hz,F,Y,.ok x,R,e1,fun u H1 s1 r1=>?_⟩
  cases x with
  | bl z =>
   refine⟨z,rep_bl.mp r1,?_⟩
   cases z with
   | true =>
    refine iteT ⟨J,Hz,F,Y,rr,R.mono s1,hf,?_⟩
    cases rr with
    | ok d=>exact fun v H' s' r'=>k v H' (s1.trans s') r'
    | error y=>exact k
   | false =>
    refine iteF ?_;cases hf;exact k _ H1 s1 (rep_bl.mpr rfl)
  | _=>cases hf
 ·exact⟨J,Hz,F,Y,.error x,R,e1,k⟩
def jCa(ha:DE X O E a fa)(hb:DE X O E (.BoolOp .Or (b::rest) pos) fb):DE X O E (.BoolOp .Or (a::b::rest) pos) (fOr fa fb):=by
 rintro U s Z H Q I ⟨J,Hz,F,Y,rr,R,hf,k⟩;refine jJq ha hb U s Z H Q I ?_;rcases M.b_inv hf with ⟨x,e1,hf⟩|⟨x,e1,rfl⟩
 ·refine⟨J,Hz,F,Y,.ok x,R,e1,fun u H1 s1 r1=>?_⟩
  cases x with
  | bl z =>
   refine⟨z,rep_bl.mp r1,?_⟩
   cases z with
   | true =>
    refine iteT ?_;cases hf;exact k _ H1 s1 (rep_bl.mpr rfl)
   | false =>
    refine iteF ⟨J,Hz,F,Y,rr,R.mono s1,hf,?_⟩
    cases rr with
    | ok d=>exact fun v H' s' r'=>k v H' (s1.trans s') r'
    | error y=>exact k
  | _=>cases hf
 ·exact⟨J,Hz,F,Y,.error x,R,e1,k⟩
def jFf(ha:DE X O E a fa):DE X O E (.UnaryOp .Not a pos) (f1 gNot fa):=by
 rintro U s Z H Q I ⟨J,Hz,F,Y,rr,R,hf,k⟩;refine jG2 ha U s Z H Q I ?_;rcases M.b_inv hf with ⟨x,e1,hf⟩|⟨x,e1,rfl⟩
 ·refine⟨J,Hz,F,Y,.ok x,R,e1,fun u H1 s1 r1=>?_⟩
  cases x with
  | bl z=>cases hf;exact⟨z,rep_bl.mp r1,k _ H1 s1 (rep_bl.mpr rfl)⟩
  | _=>cases hf
 ·exact⟨J,Hz,F,Y,.error x,R,e1,k⟩
def DW(X:Cx)(O:List Nat)(E:XK)(e:Expr)(f:DSt->M Bool):Prop:=PW X e (tB X.K O E f)
def DW.dt{f:DSt->M Bool}(h:DW X O E e f):DT X O E e f:=PW.pt h
def jhy(ha:DT X O E a ta):DW X O E (.BoolOp .And [a] pos) ta:=jDz ha
def jut(ha:DT X O E a ta):DW X O E (.BoolOp .Or [a] pos) ta:=jA3 ha
def jjq(ha:DT X O E a ta)(hb:DW X O E (.BoolOp .And (b::rest) pos) tb'):DW X O E (.BoolOp .And (a::b::rest) pos) (tAnd ta tb'):=by
 rintro wh U s Z H Q I ⟨J,Hz,F,Y,rr,R,hf,k⟩;refine jHb ha hb wh U s Z H Q I ?_;rcases M.b_inv hf with ⟨x,e1,hf⟩|⟨x,e1,rfl⟩
 ·refine⟨J,Hz,F,Y,.ok x,R,e1,fun H1 s1=>?_⟩
  cases x with
  | true =>
   refine iteT ⟨J,Hz,F,Y,rr,R.mono s1,hf,?_⟩
   cases rr with
   | ok d=>exact fun H' s'=>k H' (s1.trans s')
   | error y=>exact k
  | false=>cases hf;exact iteF (k H1 s1)
 ·exact⟨J,Hz,F,Y,.error x,R,e1,k⟩
def jus(ha:DT X O E a ta)(hb:DW X O E (.BoolOp .Or (b::rest) pos) tb'):DW X O E (.BoolOp .Or (a::b::rest) pos) (tOr ta tb'):=by
 rintro wh U s Z H Q I ⟨J,Hz,F,Y,rr,R,hf,k⟩;refine jHc ha hb wh U s Z H Q I ?_;rcases M.b_inv hf with ⟨x,e1,hf⟩|⟨x,e1,rfl⟩
 ·refine⟨J,Hz,F,Y,.ok x,R,e1,fun H1 s1=>?_⟩
  cases x with
  | true=>cases hf;exact iteT (k H1 s1)
  | false =>
   refine iteF ⟨J,Hz,F,Y,rr,R.mono s1,hf,?_⟩
   cases rr with
   | ok d=>exact fun H' s'=>k H' (s1.trans s')
   | error y=>exact k
 ·exact⟨J,Hz,F,Y,.error x,R,e1,k⟩
def jrn(ha:DT X O E a ta):DT X O E (.UnaryOp .Not a pos) (tNot ta):=by
 rintro U s Z H Q I ⟨J,Hz,F,Y,rr,R,hf,k⟩;refine jA2 ha U s Z H Q I ?_;rcases M.b_inv hf with ⟨x,e1,hf⟩|⟨x,e1,rfl⟩
 ·cases hf;exact⟨J,Hz,F,Y,.ok x,R,e1,fun H1 s1=>k H1 s1⟩
 ·exact⟨J,Hz,F,Y,.error x,R,e1,k⟩
def truD:D->Option Bool
 | .non=>some false
 | .bl b=>some b
 | .int i=>some (i != 0)
 | .str x=>if x.length<=sizeLine then some ((x.length:Int) != 0) else none
 | .tup xs=>some !xs.isEmpty
 | .lst xs=>some !xs.isEmpty
 | _=>none
def tTru(fa:DSt->M D):DSt->M Bool:=fun Y=>(fa Y).b fun x=>M.o (truD x)
def isE{J:Rho}{K:W.Frag}{H:Hp}{ds:List D}{xs:List V}(h:Reps J K H ds xs):xs.isEmpty=ds.isEmpty:=by
 cases ds with
 | nil=>rw[reps_nil.mp h];rfl
 | cons d ds=>obtain⟨v,r,rfl,_⟩:=reps_cons.mp h;rfl
def jff(ha:DE X O E a fa)(he:∀ whole,isTrue a X.env whole=(do let v <- whole;standAt a.pos;holding [v] (truthy v)):=by exact fun _=>rfl):DT X O E a (tTru fa):=by
 rintro U s Z H Q I ⟨J,Hz,F,Y,rr,R,hf,k⟩;refine jr6 ha he U s Z H Q I ?_;rcases M.b_inv hf with ⟨x,e1,hf⟩|⟨x,e1,rfl⟩
 ·refine⟨J,Hz,F,Y,.ok x,R,e1,fun u H1 s1 r1=>?_⟩;obtain⟨z,hz,rfl⟩:=M.o_inv hf;refine⟨z,?_,k H1 s1⟩
  cases x with
  | non=>cases hz;rw[rep_non.mp r1];rfl
  | bl y=>cases hz;rw[rep_bl.mp r1];rfl
  | int i=>cases hz;rw[rep_int.mp r1];rfl
  | str y =>
   by_cases hl:y.length<=sizeLine
   ·have e:truD (.str y)=some ((y.length:Int) != 0):=if_pos hl;rw[e] at hz;cases hz
    rw[rep_str.mp r1];exact⟨hl,rfl⟩
   ·have e:truD (.str y)=none:=if_neg hl;rw[e] at hz;cases hz
  | tup ds =>
   cases hz;obtain⟨q,xs,rfl,q2,q3⟩:=rep_tup.mp r1;exact .inr (.inl ⟨xs,jda jao q2,by rw[isE q3]⟩)
  | lst ds =>
   cases hz;obtain⟨q,xs,rfl,q2,q3⟩:=rep_lst.mp r1;exact .inl ⟨xs,jd3 jao q2,by rw[isE q3]⟩
  | ty n=>cases hz
  | obj n=>cases hz
 ·exact⟨J,Hz,F,Y,.error x,R,e1,k⟩
def joq(hc:DT X O E c tc)(ha:DE X O E a fa)(hb:DE X O E b fb):DE X O E (.IfExp c a b pos) (fIf tc fa fb):=by
 rintro U s Z H Q I ⟨J,Hz,F,Y,rr,R,hf,k⟩;refine jy2 hc ha hb U s Z H Q I ?_;rcases M.b_inv hf with ⟨x,e1,hf⟩|⟨x,e1,rfl⟩
 ·refine⟨J,Hz,F,Y,.ok x,R,e1,fun H1 s1=>?_⟩
  cases x with
  | true =>
   refine iteT ⟨J,Hz,F,Y,rr,R.mono s1,hf,?_⟩
   cases rr with
   | ok d=>exact fun v H' s' r'=>k v H' (s1.trans s') r'
   | error y=>exact k
  | false =>
   refine iteF ⟨J,Hz,F,Y,rr,R.mono s1,hf,?_⟩
   cases rr with
   | ok d=>exact fun v H' s' r'=>k v H' (s1.trans s') r'
   | error y=>exact k
 ·exact⟨J,Hz,F,Y,.error x,R,e1,k⟩
def jos(g g':D->D->Option D)(fa fb fc:DSt->M D):DSt->M D:=fun Y=>(fa Y).b fun x=>(fb Y).b fun y=>match g x y with
 | some (.bl true)=>(fc Y).b fun z=>M.o (g' y z)
 | some (.bl false)=>M.p (.bl false)
 | _=>none
def jri{op op':CmpOp}{g g':D->D->Option D}{r r':R2}(ho:OpR X (compareOp op) r)(hg:OpD X.K g r)(ho':OpR X (compareOp op') r')(hg':OpD X.K g' r')(ha:DE X O E a fa)(hb:DE X O E b fb)(hc:DE X O E c fc)
  (hm:lastMarks [op,op'] [b,c]=false:=by with_unfolding_all rfl):DE X O E (.Compare a [op,op'] [b,c] pos) (jos g g' fa fb fc):=by
 rintro U s Z H Q I ⟨J,Hz,F,Y,rr,R,hf,k⟩;refine jy1 ho ho' ha hb hc hm U s Z H Q I ?_;rcases M.b_inv hf with ⟨x,e1,hf⟩|⟨x,e1,rfl⟩
 ·refine⟨J,Hz,F,Y,.ok x,R,e1,fun u H1 s1 r1=>?_⟩;rcases M.b_inv hf with ⟨y,e2,hf⟩|⟨y,e2,rfl⟩
  ·refine⟨J,Hz,F,Y,.ok y,R.mono s1,e2,fun v H2 s2 r2=>?_⟩
   cases e3:g x y with
   | none=>rw[e3] at hf;cases hf
   | some d =>
    rw[e3] at hf
    cases d with
    | bl z =>
     refine hg x y _ e3 J H2 _ u v _ (fun p hp=>(R.mono (s1.trans s2)).fresh hp) (r1.mono (jas s2)) r2 fun w H3 s3 r3=>⟨z,rep_bl.mp r3,?_⟩
     cases z with
     | true =>
      refine iteT ?_;rcases M.b_inv hf with ⟨z,e4,hf⟩|⟨z,e4,rfl⟩
      ·refine⟨J,Hz,F,Y,.ok z,R.mono (s1.trans (s2.trans s3)),e4,fun t H4 s4 r4=>?_⟩;obtain⟨d,hd,rfl⟩:=M.o_inv hf;exact hg' y z d hd J H4 _ v t Q (fun p hp=>(R.mono (s1.trans (s2.trans (s3.trans s4)))).fresh hp) (r2.mono (jas (s3.trans s4))) r4 fun w H5 s5 r5=>k w H5 (s1.trans (s2.trans (s3.trans (s4.trans s5)))) r5
      ·exact⟨J,Hz,F,Y,.error z,R.mono (s1.trans (s2.trans s3)),e4,k⟩
     | false =>
      refine iteF ?_;cases hf;exact k _ H3 (s1.trans (s2.trans s3)) (rep_bl.mpr rfl)
    | _=>cases hf
  ·exact⟨J,Hz,F,Y,.error y,R.mono s1,e2,k⟩
 ·exact⟨J,Hz,F,Y,.error x,R,e1,k⟩
end
inductive Out where
 | nx (Y:DSt)|rt (d:D)|bk (Y:DSt)|ct (Y:DSt)
def Ok(J:Rho)(K:W.Frag)(O' B:List Nat)(E:XK)(Hz:Hp)(F:qd)(Hv:Hp)(Dn:Ends):Except XD Out->Prop
 | .ok (.nx Y')=>∀ Z' H',Same Hv (hid H' (fob F Z' O'))->RS J K Hz H' F O' Z' Y'->Dn.nx Z' H'
 | .ok (.rt d)=>∀ v H',Same Hz H'->Rep J K (hid H' F) d v->Dn.rt v H'
 | .ok (.bk Y')=>∀ Z' H',Same Hv (hid H' (fob F Z' B))->RS J K Hz H' F B Z' Y'->Dn.bk Z' H'
 | .ok (.ct Y')=>∀ Z' H',Same Hv (hid H' (fob F Z' B))->RS J K Hz H' F B Z' Y'->Dn.ct Z' H'
 | .error x=>okX K Hz E x
inductive sD(K:W.Frag)(O O' B:List Nat)(E:XK)(g:DSt->M Out)(Dn:Ends)(Z:St)(H:Hp):Prop
 | mk (J:Rho) (Hz:Hp) (F:qd) (Y:DSt) (r:Except XD Out) (R:RS J K Hz H F O Z Y) (hf:g Y=some r) (k:Ok J K O' B E Hz F (hid H (fob F Z O)) Dn r)
def DS(X:Cx)(O O' B:List Nat)(E:XK)(st:Stmt)(g:DSt->M Out):Prop:=PS X st (sD X.K O O' B E g)
def DSs(X:Cx)(O O' B:List Nat)(E:XK)(st:List Stmt)(g:DSt->M Out):Prop:=PSs X st (sD X.K O O' B E g)
def Ok.back{J:Rho}{K:W.Frag}{O' B:List Nat}{E:XK}{Hz:Hp}{F:qd}{Hv Hv':Hp}{Dn:Ends}{r:Except XD Out}(e:Same Hv Hv')(h:Ok J K O' B E Hz F Hv Dn r):Ok J K O' B E Hz F Hv' Dn r:=by
 cases r with
 | error x=>exact h
 | ok o =>
  cases o with
  | nx Y'=>exact fun Z' H' f=>h Z' H' (e.trans f)
  | bk Y'=>exact fun Z' H' f=>h Z' H' (e.trans f)
  | ct Y'=>exact fun Z' H' f=>h Z' H' (e.trans f)
  | rt d=>exact h
def gNx:DSt->M Out:=fun Y=>M.p (.nx Y)
def gSeq(g1 g2:DSt->M Out):DSt->M Out:=fun Y=>(g1 Y).b fun o=>match o with
 | .nx Y'=>g2 Y'
 | o=>M.p o
def gSet(i:Nat)(f:DSt->M D):DSt->M Out:=fun Y=>(f Y).b fun d=>M.p (.nx (Y.set i (some d)))
def gRet(f:DSt->M D):DSt->M Out:=fun Y=>(f Y).b fun d=>M.p (.rt d)
def jI4(f:DSt->M D):DSt->M Out:=fun Y=>(f Y).b fun _=>M.p (.nx Y)
def gIf(t:DSt->M Bool)(g1 g2:DSt->M Out):DSt->M Out:=fun Y=>(t Y).b fun b=>if b=true then g1 Y else g2 Y
def gBrk:DSt->M Out:=fun Y=>M.p (.bk Y)
def gCnt:DSt->M Out:=fun Y=>M.p (.ct Y)
def jmc:DSt->M Out:=fun _=>none
def gApp(i:Nat)(f:DSt->M D):DSt->M Out:=fun Y=>(f Y).b fun d=>match (Y[i]?).join with
 | some (.lst ds)=>if ds.length<sizeLine then M.p (.nx (Y.set i (some (.lst (ds++[d]))))) else none
 | _=>none
def forD(g:DSt->M Out)(tg:D->DSt->Option DSt):List D->DSt->M Out
 | [],Y=>M.p (.nx Y)
 | d::ds,Y=>match tg d Y with
  | none=>none
  | some Y1=>(g Y1).b fun o=>match o with
   | .nx Y'=>forD g tg ds Y'
   | .ct Y'=>forD g tg ds Y'
   | .bk Y'=>M.p (.nx Y')
   | .rt v=>M.p (.rt v)
def gFor(fi:DSt->M (List D))(tg:D->DSt->Option DSt)(g:DSt->M Out):DSt->M Out:=fun Y=>(fi Y).b fun ds=>forD g tg ds Y
def jbo(t:DSt->M Bool)(g:DSt->M Out):Nat->DSt->M Out
 | 0,_=>none
 | n+1,Y=>(t Y).b fun b=>if b=true then (g Y).b fun o=>match o with
   | .nx Y'=>jbo t g n Y'
   | .ct Y'=>jbo t g n Y'
   | .bk Y'=>M.p (.nx Y')
   | .rt v=>M.p (.rt v)
  else M.p (.nx Y)
section
variable {J:Rho}{X:Cx}{O O' O'' B:List Nat}{E:XK}{b c e:Expr}{es:List Expr}{fa:DSt->M D}{fl:DSt->M (List D)}{pos:Pos}{st:Stmt}{rest:List Stmt}{g g1 g2:DSt->M Out}{tc:DSt->M Bool}
def ja2:DSs X O O B E [] gNx:=by
 rintro U s Z H Dn I ⟨J,Hz,F,Y,r,R,hf,h⟩;cases hf;exact jwo U s Z H Dn I (h Z H (Same.refl _) R)
def jag(h1:DS X O O' B E st g1)(h2:DSs X O' O'' B E rest g2):DSs X O O'' B E (st::rest) (gSeq g1 g2):=by
 rintro U s Z H Dn I ⟨J,Hz,F,Y,r,R,hf,h⟩;refine jn1 h1 h2 U s Z H Dn I ?_;rcases M.b_inv hf with ⟨o,e1,hf⟩|⟨x,e1,rfl⟩
 ·refine⟨J,Hz,F,Y,.ok o,R,e1,?_⟩
  cases o with
  | nx Y'=>exact fun Z' H' f R'=>⟨J,Hz,F,Y',r,R',hf,h.back f⟩
  | rt d=>cases hf;exact h
  | bk Y'=>cases hf;exact h
  | ct Y'=>cases hf;exact h
 ·exact⟨J,Hz,F,Y,.error x,R,e1,h⟩
def jah(h1:DS X O O' B E st g):DSs X O O' B E [st] g:=fun U s Z H Dn I h=>jn2 h1 U s Z H Dn I h
def juq{sts:List Stmt}(hO:∀ i∈O',i∈O)(h:DSs X O' O'' B E sts g):DSs X O O'' B E sts g:=by
 rintro U s Z H Dn I ⟨J,Hz,F,Y,r,R,hf,k⟩;refine h U s Z H Dn I ⟨J,Hz,F,Y,r,R.thaw hO,hf,k.back (jfj fun b q=>?_)⟩;rcases fob_t.mp q with q|⟨i,hi,q⟩
 ·exact fob_t.mpr (.inl q)
 ·exact fob_t.mpr (.inr ⟨i,hO i hi,q⟩)
def jvh{F:qd}{Z:St}{O O':List Nat}(hO:∀ i∈O',i∈O):∀ b,fob F Z O' b=true->fob F Z O b=true:=fun b q=>by
 rcases fob_t.mp q with q|⟨i,hi,q⟩
 ·exact fob_t.mpr (.inl q)
 ·exact fob_t.mpr (.inr ⟨i,hO i hi,q⟩)
def jsc{F:qd}{Z:St}{H H':Hp}{i:Nat}{v:V}(ho:i∉O)(s1:Same H H'):Same (hid H (fob F Z O)) (hid H' (fob F (Z.set i (some v)) O)):=by
 rw[jb8 ho];exact jas s1
def ja5{i:Nat}{x:Str}{pos':Pos}(hN:X.N.Nodup)(he:DE X O E e fa)(ho:O.contains i=false:=by rfl)(hi:X.N[i]? = some x:=by rfl)(hx:Loc X.env.scope x:=by first|exact Or.inl rfl|exact Or.inr rfl)(hs:swapsWith e (some (.Name x pos')) pos.line X.env=pure false:=by rfl)
  (hf:X.fn x=true\/X.env.scope.names.lookup x=some .local:=by first|exact .inl rfl|exact .inr rfl|assumption):DS X O O B E (.Assign [.Name x pos'] e pos) (gSet i fa):=by
 rintro U s Z H Dn I ⟨J,Hz,F,Y,r,R,hg,k⟩;have ho':i∉O:=fun z=>by rw[zbc.mpr z] at ho;cases ho
 refine jpg hN hi hx he hs hf U s Z H Dn I ?_;rcases M.b_inv hg with ⟨d,e1,hg⟩|⟨y,e1,rfl⟩
 ·cases hg;exact⟨J,Hz,F,Y,.ok d,R,e1,fun v H' s' r'=>k _ H' (jsc ho' s') ((R.mono s').set ho' r')⟩
 ·exact⟨J,Hz,F,Y,.error y,R,e1,k⟩
def jup{i:Nat}{x:Str}{pos' pos2:Pos}(hN:X.N.Nodup)(h:DA X O E es fl)(ho:O.contains i=false:=by rfl)(hi:X.N[i]? = some x:=by rfl)(hx:Loc X.env.scope x:=by first|exact Or.inl rfl|exact Or.inr rfl)(hs:swapsWith (.List es pos2) (some (.Name x pos')) pos.line X.env=pure false:=by rfl)
  (hf:X.fn x=true\/X.env.scope.names.lookup x=some .local:=by first|exact .inl rfl|exact .inr rfl|assumption):DS X O (i::O) B E (.Assign [.Name x pos'] (.List es pos2) pos) (gSet i (fL jaw fl)):=by
 rintro U s Z H Dn I ⟨J,Hz,F,Y,r,R,hg,k⟩;have ho':i∉O:=fun z=>by rw[zbc.mpr z] at ho;cases ho
 have hl:i<Y.length:=by rw[<- R.len,I.len];exact (zbb.mp hi).1
 refine jpg hN hi hx (jr3 h) hs hf U s Z H Dn I ?_;rcases M.b_inv hg with ⟨d,e1,hg⟩|⟨y,e1,rfl⟩
 ·cases hg;rcases M.b_inv e1 with ⟨ds,e1,hd⟩|⟨y,e1,z⟩
  ·refine⟨J,Hz,F,Y,.ok ds,R,e1,fun vs H1 s1 r1=>?_⟩;obtain⟨d',hd',z⟩:=M.o_inv hd;cases z;unfold jaw at hd'
   split at hd'
   ·rename_i hz;cases hd';refine⟨by rw[r1.length];exact hz,fun p hp=>?_⟩;refine k _ _ ?_ (R.take ho' hl s1 hp r1);have pf:=(R.mono s1).fresh hp;have lZ:i<Z.length:=by rw[R.len];exact hl
    intro b o q;obtain⟨q1,q2⟩:=hid_some.mp q;have q3:=s1 b o q2;have hb:b≠p:=ja6 q3 hp;refine hid_some.mpr ⟨?_,by rw[jai hb];exact q3⟩
    cases z:fob F (Z.set i (some (.ref p))) (i::O) b with
    | false=>rfl
    | true =>
     rcases fob_t.mp z with z|⟨j,hj,z⟩
     ·rw[fob_t.mpr (.inl z)] at q1;cases q1
     ·rcases List.mem_cons.mp hj with rfl|hj
      ·rw[zcz lZ] at z;cases z;exact absurd rfl hb
      ·rw[zbw (by rintro rfl;exact ho' hj)] at z;rw[fob_t.mpr (.inr ⟨j,hj,z⟩)] at q1;cases q1
   ·cases hd'
  ·cases z
 ·rcases M.b_inv e1 with ⟨ds,e1,hd⟩|⟨y',e1,z⟩
  ·obtain⟨_,_,z⟩:=M.o_inv hd;cases z
  ·cases z;exact⟨J,Hz,F,Y,.error _,R,e1,k⟩
def jav(he:DE X O E e fa):DS X O O' B E (.Return (some e) pos) (gRet fa):=by
 rintro U s Z H Dn I ⟨J,Hz,F,Y,r,R,hg,k⟩;refine jA1 he U s Z H Dn I ?_;rcases M.b_inv hg with ⟨d,e1,hg⟩|⟨y,e1,rfl⟩
 ·cases hg;exact⟨J,Hz,F,Y,.ok d,R,e1,fun v H' s' r'=>k v H' (R.same.trans s') (r'.mono (jfj fun b q=>fob_t.mpr (.inl q)))⟩
 ·exact⟨J,Hz,F,Y,.error y,R,e1,k⟩
def jcz{s1 s2:List Stmt}(hc:DT X O E c tc)(h1:DSs X O O' B E s1 g1)(h2:DSs X O O' B E s2 g2):DS X O O' B E (.If c s1 s2 pos) (gIf tc g1 g2):=by
 rintro U s Z H Dn I ⟨J,Hz,F,Y,r,R,hg,k⟩;refine jDu hc h1 h2 U s Z H Dn I ?_;rcases M.b_inv hg with ⟨z,e1,hg⟩|⟨y,e1,rfl⟩
 ·refine⟨J,Hz,F,Y,.ok z,R,e1,fun H1 s1=>?_⟩
  cases z with
  | true=>exact iteT ⟨J,Hz,F,Y,r,R.mono s1,hg,k.back (jas s1)⟩
  | false=>exact iteF ⟨J,Hz,F,Y,r,R.mono s1,hg,k.back (jas s1)⟩
 ·exact⟨J,Hz,F,Y,.error y,R,e1,k⟩
def jm6:DS X O O' B E st jmc:=by
 rintro U s Z H Dn I ⟨J,Hz,F,Y,r,R,hf,h⟩;cases hf
def jrl{i:Nat}{x:Str}{p1 p2 p3:Pos}(ho:O.contains i=true)(he:DE X O E e fa)(hi:X.N[i]? = some x:=by rfl)(hv:Vis X.env.scope x:=by first|exact Or.inl rfl|exact Or.inr (Or.inl rfl)|exact Or.inr (Or.inr rfl))
  (hd:(x == ("__debug__":Str))=false:=by decide) (hcd:(x == ("__classdict__":Str))=false:=by decide) (hbase:attributeBase (.Name x p1) "append" X.env (eval (.Name x p1) X.env)=eval (.Name x p1) X.env:=by rfl)
  (hfew:((backTo p3 (starEach [e] X.env)).all (fun x=>!x.1)&&(backToKw p3 (keywordEach [] X.env)).all (fun x=>x.1.isSome)
   && decide ([e].length+([]:List Keyword).length+(if ([]:List Keyword).isEmpty then 0 else 1)<30))=true:=by rfl)
  (hline:(p2.endLine == p3.line)=true:=by rfl) (hs:starEach [e] X.env=[(false,eval e X.env)]:=by rfl) (hsw:swapsWith (.Call (.Attribute (.Name x p1) "append" p2) [e] [] p3) none pos.line X.env=pure false:=by rfl) :
  DS X O O B E (.Expr (.Call (.Attribute (.Name x p1) "append" p2) [e] [] p3) pos) (gApp i fa):=by
 rintro U s Z H Dn I ⟨J,Hz,F,Y,r,R,hg,k⟩;have ho':i∈O:=zbc.mp ho;obtain⟨l,xs0,ds0,q1,q2,q3,q4,q5⟩:=R.own i ho';refine jqn (jGw PySem.F.plainAttrs_list PySem.F.slot_list_append PySem.F.type_list_append jir (jmm hi hv hd hcd) (jgc he jml hs) hbase hfew hline hs rfl) hsw U s Z H Dn I ?_;refine⟨.ref l,q2,.inl ⟨rfl,_,SqL.of q3⟩,?_⟩;rcases M.b_inv hg with ⟨d,e1,hg⟩|⟨y,e1,rfl⟩
 ·refine⟨J,Hz,F,Y,.ok d,R,e1,fun v H1 s1 r1=>?_⟩;have hj:(Y[i]?).join=some (.lst ds0):=by rw[q1];rfl
  rw[hj] at hg;dsimp only at hg
  split at hg
  ·rename_i hz;cases hg;have R1:=R.mono s1;obtain⟨l',xs,ds,p1,p2,p3,p4,p5⟩:=R1.own i ho';rw[q2] at p2;cases p2
   rw[q1] at p1;cases p1
   refine⟨l,xs,v,rfl,rfl,p3,by rw[p5.length];exact hz,?_⟩;refine k Z _ ?_ (R1.write ho' q2 (p5.append (Reps.cons r1 Reps.nil)));rw[je2 (fob_t.mpr (.inr ⟨i,ho',q2⟩))];exact jas s1
  ·cases hg
 ·exact⟨J,Hz,F,Y,.error y,R,e1,k⟩
inductive tG(K:W.Frag)(O:List Nat)(h:D->DSt->Option DSt)(v:V)(Z:St)(H:Hp)(Q:St->Hp->Prop):Prop
 | mk (J:Rho) (Hz:Hp) (F:qd) (Y:DSt) (d:D) (Y':DSt) (R:RS J K Hz H F O Z Y) (hr:Rep J K (hid H (fob F Z O)) d v) (hf:h d Y=some Y') (k:∀ Z',fob F Z' O=fob F Z O->RS J K Hz H F O Z' Y'->Q Z' H)
def DG(X:Cx)(O:List Nat)(tg:Expr)(h:D->DSt->Option DSt):Prop:=PG X tg (tG X.K O h)
def gName(i:Nat):D->DSt->Option DSt:=fun d Y=>some (Y.set i (some d))
def jf1(i j:Nat):D->DSt->Option DSt:=fun d Y=>match d with
 | .tup [x,y]=>some ((Y.set i (some x)).set j (some y))
 | _=>none
def jdr{i:Nat}{x:Str}(hN:X.N.Nodup)(ho:O.contains i=false:=by rfl)(hi:X.N[i]? = some x:=by rfl)(hx:Loc X.env.scope x:=by first|exact Or.inl rfl|exact Or.inr rfl)
  (hf:X.fn x=true\/X.env.scope.names.lookup x=some .local:=by first|exact .inl rfl|exact .inr rfl|assumption):DG X O (.Name x pos) (gName i):=by
 rintro U s Z H v u Q I r ⟨J,Hz,F,Y,d,Y',R,rd,e,k⟩;have ho':i∉O:=fun z=>by rw[zbc.mpr z] at ho;cases ho
 cases e;exact jjf hN hi hx hf U s Z H v u Q I r (k _ (jb8 ho') (R.set ho' rd))
def ji6{i j:Nat}{x y:Str}{px py:Pos}{kk:Nat}(hc:X.calm=true)(hN:X.N.Nodup)(ho:O.contains i=false:=by rfl)(ho2:O.contains j=false:=by rfl)(hi:X.N[i]? = some x:=by rfl)(hj:X.N[j]? = some y:=by rfl)
  (hx:Loc X.env.scope x:=by first|exact Or.inl rfl|exact Or.inr rfl) (hy:Loc X.env.scope y:=by first|exact Or.inl rfl|exact Or.inr rfl)
  (hf:X.fn x=true\/X.env.scope.names.lookup x=some .local:=by first|exact .inl rfl|exact .inr rfl|assumption) (hf2:X.fn y=true\/X.env.scope.names.lookup y=some .local:=by first|exact .inl rfl|exact .inr rfl|assumption) :
  DG X O (.Tuple [.Name x px,.Name y py] kk pos) (jf1 i j):=by
 rintro U s Z H v u Q I r ⟨J,Hz,F,Y,d,Y',R,rd,e,k⟩;have ho':i∉O:=fun z=>by rw[zbc.mpr z] at ho;cases ho
 have ho2':j∉O:=fun z=>by rw[zbc.mpr z] at ho2;cases ho2
 unfold jf1 at e
 split at e
 ·rename_i d1 d2;cases e;obtain⟨p,xs,rfl,q2,q3⟩:=rep_tup.mp rd;obtain⟨v1,xs1,rfl,r1,q3⟩:=reps_cons.mp q3;obtain⟨v2,xs2,rfl,r2,q3⟩:=reps_cons.mp q3;cases reps_nil.mp q3;refine jA0 hc (jiv (jjf hN hi hx hf) (jiv (jjf hN hj hy hf2) jwi)) rfl rfl U s Z H _ u Q I r ?_;refine⟨p,_,rfl,jda jao q2,rfl,v1,_,rfl,v2,_,rfl,rfl,?_⟩;have e2:fob F ((Z.set i (some v1)).set j (some v2)) O=fob F Z O:=(jb8 ho2').trans (jb8 ho');refine k _ e2 ?_;have R1:=R.set ho' r1;exact R1.set ho2' (by rw[jb8 ho'];exact r2)
 ·cases e
def ItD(J:Rho)(K:W.Frag)(Jq:It)(ds:List D)(Hv:Hp):Prop:=∀ (H':Hp) (G':qd) (i:Nat),Same Hv (hid H' G')->(∀ p,H' p=none->G' p=false) ->
 (i<ds.length->Jq.go i H'/\∀ x H2,Jq.yld i H' x H2->Same H' H2/\∃ d,ds[i]? = some d/\Rep J K (hid H2 G') d x)/\(i=ds.length->Jq.stop i H')
inductive tI(K:W.Frag)(O:List Nat)(E:XK)(f:DSt->M (List D))(Z:St)(H:Hp)(Q:It->Hp->Prop):Prop
 | mk (J:Rho) (Hz:Hp) (F:qd) (Y:DSt) (r:Except XD (List D)) (R:RS J K Hz H F O Z Y) (hf:f Y=some r) (k:match (generalizing:=false) r with
  | .ok ds=>∀ Jq H',Same H H'->ItD J K Jq ds (hid H' (fob F Z O))->Q Jq H'
  | .error x=>okX K Hz E x)
def DI(X:Cx)(O:List Nat)(E:XK)(tg iter:Expr)(f:DSt->M (List D)):Prop:=PI X tg iter (tI X.K O E f)
def jma{tg iter:Expr}{body:List Stmt}{fi:DSt->M (List D)}{h:D->DSt->Option DSt}(hp:PassesOwn (model X.prog X.w) X.A X.env X.xe)(hc:X.calm=true)(hi:DI X O E tg iter fi)(hg:DG X O tg h)(hb:DSs X O O O E body g)
  (hs:∀ x,foldedSetIterable iter X.env x=pure x:=by intro _;rfl):DS X O O B E (.For tg iter body [] pos) (gFor fi h g):=by
 rintro U s Z H Dn I ⟨J,Hz,F,Y,r,R,hgf,k⟩;refine jwn hp hc hi hg hb hs U s Z H Dn I ?_;rcases M.b_inv hgf with ⟨ds,e1,hgf⟩|⟨y,e1,rfl⟩
 ·refine⟨J,Hz,F,Y,.ok ds,R,e1,fun Jq H1 s1 it=>?_⟩;refine⟨fun i m Z' H'=>m=ds.length-i/\i<=ds.length/\∃ Y',RS J X.K Hz H' F O Z' Y'/\Same (hid H1 (fob F Z O)) (hid H' (fob F Z' O))/\forD g h (ds.drop i) Y'=some r,⟨ds.length,by simp,Nat.zero_le _,Y,R.mono s1,Same.refl _,hgf⟩,?_⟩;rintro i m Z' H' ⟨rfl,hil,Y',R',f',hr⟩;obtain⟨j1,j2⟩:=it H' (fob F Z' O) i f' (fun p hp=>R'.fresh hp)
  by_cases hlt:i<ds.length
  ·obtain⟨go,yld⟩:=j1 hlt;refine .inr ⟨go,fun Z2 H2=>∃ Y2,RS J X.K Hz H2 F O Z2 Y2/\Same (hid H1 (fob F Z O)) (hid H2 (fob F Z2 O))/\forD g h (ds.drop (i+1)) Y2=some r,fun Z2 H2 ⟨Y2,a1,a2,a3⟩=>⟨ds.length-(i+1),by omega,rfl,hlt,Y2,a1,a2,a3⟩,fun x H2 y=>?_⟩;obtain⟨s2,d,hd,rd⟩:=yld x H2 y;have hdr:ds.drop i=d::ds.drop (i+1):=by
    rw[List.drop_eq_getElem_cons hlt];have:ds[i]=d:=by rw[zax hlt] at hd;exact zby hd
    rw[this]
   rw[hdr] at hr;unfold forD at hr
   cases e2:h d Y' with
   | none=>rw[e2] at hr;cases hr
   | some Y1 =>
    rw[e2] at hr;dsimp only at hr;have f2:Same (hid H1 (fob F Z O)) (hid H2 (fob F Z' O)):=f'.trans (jas s2);refine⟨J,Hz,F,Y',d,Y1,R'.mono s2,rd,e2,fun Z3 ef R3=>?_⟩;rcases M.b_inv hr with ⟨o,e3,hr⟩|⟨y,e3,rfl⟩
    ·refine⟨J,Hz,F,Y1,.ok o,R3,e3,?_⟩;rw[ef]
     cases o with
     | nx Y4=>exact fun Z4 H4 f4 R4=>⟨Y4,R4,f2.trans f4,hr⟩
     | ct Y4=>exact fun Z4 H4 f4 R4=>⟨Y4,R4,f2.trans f4,hr⟩
     | bk Y4=>cases hr;exact fun Z4 H4 f4 R4=>k Z4 H4 ((jas s1).trans (f2.trans f4)) R4
     | rt v=>cases hr;exact k
    ·exact⟨J,Hz,F,Y1,.error y,R3,e3,k⟩
  ·have ei:i=ds.length:=by omega
   subst ei;rw[List.drop_length] at hr;cases hr;exact .inl ⟨j2 rfl,k Z' H' ((jas s1).trans f') R'⟩
 ·exact⟨J,Hz,F,Y,.error y,R,e1,k⟩
def jii{c:Expr}{body:List Stmt}{fuel:Nat}(hp:PassesOwn (model X.prog X.w) X.A X.env X.xe)(hc:DT X O E c tc)(hb:DSs X O O O E body g):DS X O O B E (.While c body [] pos) (jbo tc g fuel):=by
 rintro U s Z H Dn I ⟨J,Hz,F,Y,r,R,hg,k⟩;refine jzd hp hc hb U s Z H Dn I ?_;refine⟨fun m Z' H'=>∃ Y',RS J X.K Hz H' F O Z' Y'/\Same (hid H (fob F Z O)) (hid H' (fob F Z' O))/\jbo tc g m Y'=some r,⟨fuel,Y,R,Same.refl _,hg⟩,?_⟩;rintro m Z' H' ⟨Y',R',f',hr⟩
 cases m with
 | zero=>cases hr
 | succ m =>
  unfold jbo at hr;rcases M.b_inv hr with ⟨z,e1,hr⟩|⟨y,e1,rfl⟩
  ·refine⟨J,Hz,F,Y',.ok z,R',e1,fun H1 s1=>?_⟩;have f1:Same (hid H (fob F Z O)) (hid H1 (fob F Z' O)):=f'.trans (jas s1)
   cases z with
   | true =>
    rw[if_pos rfl] at hr;refine iteT ⟨fun Z2 H2=>∃ Y2,RS J X.K Hz H2 F O Z2 Y2/\Same (hid H (fob F Z O)) (hid H2 (fob F Z2 O))/\jbo tc g m Y2=some r,fun Z2 H2 ⟨Y2,a1,a2,a3⟩=>⟨m,Nat.lt_succ_self _,Y2,a1,a2,a3⟩,?_⟩;rcases M.b_inv hr with ⟨o,e3,hr⟩|⟨y,e3,rfl⟩
    ·refine⟨J,Hz,F,Y',.ok o,R'.mono s1,e3,?_⟩
     cases o with
     | nx Y4=>exact fun Z4 H4 f4 R4=>⟨Y4,R4,f1.trans f4,hr⟩
     | ct Y4=>exact fun Z4 H4 f4 R4=>⟨Y4,R4,f1.trans f4,hr⟩
     | bk Y4=>cases hr;exact fun Z4 H4 f4 R4=>k Z4 H4 (f1.trans f4) R4
     | rt v=>cases hr;exact k
    ·exact⟨J,Hz,F,Y',.error y,R'.mono s1,e3,k⟩
   | false =>
    rw[if_neg (by decide)] at hr;cases hr;exact iteF (k Z' H1 f1 (R'.mono s1))
  ·exact⟨J,Hz,F,Y',.error y,R',e1,k⟩
end
end DL
namespace L2
open PyProof.Rows
def ItOn(k:Bool)(h:Heap)(it l:Addr)(i:Nat):Prop:=if k=true then h.IsTupleIter it l i else h.IsListIter it l i
def SrcOn(k:Bool)(h:Heap)(l:Addr)(xs:Array Value):Prop:=if k=true then h.IsTuple l xs else h.IsList l xs
def ItOn.mv{k:Bool}{h h':Heap}{it l:Addr}{i:Nat}(x:ItOn k h it l i)(e:∀ o,h.get? it=some o->h'.get? it=some o):ItOn k h' it l i:=by
 cases k with
 | true=>exact Heap.IsTupleIter.at (h:=h) x e
 | false=>exact Heap.IsListIter.at (h:=h) x e
def SrcOn.mv{k:Bool}{h h':Heap}{l:Addr}{xs:Array Value}(x:SrcOn k h l xs)(e:∀ o,h.get? l=some o->h'.get? l=some o):SrcOn k h' l xs:=by
 cases k with
 | true=>exact Heap.IsTuple.at (h:=h) x e
 | false=>exact Heap.IsList.at (h:=h) x e
def ItOn.ob{k:Bool}{h:Heap}{it l:Addr}{i:Nat}(x:ItOn k h it l i):∃ o vs,h.get? it=some o/\o.data=.fields vs:=by
 cases k with
 | true=>obtain⟨o,e,_,d⟩:=(x:h.IsTupleIter it l i);exact⟨o,_,e,d⟩
 | false=>obtain⟨o,e,_,d⟩:=(x:h.IsListIter it l i);exact⟨o,_,e,d⟩
section
variable {prog:Program}{w:World}{A:Around}{E:qc}{s:Shared}
def js2{it l:Addr}{i:Nat}{items:Array Value}{x:Value}{Q:qc}(hi:s.heap.IsTupleIter it l i)(hl:s.heap.IsTuple l items)(hx:items[i]? = some x)
  (hQ:∀ h',h'.IsTupleIter it l (i+1)->Heap.SameBut it s.heap h'->Q x { s with heap:=h' }):wpAny (model prog w) A (Builtin.SmallTypes.nextOf (.ref it)) Q E s:=by
 obtain⟨ob,eo,oc,od⟩:=id hi;obtain⟨tl,el,_,nl,dl⟩:=hl;unfold Builtin.SmallTypes.nextOf;refine zay (wpAny_callSpecial?_slot (name:=Str.ofString "__next__") hi.typeIs F.slot_tuple_iterator_next (wpAny_call_entry F.slot_tuple_iterator_next hi.typeIs F.entry_tuple_iterator_next ?_ (F.args_tuple_iterator_next_1 _)));show wpAny _ _ (field (.ref it) 0 >>= _) _ _ s;refine zay (wpAny_field eo od (x:=.ref l) rfl ?_);show wpAny _ _ (if (Value.ref l == Value.none)=true then _ else _) _ _ s;rw[if_neg (show ¬ ((Value.ref l == Value.none)=true) from fun q=>Bool.false_ne_true q)];show wpAny _ _ (field (.ref it) 1 >>= _) _ _ s;refine zay (wpAny_field eo od (x:=.int i 0) rfl (show wpAny _ _ (seqItems? (.ref l) >>= _) _ _ s from zay (wpAny_seqItems el dl ?_)));simp only[Int.toNat_natCast,hx];refine zay (wpAny_setField eo od (by simp) (zab ⟨x,rfl,zab (hQ _ ⟨_,Heap.get?_update_self _ eo (Obj.isFreed_of_fields (Obj.data_mapFields od _)),(Obj.cls_mapFields ..).trans oc,?_⟩ (Heap.SameBut.update ..))⟩));rw[Obj.data_mapFields od];simp[rawInt]
def jl3{it l:Addr}{i:Nat}{items:Array Value}{Q:qc}(hh:A.handled=none)(hi:s.heap.IsTupleIter it l i)(hl:s.heap.IsTuple l items)(hx:items[i]? = none)
  (hE:∀ h' e,Heap.ExtBut it s.heap h'->(∃ o,h'.get? e=some o/\o.cls=.type "StopIteration")->E (.ref e) { s with heap:=h' }):wpAny (model prog w) A (Builtin.SmallTypes.nextOf (.ref it)) Q E s:=by
 obtain⟨ob,eo,oc,od⟩:=id hi;obtain⟨tl,el,_,nl,dl⟩:=hl;unfold Builtin.SmallTypes.nextOf;refine zay (wpAny_callSpecial?_slot (name:=Str.ofString "__next__") hi.typeIs F.slot_tuple_iterator_next (wpAny_call_entry F.slot_tuple_iterator_next hi.typeIs F.entry_tuple_iterator_next ?_ (F.args_tuple_iterator_next_1 _)));show wpAny _ _ (field (.ref it) 0 >>= _) _ _ s;refine zay (wpAny_field eo od (x:=.ref l) rfl ?_);show wpAny _ _ (if (Value.ref l == Value.none)=true then _ else _) _ _ s;rw[if_neg (show ¬ ((Value.ref l == Value.none)=true) from fun q=>Bool.false_ne_true q)];show wpAny _ _ (field (.ref it) 1 >>= _) _ _ s;refine zay (wpAny_field eo od (x:=.int i 0) rfl (show wpAny _ _ (seqItems? (.ref l) >>= _) _ _ s from zay (wpAny_seqItems el dl ?_)));simp only[Int.toNat_natCast,hx];refine zay (wpAny_rule (zay (wpAny_setField eo od (by simp) ?_)));show wpAny _ _ (newExc (.type "StopIteration") [] >>= _) _ _ _;refine zay ?_;simp only[newExc,newTuple];refine zay (wpAny_newObj_type (zay (m:=firstArgMember _ _) (wpAny_of_eq (a:=Value.none) (by first|rfl|(simp only[firstArgMember];rfl)) (wpAny_newObj_type ?_ (by size_fits)))) (by size_fits));simp only[raiseNew];refine zay (wpAny_handled ?_)
 first|rw[show A.in1.handled=none from hh]|rw[hh]
 exact zay (zab (wpAny_throw (hE _ _ (((Heap.SameBut.update ..).extBut.push _).push _) ⟨_,zbz _ rfl,rfl⟩)))
def jk2{k:Bool}{it l:Addr}{i:Nat}{items:Array Value}{x:Value}{Q:qc}(hi:ItOn k s.heap it l i)(hl:SrcOn k s.heap l items)(hx:items[i]? = some x)
  (hQ:∀ h',ItOn k h' it l (i+1)->Heap.SameBut it s.heap h'->Q x { s with heap:=h' }):wpAny (model prog w) A (Builtin.SmallTypes.nextOf (.ref it)) Q E s:=by
 cases k with
 | true=>exact js2 hi hl hx hQ
 | false=>exact wpAny_nextOf_list_item hi hl hx hQ
def jis{k:Bool}{it l:Addr}{i:Nat}{items:Array Value}{Q:qc}(hh:A.handled=none)(hi:ItOn k s.heap it l i)(hl:SrcOn k s.heap l items)(hx:items[i]? = none)
  (hE:∀ h' e,Heap.ExtBut it s.heap h'->(∃ o,h'.get? e=some o/\o.cls=.type "StopIteration")->E (.ref e) { s with heap:=h' }):wpAny (model prog w) A (Builtin.SmallTypes.nextOf (.ref it)) Q E s:=by
 cases k with
 | true=>exact jl3 hh hi hl hx hE
 | false=>exact wpAny_nextOf_list_end hh hi hl hx hE
def jvf{k:Bool}{l:Addr}{xs:Array Value}{Q:qc}(hl:SrcOn k s.heap l xs)
  (h:∀ o,ItOn k (s.heap.push o) s.heap.objs.size l 0->Q (.ref s.heap.objs.size) { s with heap:=s.heap.push o }):wpAny (model prog w) A (pyIter (.ref l)) Q E s:=by
 cases k with
 | true=>exact wpAny_pyIter_tuple hl (h _ ⟨_,zbz _ rfl,rfl,rfl⟩)
 | false=>exact wpAny_pyIter_list hl (h _ ⟨_,zbz _ rfl,rfl,rfl⟩)
structure ZFar(z TI TO i1 i2:Addr):Prop where
 a1:TI≠z
 a2:TO≠z
 a3:i1≠z
 a4:i2≠z
 a5:TI≠TO
 a6:TI≠i1
 a7:TI≠i2
 a8:TO≠i1
 a9:TO≠i2
 a10:i1≠i2
def LFar(z TO i1 i2 l:Addr):Prop:=l≠z/\l≠TO/\l≠i1/\l≠i2
def jz4{k1 k2:Bool}{z TI TO i1 i2 l1 l2:Addr}{n1 n2:Nat}{xs ys:Array Value}{x y a b:Value}{Q:qc}(D:ZFar z TI TO i1 i2)(d1:LFar z TO i1 i2 l1)(d2:LFar z TO i1 i2 l2)
  (hz:IsZip s.heap z TI TO .none) (ht:IsPair s.heap TI (.ref i1) (.ref i2)) (hu:IsPair s.heap TO a b) (j1:ItOn k1 s.heap i1 l1 n1) (j2:ItOn k2 s.heap i2 l2 n2) (c1:SrcOn k1 s.heap l1 xs) (c2:SrcOn k2 s.heap l2 ys)
  (hx:xs[n1]? = some x) (hy:ys[n2]? = some y)
  (hQ:∀ h',IsZip h' z TI TO (rawInt s.heap.objs.size)->IsPair h' TO x y->ItOn k1 h' i1 l1 (n1+1)->ItOn k2 h' i2 l2 (n2+1)->IsPair h' s.heap.objs.size x y ->
   (∀ c o,c≠z->c≠TO->c≠i1->c≠i2->s.heap.get? c=some o->h'.get? c=some o)->Q (.ref s.heap.objs.size) { s with heap:=h' }) :
  wpAny (model prog w) A (Builtin.«zip.__next__» ⟨[.ref z],[]⟩) (fun fin s'=>∃ v,fin=.done (.ret v)/\Q v s') E s:=by
 show wpAny _ _ (field (.ref z) 2 >>= _) _ _ _;refine zay (wpAny_field hz rfl (x:=.bool false) rfl (show wpAny _ _ (field (.ref z) 3 >>= _) _ _ _ from zay (wpAny_field hz rfl (x:=.ref TI) rfl (zay (wpAny_seqItems ht rfl ?_)))));show wpAny _ _ (Builtin.SmallTypes.ownedTupleIsFree (.ref z) >>= _) _ _ _;refine zay ?_;unfold Builtin.SmallTypes.ownedTupleIsFree;refine zay (wpAny_field hz rfl (x:=.none) rfl (zab ?_));simp only[if_true];refine zay (wpAny_rule (zay (wpAny_field hz rfl (x:=.ref TO) rfl (zay (wpAny_setField_rec hz (by simp) fun g1 z1 e1=>zay ?_)))))
 replace z1:IsZip g1 z TI TO .ellipsis:=z1
 simp only[List.zipIdx_cons,List.zipIdx_nil,List.forIn_cons,List.forIn_nil];refine zay (zay (wpAny_onRaise (show wpAny _ _ (Builtin.SmallTypes.nextOf (.ref i1) >>= _) _ _ _ from ?_)));refine zay (jk2 (j1.mv fun o q=>e1.extBut _ _ D.a3 q) (c1.mv fun o q=>e1.extBut _ _ d1.1 q) hx fun g2 m1 e2=>zab ?_);have u2:IsPair g2 TO a b:=e2.extBut _ _ D.a8 (e1.extBut _ _ D.a2 hu);refine zay (wpAny_seqItems u2 rfl (zay (wpAny_updateSeq_pair u2 fun g3 u3 e3=>zay (wpAny_letGo (zab ?_)))))
 replace u3:IsPair g3 TO x b:=u3
 have up3:∀ c o,c≠z->c≠TO->c≠i1->s.heap.get? c=some o->g3.get? c=some o:=fun c o p1 p2 p3 q=>e3.extBut _ _ p2 (e2.extBut _ _ p3 (e1.extBut _ _ p1 q))
 refine zay (zay (wpAny_onRaise (show wpAny _ _ (Builtin.SmallTypes.nextOf (.ref i2) >>= _) _ _ _ from ?_)));refine zay (jk2 (j2.mv fun o q=>up3 _ o D.a4 D.a9.symm D.a10.symm q) (c2.mv fun o q=>up3 _ o d2.1 d2.2.1 d2.2.2.1 q) hy fun g4 m2 e4=>zab ?_);have u4:IsPair g4 TO x b:=e4.extBut _ _ D.a9 u3;refine zay (wpAny_seqItems u4 rfl (zay (wpAny_updateSeq_pair u4 fun g5 u5 e5=>zay (wpAny_letGo (zab (zab ?_))))))
 replace u5:IsPair g5 TO x y:=u5
 refine zay (wpAny_seqItems u5 rfl (zay (wpAny_newTuple ?_)));have sz:g5.objs.size=s.heap.objs.size:=by rw[e5.1,e4.1,e3.1,e2.1,e1.1]
 have z5:IsZip g5 z TI TO .ellipsis:=e5.extBut _ _ D.a2.symm (e4.extBut _ _ D.a4.symm (e3.extBut _ _ D.a2.symm (e2.extBut _ _ D.a3.symm z1)));have up5:∀ c o,c≠z->c≠TO->c≠i1->c≠i2->s.heap.get? c=some o->g5.get? c=some o:=fun c o p1 p2 p3 p4 q=>e5.extBut _ _ p2 (e4.extBut _ _ p4 (up3 c o p1 p2 p3 q))
 have m15:ItOn k1 g5 i1 l1 (n1+1):=m1.mv fun o q=>e5.extBut _ _ D.a8.symm (e4.extBut _ _ D.a10 (e3.extBut _ _ D.a8.symm q))
 have m25:ItOn k2 g5 i2 l2 (n2+1):=m2.mv fun o q=>e5.extBut _ _ D.a9.symm q
 have zlt:z<g5.objs.size:=zbv z5;show wpAny _ _ (Builtin.SmallTypes.ownedTupleHandOut (.ref z) (.ref g5.objs.size) >>= _) _ _ _;refine zay ?_;unfold Builtin.SmallTypes.ownedTupleHandOut;have z6:IsZip (g5.push { cls:=.type "tuple",data:=.seq #[x,y] }) z TI TO .ellipsis:=zaz _ z5;refine zay (wpAny_setField_rec z6 (by simp) fun g7 z7 e7=>?_)
 replace z7:IsZip g7 z TI TO (rawInt g5.objs.size):=z7
 refine wpAny_setField_rec z7 (by simp) fun g8 z8 e8=>?_
 replace z8:IsZip g8 z TI TO (rawInt g5.objs.size):=z8
 have up8:∀ c o,c≠z->g5.get? c=some o->g8.get? c=some o:=fun c o p1 q=>e8.extBut _ _ p1 (e7.extBut _ _ p1 (zaz _ q))
 have t8:IsPair g8 g5.objs.size x y:=e8.extBut _ _ (Nat.ne_of_gt zlt) (e7.extBut _ _ (Nat.ne_of_gt zlt) (zbz _ rfl));rw[sz] at z8 t8;refine zab ⟨_,rfl,?_⟩;show Q (.ref g5.objs.size) _;rw[sz];exact hQ g8 z8 (up8 _ _ D.a2 u5) (m15.mv fun o q=>up8 _ o D.a3 q) (m25.mv fun o q=>up8 _ o D.a4 q) t8 fun c o p1 p2 p3 p4 q=>up8 c o p1 (up5 c o p1 p2 p3 p4 q)
def jEu{k1 k2:Bool}{z TI TO i1 i2 l1 l2:Addr}{n1 n2:Nat}{xs ys:Array Value}{a b:Value}{Q:PySem.Fin->Shared->Prop}(hh:A.handled=none)(D:ZFar z TI TO i1 i2)(d1:LFar z TO i1 i2 l1)(d2:LFar z TO i1 i2 l2)
  (hz:IsZip s.heap z TI TO .none) (ht:IsPair s.heap TI (.ref i1) (.ref i2)) (hu:IsPair s.heap TO a b) (j1:ItOn k1 s.heap i1 l1 n1) (j2:ItOn k2 s.heap i2 l2 n2) (c1:SrcOn k1 s.heap l1 xs) (c2:SrcOn k2 s.heap l2 ys)
  (hend:xs[n1]? = none\/ys[n2]? = none)
  (hE:∀ h' e,(∀ c o,c≠z->c≠TO->c≠i1->c≠i2->s.heap.get? c=some o->h'.get? c=some o)->(∃ o,h'.get? e=some o/\o.cls=.type "StopIteration")->E (.ref e) { s with heap:=h' }) :
  wpAny (model prog w) A (Builtin.«zip.__next__» ⟨[.ref z],[]⟩) Q E s:=by
 show wpAny _ _ (field (.ref z) 2 >>= _) _ _ _;refine zay (wpAny_field hz rfl (x:=.bool false) rfl (show wpAny _ _ (field (.ref z) 3 >>= _) _ _ _ from zay (wpAny_field hz rfl (x:=.ref TI) rfl (zay (wpAny_seqItems ht rfl ?_)))));show wpAny _ _ (Builtin.SmallTypes.ownedTupleIsFree (.ref z) >>= _) _ _ _;refine zay ?_;unfold Builtin.SmallTypes.ownedTupleIsFree;refine zay (wpAny_field hz rfl (x:=.none) rfl (zab ?_));simp only[if_true];refine zay (wpAny_rule (zay (wpAny_field hz rfl (x:=.ref TO) rfl (zay (wpAny_setField_rec hz (by simp) fun g1 z1 e1=>zay ?_)))))
 replace z1:IsZip g1 z TI TO .ellipsis:=z1
 simp only[List.zipIdx_cons,List.zipIdx_nil,List.forIn_cons,List.forIn_nil];refine zay (zay (wpAny_onRaise (show wpAny _ _ (Builtin.SmallTypes.nextOf (.ref i1) >>= _) _ _ _ from ?_)))
 cases hx:xs[n1]? with
 | none =>
  refine zay (jis hh (j1.mv fun o q=>e1.extBut _ _ D.a3 q) (c1.mv fun o q=>e1.extBut _ _ d1.1 q) hx fun g2 e f2 he=>?_);obtain⟨oe,q1,q2⟩:=he;have z2:IsZip g2 z TI TO .ellipsis:=f2 _ _ D.a3.symm z1;have nez:e≠z:=fun p=>by subst p;rw[z2] at q1;cases q1;simp at q2
  exact wpAny_setField_rec z2 (by simp) fun g3 _ e3=>hE g3 e (fun c o p1 _ p3 _ q=>e3.extBut _ _ p1 (f2 _ _ p3 (e1.extBut _ _ p1 q))) ⟨oe,e3.extBut _ _ nez q1,q2⟩
 | some x =>
  have hy:ys[n2]? = none:=by rcases hend with h|h;rw[hx] at h;cases h;exact h
  refine zay (jk2 (j1.mv fun o q=>e1.extBut _ _ D.a3 q) (c1.mv fun o q=>e1.extBut _ _ d1.1 q) hx fun g2 m1 e2=>zab ?_);have u2:IsPair g2 TO a b:=e2.extBut _ _ D.a8 (e1.extBut _ _ D.a2 hu);refine zay (wpAny_seqItems u2 rfl (zay (wpAny_updateSeq_pair u2 fun g3 u3 e3=>zay (wpAny_letGo (zab ?_)))));have up3:∀ c o,c≠z->c≠TO->c≠i1->s.heap.get? c=some o->g3.get? c=some o:=fun c o p1 p2 p3 q=>e3.extBut _ _ p2 (e2.extBut _ _ p3 (e1.extBut _ _ p1 q))
  refine zay (zay (wpAny_onRaise (show wpAny _ _ (Builtin.SmallTypes.nextOf (.ref i2) >>= _) _ _ _ from ?_)));refine zay (jis hh (j2.mv fun o q=>up3 _ o D.a4 D.a9.symm D.a10.symm q) (c2.mv fun o q=>up3 _ o d2.1 d2.2.1 d2.2.2.1 q) hy fun g4 e f4 he=>?_);obtain⟨oe,q1,q2⟩:=he;have z4:IsZip g4 z TI TO .ellipsis:=f4 _ _ D.a4.symm (e3.extBut _ _ D.a2.symm (e2.extBut _ _ D.a3.symm z1));have nez:e≠z:=fun p=>by subst p;rw[z4] at q1;cases q1;simp at q2
  exact wpAny_setField_rec z4 (by simp) fun g5 _ e5=>hE g5 e (fun c o p1 p2 p3 p4 q=>e5.extBut _ _ p1 (f4 _ _ p4 (up3 c o p1 p2 p3 q))) ⟨oe,e5.extBut _ _ nez q1,q2⟩
def jyu{k1 k2:Bool}{z TI TO i1 i2 l1 l2:Addr}{n1 n2:Nat}{xs ys:Array Value}{x y a b:Value}{Q:Option Value->Shared->Prop}(D:ZFar z TI TO i1 i2)(d1:LFar z TO i1 i2 l1)(d2:LFar z TO i1 i2 l2)
  (hz:IsZip s.heap z TI TO .none) (ht:IsPair s.heap TI (.ref i1) (.ref i2)) (hu:IsPair s.heap TO a b) (j1:ItOn k1 s.heap i1 l1 n1) (j2:ItOn k2 s.heap i2 l2 n2) (c1:SrcOn k1 s.heap l1 xs) (c2:SrcOn k2 s.heap l2 ys)
  (hx:xs[n1]? = some x) (hy:ys[n2]? = some y)
  (hQ:∀ h',IsZip h' z TI TO (rawInt s.heap.objs.size)->IsPair h' TO x y->ItOn k1 h' i1 l1 (n1+1)->ItOn k2 h' i2 l2 (n2+1)->IsPair h' s.heap.objs.size x y ->
   (∀ c o,c≠z->c≠TO->c≠i1->c≠i2->s.heap.get? c=some o->h'.get? c=some o)->Q (some (.ref s.heap.objs.size)) { s with heap:=h' }):wpAny (model prog w) A (pyNext (.ref z)) Q E s:=by
 have ty:s.TypeIs (.ref z) "zip":=⟨_,hz,rfl⟩
 unfold pyNext;exact zay (wpAny_attempt (wpAny_callSpecial?_slot (name:=Str.ofString "__next__") ty F.slot_zip_next (wpAny_call_entry F.slot_zip_next ty F.entry_zip_next
  (jz4 D d1 d2 hz ht hu j1 j2 c1 c2 hx hy fun h' b1 b2 b3 b4 b5 b6=>zab (hQ h' b1 b2 b3 b4 b5 b6)) (F.args_zip_next_1 _))))
def jo2{k1 k2:Bool}{z TI TO i1 i2 l1 l2:Addr}{n1 n2:Nat}{xs ys:Array Value}{a b:Value}{Q:Option Value->Shared->Prop}(hh:A.handled=none)(D:ZFar z TI TO i1 i2)(d1:LFar z TO i1 i2 l1)(d2:LFar z TO i1 i2 l2)
  (hz:IsZip s.heap z TI TO .none) (ht:IsPair s.heap TI (.ref i1) (.ref i2)) (hu:IsPair s.heap TO a b) (j1:ItOn k1 s.heap i1 l1 n1) (j2:ItOn k2 s.heap i2 l2 n2) (c1:SrcOn k1 s.heap l1 xs) (c2:SrcOn k2 s.heap l2 ys)
  (hend:xs[n1]? = none\/ys[n2]? = none)
  (hQ:∀ h',(∀ c o,c≠z->c≠TO->c≠i1->c≠i2->s.heap.get? c=some o->h'.get? c=some o)->Q none { s with heap:=h' }):wpAny (model prog w) A (pyNext (.ref z)) Q E s:=by
 have ty:s.TypeIs (.ref z) "zip":=⟨_,hz,rfl⟩
 unfold pyNext;refine zay (wpAny_attempt (wpAny_callSpecial?_slot (name:=Str.ofString "__next__") ty F.slot_zip_next (wpAny_call_entry F.slot_zip_next ty F.entry_zip_next (jEu hh D d1 d2 hz ht hu j1 j2 c1 c2 hend fun h' e hk he=>?_) (F.args_zip_next_1 _))));obtain⟨o,ho,hc⟩:=he;exact zay (wpAny_isInstance (T:="StopIteration") (b:=true) ⟨o,ho,hc⟩ isSubtype_stop (zab (hQ _ hk)))
abbrev zA(h:Heap)(o1 o2:Obj):Heap:=(h.push o1).push o2
abbrev zB(h:Heap)(o1 o2:Obj):Heap:=(zA h o1 o2).push { cls:=.type "tuple",data:=.seq #[.ref h.objs.size,.ref (h.push o1).objs.size] }
abbrev zC(h:Heap)(o1 o2:Obj):Heap:=(zB h o1 o2).push { cls:=.type "tuple",data:=.seq #[.none,.none] }
abbrev zD(h:Heap)(o1 o2:Obj):Heap:=(zC h o1 o2).push { cls:=.type "zip",data:=.fields #[.none,.bool false,.bool false,.ref (zA h o1 o2).objs.size,.ref (zB h o1 o2).objs.size] }
def jvv{k1 k2:Bool}(l1 l2:Addr)(xs ys:Array Value):Meets (Builtin.«zip.__new__» ⟨[.type "zip",.ref l1,.ref l2],[]⟩) (fun _ R s=>SrcOn k1 s.heap l1 xs/\SrcOn k2 s.heap l2 ys /\
  ∀ o1 o2,ItOn k1 (s.heap.push o1) s.heap.objs.size l1 0->ItOn k2 (zA s.heap o1 o2) (s.heap.push o1).objs.size l2 0->R (.ok (.ret (.ref (zC s.heap o1 o2).objs.size))) { s with heap:=zD s.heap o1 o2 }) :=
 .of_wp fun prog w A R s h=>by
  obtain⟨hp,g,d,tk,os⟩:=s;obtain⟨c1,c2,h⟩:=h;have hsub:=sub_zip;have q1:SrcOn k1 (Shared.heap ⟨hp,g,d,tk,os⟩) l1 xs:=c1
  wp_walk using jvf q1
  intro o1 w1;have q2:SrcOn k2 (Shared.heap ⟨hp.push o1,g,d,tk,os⟩) l2 ys:=SrcOn.mv c2 fun o e=>zaz _ e
  wp_walk using jvf q2
  intro o2 w2
  wp_walk
  exact⟨_,rfl,h o1 o2 w1 w2⟩
end
section
variable {X:Cx}{U:qb}{Z:St}{H:Hp}{s:Shared}
def Inv.spun{fp:List Addr}{h':Heap}{t':Nat}{T:Addr}{vs:List V}{its:List Value}(I:Inv X U Z H s)(hf:∀ b∈fp,FpOk X U H b)(k:∀ b o,b∉fp->s.heap.get? b=some o->h'.get? b=some o)
  (ko:∀ b∈fp,∃ o,h'.get? b=some o) (hT:s.heap.get? T=none) (hn:H T=none) (hv:Vals vs its) (hz:vs.length<=sizeLine) (ht:IsTup h' T its.toArray):Inv X U Z (upd H T (.tup vs)) { s with heap:=h',toks:=t' }:=by
 have nT:∀ b o,s.heap.get? b=some o->b≠T:=fun b o e z=>by rw[z,hT] at e;cases e
 have nf:∀ b u,H b=some u->b∉fp:=fun b u e z=>by rw[(hf b z).1] at e;cases e
 refine I.step (g':=s.gens) (d':=s.drawn) (ch:=fp) (fun b hb=>?_) (fun b o _ _ hc e _=>k b o hc e) (fun b o _ _ hc e _=>⟨o.slots,k b o hc e⟩) (fun b o _ e n=>by rw[jai (nT b o e)];exact n)
  (fun b o hc e=>⟨o,k b o hc e⟩) (fun b xs e=>by rw[jai (ja6 e hn)];exact e) (fun b o u e=>by rw[jai (ja6 e hn)];exact e) (fun b ps e=>⟨#[],by rw[jai (ja6 e hn),e];simp⟩) (fun m hm=>?_) (fun b u e=>?_) I.bare
 ·obtain⟨_,f1,_,f3,f4,f5⟩:=hf b hb;exact⟨f3,f1,f4,f5⟩
 ·obtain⟨o,es,ep,ho,r⟩:=hm;exact⟨o,es,ep,k _ o (fun z=>(hf _ z).2.1 rfl) ho,r⟩
 ·by_cases hb:b=T
  ·subst hb;rw[jam] at e;cases e
   exact⟨hz,its,hv,ht⟩
  ·rw[jai hb] at e;refine (I.hok b u e).stay (fun c v hc q=>k c v ?_ q) (fun c q=>by rw[jai (ja6 q hn)];exact q) fun c xs q=>by rw[jai (ja6 q hn)];exact q
   rcases hc with z|z
   ·rw[z];exact nf b u e
   ·exact nf c _ z
def Inv.spun0{fp:List Addr}{h':Heap}{t':Nat}(I:Inv X U Z H s)(hf:∀ b∈fp,FpOk X U H b)(k:∀ b o,b∉fp->s.heap.get? b=some o->h'.get? b=some o):Inv X U Z H { s with heap:=h',toks:=t' }:=by
 have nf:∀ b u,H b=some u->b∉fp:=fun b u e z=>by rw[(hf b z).1] at e;cases e
 refine I.step (g':=s.gens) (d':=s.drawn) (ch:=fp) (fun b hb=>?_) (fun b o _ _ hc e _=>k b o hc e) (fun b o _ _ hc e _=>⟨o.slots,k b o hc e⟩) (fun b o _ e n=>n)
  (fun b o hc e=>⟨o,k b o hc e⟩) (fun b xs e=>e) (fun b o u e=>e) (fun b ps e=>⟨#[],by rw[e];simp⟩) (fun m hm=>?_) (fun b u e=>?_) I.bare
 ·obtain⟨_,f1,_,f3,f4,f5⟩:=hf b hb;exact⟨f3,f1,f4,f5⟩
 ·obtain⟨o,es,ep,ho,r⟩:=hm;exact⟨o,es,ep,k _ o (fun z=>(hf _ z).2.1 rfl) ho,r⟩
 ·refine (I.hok b u e).stay (fun c v hc q=>k c v ?_ q) (fun c q=>q) fun c xs q=>q
  rcases hc with z|z
  ·rw[z];exact nf b u e
  ·exact nf c _ z
def SqV(k:Bool)(K:W.Frag)(H:Hp)(l:Addr)(xs:List V):Prop:=if k=true then SqT K H l xs else SqL K H l xs
def Inv.src{k:Bool}{l:Addr}{xs:List V}(I:Inv X U Z H s)(h:SqV k X.K H l xs):∃ its:List Value,Vals xs its/\SrcOn k s.heap l its.toArray/\xs.length<=sizeLine:=by
 cases k with
 | true =>
  obtain⟨its,r,p,z⟩:=I.tuple (h:SqT X.K H l xs);exact⟨its,r,p,z⟩
 | false =>
  obtain⟨its,r,p,z⟩:=I.list (h:SqL X.K H l xs);exact⟨its,r,p.isList,z⟩
def Inv.src_inj{k:Bool}{l:Addr}{xs ys:List V}(I:Inv X U Z H s)(h:SqV k X.K H l xs)(h':SqV k X.K H l ys):xs=ys:=by
 cases k with
 | true=>exact I.tuple_inj (h:SqT X.K H l xs) h'
 | false=>exact I.list_inj (h:SqL X.K H l xs) h'
def jju{k:Bool}{l:Addr}{xs:List V}(I:Inv X U Z H s)(h:SqV k X.K H l xs){b:Addr}(f:FpOk X U H b):l≠b:=by
 intro e;subst e;obtain⟨f0,f1,f2,f3,_⟩:=f;have base:∀ o,X.K.lookup l=some o->False:=fun o q=>by
  have hb:=I.ok.mod.kin l o q;rcases f3 with z|z
  ·exact I.ok.noex l o hb z
  ·exact absurd (zcx (zbv hb) (zdy I.ok.bsz z)) (Nat.lt_irrefl _)
 cases k with
 | true =>
  rcases (h:SqT X.K H l xs) with q|⟨o,its,n,q,_⟩
  ·rcases q with q|⟨o,q⟩<;>(rw[f0] at q;cases q)
  ·exact base o q
 | false =>
  rcases (h:SqL X.K H l xs) with q|⟨o,its,n,q,_⟩
  ·rcases q with q|⟨o,q⟩<;>(rw[f0] at q;cases q)
  ·exact base o q
end
def Itz(k1 k2:Bool)(K:W.Frag)(l1 l2:Addr):It :=
  ⟨fun i H=>∃ xs ys x y,SqV k1 K H l1 xs/\SqV k2 K H l2 ys/\xs[i]? = some x/\ys[i]? = some y,
   fun i H v H'=>∃ T x y,H T=none/\v=.ref T/\H'=upd H T (.tup [x,y])/\(∀ xs,SqV k1 K H l1 xs->xs[i]? = some x)/\(∀ ys,SqV k2 K H l2 ys->ys[i]? = some y),
   fun i H=>∃ xs ys,SqV k1 K H l1 xs/\SqV k2 K H l2 ys/\(xs.length<=i\/ys.length<=i)⟩
def jzy{P:Program}{w:World}{K:W.Frag}{es:List Expr}{kk:Nat}{tp:Pos}(k1 k2:Bool)(l1 l2 z TI TO i1 i2:Addr)(D:ZFar z TI TO i1 i2) :
  Turn P w K (.Tuple es kk tp) (Itz k1 k2 K l1 l2) [z,TI,TO,i1,i2] z (fun i h=>IsZip h z TI TO .none/\IsPair h TI (.ref i1) (.ref i2)/\(∃ a b,IsPair h TO a b)/\ItOn k1 h i1 l1 i/\ItOn k2 h i2 l2 i) where
 mem:=by simp
 obj:=fun i h st b hb=>by
  obtain⟨q1,q2,⟨a,b',q3⟩,q4,q5⟩:=st;simp only[List.mem_cons,List.not_mem_nil,or_false] at hb;rcases hb with rfl|rfl|rfl|rfl|rfl
  ·exact⟨_,q1,fun v e=>nomatch e⟩
  ·exact⟨_,q2,fun v e=>nomatch e⟩
  ·exact⟨_,q3,fun v e=>nomatch e⟩
  ·obtain⟨o,vs,e,d⟩:=q4.ob;exact⟨o,e,fun v z=>by rw[d] at z;cases z⟩
  ·obtain⟨o,vs,e,d⟩:=q5.ob;exact⟨o,e,fun v z=>by rw[d] at z;cases z⟩
 keep:=fun i h h' st k=>by
  obtain⟨q1,q2,⟨a,b',q3⟩,q4,q5⟩:=st;exact⟨k z (by simp) _ q1,k TI (by simp) _ q2,⟨a,b',k TO (by simp) _ q3⟩,q4.mv fun o e=>k i1 (by simp) o e,q5.mv fun o e=>k i2 (by simp) o e⟩
 item:=by
  intro X hP hw hK hc i U s Z H E I hf st hg;subst hP hw hK;obtain⟨q1,q2,⟨a,b',q3⟩,q4,q5⟩:=st;obtain⟨xs,ys,x,y,sx,sy,hx,hy⟩:=hg;obtain⟨ix,rx,cx,_⟩:=I.src sx;obtain⟨iy,ry,cy,_⟩:=I.src sy;obtain⟨u,hu,ru⟩:=rx.get hx;obtain⟨v,hv,rv⟩:=ry.get hy;have far:∀ {k:Bool} {l:Addr} {xs:List V},SqV k X.K H l xs->LFar z TO i1 i2 l:=fun h=>⟨jju I h (hf z (by simp)),jju I h (hf TO (by simp)),jju I h (hf i1 (by simp)),jju I h (hf i2 (by simp))⟩
  refine jyu D (far sx) (far sy) q1 q2 q3 q4 q5 cx cy (x:=u) (y:=v) (by simpa using hu) (by simpa using hv) fun h' b1 b2 b3 b4 b5 b6=>⟨_,rfl,?_⟩
  have keep:∀ b o,b∉[z,TI,TO,i1,i2]->s.heap.get? b=some o->h'.get? b=some o:=fun b o hb e=>by
   simp only[List.mem_cons,List.not_mem_nil,or_false,not_or] at hb;exact b6 b o hb.1 hb.2.2.1 hb.2.2.2.1 hb.2.2.2.2 e
  have e2:IsPair h' TI (.ref i1) (.ref i2):=b6 TI _ D.a1 D.a5 D.a6 D.a7 q2;have hfr:H s.heap.objs.size=none:=I.hok.fresh (zac _);have hno:s.heap.get? s.heap.objs.size=none:=Heap.get?_none_of_le (zac _);have Tz:s.heap.objs.size≠z:=Nat.ne_of_gt (zbv q1);refine wpAny_letOwnedTupleGo_zip b1 fun h2 z2 s2=>?_
  have up2:∀ b o,b≠z->h'.get? b=some o->h2.get? b=some o:=fun b o hb e=>s2.extBut _ _ hb e
  have keep2:∀ b o,b∉[z,TI,TO,i1,i2]->s.heap.get? b=some o->h2.get? b=some o:=fun b o hb e=>up2 b o (fun q=>hb (by simp[q])) (keep b o hb e)
  have tu:IsTup h2 s.heap.objs.size [u,v].toArray:=⟨_,up2 _ _ Tz b5,rfl,0,rfl⟩
  have I2:Inv X U Z (upd H s.heap.objs.size (.tup [x,y])) { s with heap:=h2 }:=I.spun (t':=s.toks) hf keep2 (fun b hb=>by
   simp only[List.mem_cons,List.not_mem_nil,or_false] at hb;rcases hb with rfl|rfl|rfl|rfl|rfl
   ·exact⟨_,z2⟩
   ·exact⟨_,up2 _ _ D.a1 e2⟩
   ·exact⟨_,up2 _ _ D.a2 b2⟩
   ·obtain⟨o,vs,e,_⟩:=b3.ob;exact⟨o,up2 _ _ D.a3 e⟩
   ·obtain⟨o,vs,e,_⟩:=b4.ob;exact⟨o,up2 _ _ D.a4 e⟩) hno hfr (.cons ru (.cons rv .nil)) (by show 2<=sizeLine;decide) tu
  refine⟨.ref s.heap.objs.size,_,I2,rfl,⟨_,x,y,hfr,rfl,rfl,fun xs' h=>by rw[I.src_inj h sx];exact hx,fun ys' h=>by rw[I.src_inj h sy];exact hy⟩,?_,fun b hb=>?_⟩
  ·exact⟨z2,up2 _ _ D.a1 e2,⟨_,_,up2 _ _ D.a2 b2⟩,b3.mv fun o e=>up2 _ o D.a3 e,b4.mv fun o e=>up2 _ o D.a4 e⟩
  ·have:b≠s.heap.objs.size:=fun q=>by
    subst q;simp only[List.mem_cons,List.not_mem_nil,or_false] at hb;rcases hb with q|q|q|q|q
    ·exact Tz q
    ·exact absurd (zbv q2) (by rw[q];exact Nat.lt_irrefl _)
    ·exact absurd (zbv q3) (by rw[q];exact Nat.lt_irrefl _)
    ·obtain⟨o,vs,e,_⟩:=q4.ob;exact absurd (zbv e) (by rw[q];exact Nat.lt_irrefl _)
    ·obtain⟨o,vs,e,_⟩:=q5.ob;exact absurd (zbv e) (by rw[q];exact Nat.lt_irrefl _)
   rw[jai this];exact (hf b hb).1
 done:=by
  intro X hP hw hK hc i U s Z H E I hf st hg;subst hP hw hK;obtain⟨q1,q2,⟨a,b',q3⟩,q4,q5⟩:=st;obtain⟨xs,ys,sx,sy,hend⟩:=hg;obtain⟨ix,rx,cx,_⟩:=I.src sx;obtain⟨iy,ry,cy,_⟩:=I.src sy;have far:∀ {k:Bool} {l:Addr} {xs:List V},SqV k X.K H l xs->LFar z TO i1 i2 l:=fun h=>⟨jju I h (hf z (by simp)),jju I h (hf TO (by simp)),jju I h (hf i1 (by simp)),jju I h (hf i2 (by simp))⟩
  have lx:=rx.length;have ly:=ry.length;refine jo2 (I.ok.hd hc) D (far sx) (far sy) q1 q2 q3 q4 q5 cx cy ?_ fun h' k=>⟨rfl,I.spun0 (t':=s.toks) hf fun b o hb e=>?_⟩
  ·rcases hend with h|h
   ·exact .inl (by simp;omega)
   ·exact .inr (by simp;omega)
  ·simp only[List.mem_cons,List.not_mem_nil,or_false,not_or] at hb;exact k b o hb.1 hb.2.2.1 hb.2.2.2.1 hb.2.2.2.2 e
 self:=fun _ _ _ _ _ st h=>wpAny_pyIter_zip st.1 h
def zfar(n:Nat):ZFar (n+4) (n+2) (n+3) n (n+1):=⟨show (n+2:Nat)≠n+4 by omega,show (n+3:Nat)≠n+4 by omega,show (n:Nat)≠n+4 by omega,show (n+1:Nat)≠n+4 by omega,show (n+2:Nat)≠n+3 by omega,
 show (n+2:Nat)≠n by omega,show (n+2:Nat)≠n+1 by omega,show (n+3:Nat)≠n by omega,show (n+3:Nat)≠n+1 by omega,show (n:Nat)≠n+1 by omega⟩
section
variable {X:Cx}
def iZip(K:W.Frag)(ta:TA):TI:=fun Z H R=>ta Z H fun vs H1=>∃ k1 k2 l1 l2 xs ys,vs=[.ref l1,.ref l2]/\SqV k1 K H1 l1 xs/\SqV k2 K H1 l2 ys/\R (Itz k1 k2 K l1 l2) H1
def jG6{a b:Expr}{ta:TA}{es:List Expr}{kk:Nat}{tp p pos:Pos}(hg:Gl X "zip")(hm:X.mg "zip"=none)(ha:PA X [a,b] ta)(hs:starEach [a,b] X.env=[(false,eval a X.env),(false,eval b X.env)]:=by rfl)(hs2:starEach [b] X.env=[(false,eval b X.env)]:=by rfl) :
  PI X (.Tuple es kk tp) (.Call (.Name "zip" p) [a,b] [] pos) (iZip X.K ta):=by
 intro U s Z H R I h;refine Call_ (jmg I hg hm boot_zip (PyProof.Rows.callWith_type1 (thn (ha pos U s Z H _ I h) fun us s1 hzz=>?_) (by rw[hs,hs2]) (by rw[hs2];rfl)));obtain⟨vs,H1,I1,r1,q1⟩:=hzz;obtain⟨k1,k2,l1,l2,xs,ys,e,sx,sy,q⟩:=q1;subst e;obtain⟨u1,u2,rfl,e1,e2⟩:=r1.two;cases e1;cases e2;obtain⟨ix,rx,cx,_⟩:=I1.src sx;obtain⟨iy,ry,cy,_⟩:=I1.src sy;refine callType_new F.called_zip (by decide) (F.typeCall_zip_2 _ _) (F.newCall_zip_2 _ _) (fun obj=>F.args_object_init_3 obj _ _) F.entry_zip_new (jvv l1 l2 ix.toArray iy.toArray) ⟨cx,cy,fun o1 o2 w1 w2=>?_⟩;have n1:(s1.heap.push o1).objs.size=s1.heap.objs.size+1:=Heap.size_push ..;have n2:(zA s1.heap o1 o2).objs.size=s1.heap.objs.size+2:=by show (Heap.push _ _).objs.size=_;rw[Heap.size_push,n1]
 have n3:(zB s1.heap o1 o2).objs.size=s1.heap.objs.size+3:=by show (Heap.push _ _).objs.size=_;rw[Heap.size_push,n2]
 have n4:(zC s1.heap o1 o2).objs.size=s1.heap.objs.size+4:=by show (Heap.push _ _).objs.size=_;rw[Heap.size_push,n3]
 have g5:(zD s1.heap o1 o2).get? (zC s1.heap o1 o2).objs.size=some _:=zbz _ rfl;have g4:(zD s1.heap o1 o2).get? (zB s1.heap o1 o2).objs.size=some _:=zaz _ (zbz _ rfl);have g3:(zD s1.heap o1 o2).get? (zA s1.heap o1 o2).objs.size=some _:=zaz _ (zaz _ (zbz _ rfl));have kk2:∀ c o,(zA s1.heap o1 o2).get? c=some o->(zD s1.heap o1 o2).get? c=some o:=fun c o e=>zaz _ (zaz _ (zaz _ e))
 have kk1:∀ c o,(s1.heap.push o1).get? c=some o->(zD s1.heap o1 o2).get? c=some o:=fun c o e=>kk2 c o (zaz _ e)
 have kk0:∀ c o,s1.heap.get? c=some o->(zD s1.heap o1 o2).get? c=some o:=fun c o e=>kk1 c o (zaz _ e)
 rw[n1] at w2 g3;rw[n2] at g3;rw[n3] at g4;rw[n4,n2,n3] at g5;show _/\_;rw[n4];refine⟨⟨_,g5,rfl⟩,wpAny_pyIter_zip g5 ?_⟩;have D:ZFar (s1.heap.objs.size+4) (s1.heap.objs.size+2) (s1.heap.objs.size+3) s1.heap.objs.size (s1.heap.objs.size+1):=zfar _;refine⟨s1.heap.objs.size+4,[s1.heap.objs.size+4,s1.heap.objs.size+2,s1.heap.objs.size+3,s1.heap.objs.size,s1.heap.objs.size+1],_,_,H1,rfl,I1.kept (t':=s1.toks) fun c o e=>kk0 c o e,
  jzy k1 k2 l1 l2 _ _ _ _ _ D,⟨g5,g3,⟨_,_,g4⟩,w1.mv fun o e=>kk1 _ o e,w2.mv fun o e=>kk2 _ o e⟩,fun b hb=>?_,q⟩
 have hb':s1.heap.objs.size<=b:=by
  simp only[List.mem_cons,List.not_mem_nil,or_false] at hb;show (s1.heap.objs.size:Nat)<=(b:Nat);have hb2:(b:Nat)=b:=rfl;rcases hb with q|q|q|q|q<;>(rw[q];first|exact zac _|exact Nat.le_add_right _ _)
 exact I1.fpOk hb' (I1.hok.fresh hb')
end
section
end
def iSeq(K:W.Frag)(tl:TE):TI:=fun Z H R=>tl Z H fun x H1=>(∃ a,x=.ref a/\(∃ xs,SqL K H1 a xs)/\R (Itl K a) H1)\/(∃ a,x=.ref a/\(∃ xs,SqT K H1 a xs)/\R (Itt K a) H1)
def jG5{X:Cx}{tg l:Expr}{tl:TE}(hl:PE X l tl):PI X tg l (iSeq X.K tl):=by
 intro U s Z H R I h;refine thn (hl U s Z H _ I h) fun v s1 hzz=>?_
 obtain⟨x,H1,I1,r1,q1⟩:=hzz;have fp1:∀ b∈[s1.heap.objs.size],FpOk X U H1 b:=fun b hb=>by
  have e:b=s1.heap.objs.size:=by simpa using hb
  subst e;exact I1.fpOk (zac _) (I1.hok.fresh (zac _))
 rcases q1 with ⟨a,e,⟨xs,hq⟩,q⟩|⟨a,e,⟨xs,hq⟩,q⟩
 ·subst e;cases r1;obtain⟨its,rv,p,hz⟩:=I1.list hq;exact wpAny_pyIter_list p.isList ⟨s1.heap.objs.size,[s1.heap.objs.size],_,_,H1,rfl,I1.kept (t':=s1.toks) fun b o e=>zaz _ e,jxj a _,⟨_,zbz _ rfl,rfl,rfl⟩,fp1,q⟩
 ·subst e;cases r1;obtain⟨its,rv,p,hz⟩:=I1.tuple hq;exact wpAny_pyIter_tuple (show s1.heap.IsTuple a its.toArray from p) ⟨s1.heap.objs.size,[s1.heap.objs.size],_,_,H1,rfl,I1.kept (t':=s1.toks) fun b o e=>zaz _ e,jtm a _,⟨_,zbz _ rfl,rfl,rfl⟩,fp1,q⟩
def Itv(val:Nat->V)(n:Nat):It:=⟨fun i _=>i<n,fun i H x H'=>H'=H/\x=val i,fun i _=>i=n⟩
def jpf(nm:String):Bool:=!["enumerate","zip","dict_itemiterator","dict_reverseitemiterator","odict_iterator","itertools.zip_longest","itertools.pairwise"].contains nm
def ji1{P:Program}{w:World}{K:W.Frag}{tg:Expr}(it:Addr)(val:Nat->V)(n:Nat)(Stn:Nat->Heap->Prop)(W:∀ A:Around,A.handled=none->Walks P w A it [it] [it] n (fun i v=>RelV (val i) v) Stn)
  (ob:∀ i h,Stn i h->∃ o nm vs,h.get? it=some o/\o.cls=.type nm/\o.data=.fields vs/\jpf nm=true)
  (sf:∀ (A:Around) (i:Nat) (s:Shared) (Q:qc) (E:qc),Stn i s.heap->Q (.ref it) s->wpAny (model P w) A (pyIter (.ref it)) Q E s):Turn P w K tg (Itv val n) [it] it Stn where
 mem:=by simp
 obj:=fun i h st b hb=>by
  have e:b=it:=by simpa using hb
  subst e;obtain⟨o,nm,vs,q1,_,q3,_⟩:=ob i h st;exact⟨o,q1,fun v z=>by rw[q3] at z;cases z⟩
 keep:=fun i h h' st k=>(W { handled:=none,frames:=some [] } rfl).frame i h h' st k
 item:=by
  intro X hP hw hK hc i U s Z H E I hf st hg;subst hP hw hK;refine (W X.A (I.ok.hd hc)).item i s _ _ hg st fun v h' tk hv st' kk=>⟨v,rfl,?_⟩
  obtain⟨o,nm,vs,q1,q2,q3,q4⟩:=ob _ _ st';have I1:Inv X U Z H { s with heap:=h',toks:=tk }:=I.spun0 hf kk;exact jCt (s:={ s with heap:=h',toks:=tk }) q1 q2 q3 (by unfold jpf at q4;simpa using q4) ⟨val i,H,I1,hv,⟨rfl,rfl⟩,st',fun b hb=>(hf b hb).1⟩
 done:=by
  intro X hP hw hK hc i U s Z H E I hf st hg;subst hP hw hK;have hg':i=n:=hg;subst hg';exact (W X.A (I.ok.hd hc)).done s _ _ st fun h' tk kk=>⟨rfl,I.spun0 hf kk⟩
 self:=fun A i s Q E st h=>sf A i s Q E st h
section
variable {X:Cx}{tg:Expr}
def jph{U:qb}{Z:St}{H:Hp}{s:Shared}{R:It->Hp->Prop}{E:qc}{lo hi st:Int}{t u v:Tok}{tk:Nat}(I:Inv X U Z H s)(hst:st=1)
  (q:R (Itv (fun i=>.int (lo+(i:Nat)*st)) (Builtin.Range.rangeSize lo hi st).toNat) H):wpAny (model X.prog X.w) X.A (pyIter (.ref s.heap.objs.size)) (PIE X U Z tg R) E { s with heap:=s.heap.push { cls:=.type "range",data:=.fields #[.int lo t,.int hi u,.int st v] },toks:=tk }:=by
 have I1:Inv X U Z H { s with heap:=s.heap.push { cls:=.type "range",data:=.fields #[.int lo t,.int hi u,.int st v] },toks:=tk }:=I.kept fun b o e=>zaz _ e
 subst hst;have hn:0<=Builtin.Range.rangeSize lo hi 1:=by rw[rangeSize_one];split<;>omega
 generalize hN:(Builtin.Range.rangeSize lo hi 1).toNat=N at q;have hN':Builtin.Range.rangeSize lo hi 1=(N:Int):=by omega
 have fpk:∀ b∈[(s.heap.push { cls:=.type "range",data:=.fields #[.int lo t,.int hi u,.int 1 v] }).objs.size],FpOk X U H b:=fun b hb=>by
  have e:b=(s.heap.push { cls:=.type "range",data:=.fields #[.int lo t,.int hi u,.int 1 v] }).objs.size:=by simpa using hb
  subst e;exact I1.fpOk (zac _) (I1.hok.fresh (zac _))
 by_cases hsm:Builtin.Range.small lo hi 1=true
 ·refine wpAny_pyIter_range (IsRange.new ..) hsm ?_;refine⟨_,[_],_,_,H,rfl,I1.kept (t':=tk) fun b o e=>zaz _ e,ji1 _ _ N _ (fun A hA=>Walks.range hA _ lo 1 N) (fun i h e=>⟨_,_,_,e,rfl,rfl,rfl⟩) (fun A i s Q E e h=>wpAny_pyIter_rangeiter e h),?_,fpk,q⟩;show IsRangeIter _ _ (lo+((0:Nat):Int)*1) ((N:Int)-((0:Nat):Int)) 1;rw[<- hN'];have e1:lo+((0:Nat):Int)*1=lo:=by simp
  have e2:Builtin.Range.rangeSize lo hi 1-((0:Nat):Int)=Builtin.Range.rangeSize lo hi 1:=by simp
  rw[e1,e2];exact zbz _ rfl
 ·refine wpAny_pyIter_longrange (IsRange.new ..) (by simpa using hsm) ?_;refine⟨_,[_],_,_,H,rfl,I1.kept (t':=tk) fun b o e=>zaz _ e,ji1 _ _ N _ (fun A hA=>Walks.longrange hA _ lo 1 N) (fun i h e=>⟨_,_,_,e,rfl,rfl,rfl⟩) (fun A i s Q E e h=>wpAny_pyIter_longiter e h),?_,fpk,q⟩;show IsLongIter _ _ (lo+((0:Nat):Int)*1) ((N:Int)-((0:Nat):Int)) 1;rw[<- hN'];have e1:lo+((0:Nat):Int)*1=lo:=by simp
  have e2:Builtin.Range.rangeSize lo hi 1-((0:Nat):Int)=Builtin.Range.rangeSize lo hi 1:=by simp
  rw[e1,e2];exact zbz _ rfl
def iRgA(ta:TA):TI:=fun Z H R=>ta Z H fun vs H1=>(∃ j:Int,vs=[.int j]/\R (Itv (fun i=>.int (0+(i:Nat)*1)) (Builtin.Range.rangeSize 0 j 1).toNat) H1) \/
 (∃ i j:Int,vs=[.int i,.int j]/\R (Itv (fun n=>.int (i+(n:Nat)*1)) (Builtin.Range.rangeSize i j 1).toNat) H1)
def jy6{a:Expr}{es:List Expr}{ta:TA}{p pos:Pos}(hg:Gl X "range")(hm:X.mg "range"=none)(ha:PA X (a::es) ta)(hs:starEach (a::es) X.env=(false,eval a X.env)::starEach es X.env:=by rfl)(hp:zbT pos es X.env:=by rfl) :
  PI X tg (.Call (.Name "range" p) (a::es) [] pos) (iRgA ta):=by
 intro U s Z H R I h;refine Call_ (jmg I hg hm boot_range (PyProof.Rows.callWith_type1 (thn (ha pos U s Z H _ I h) fun us s1 hzz=>?_) hs hp));obtain⟨vs,H1,I1,r1,q1⟩:=hzz;rcases q1 with ⟨j,e,q⟩|⟨i,j,e,q⟩
 ·subst e;obtain⟨u,rfl,t,rfl⟩:=r1.one;exact call_range_1 (jph I1 rfl q)
 ·subst e;obtain⟨u,v,rfl,⟨t,rfl⟩,⟨t',rfl⟩⟩:=r1.two;exact call_range_2 (jph I1 rfl q)
end
end L2
namespace DL
open L2
def seqD:D->Option (List D)
 | .lst ds=>some ds
 | .tup ds=>some ds
 | _=>none
def jil(f:DSt->M D):DSt->M (List D):=fun Y=>(f Y).b fun d=>M.o (seqD d)
def jcc(lo:Int)(n:Nat):List D:=(List.range n).map fun i=>.int (lo+(i:Nat))
def jb1:List D->Option (List D)
 | [.int j]=>some (jcc 0 j.toNat)
 | [.int i,.int j]=>some (jcc i (j-i).toNat)
 | _=>none
def zipD:List D->List D->List D
 | x::xs,y::ys=>.tup [x,y]::zipD xs ys
 | _,_=>[]
def jgp:List D->Option (List D)
 | [x,y]=>match seqD x,seqD y with
  | some xs,some ys=>some (zipD xs ys)
  | _,_=>none
 | _=>none
def jCn:Int->List D->List D
 | _,[]=>[]
 | k,d::ds=>.tup [.int k,d]::jCn (k+1) ds
def jx2:List D->Option (List D)
 | [.lst xs]=>some (jCn 0 xs)
 | _=>none
def jf6(k:List D->Option (List D))(f:DSt->M (List D)):DSt->M (List D):=fun Y=>(f Y).b fun ds=>M.o (k ds)
theorem jsi:∀ {xs ys:List D} {i:Nat} {d:D},(zipD xs ys)[i]? = some d->∃ x y,xs[i]? = some x/\ys[i]? = some y/\d=.tup [x,y]
 | [],_,_,_,h=>by simp[zipD] at h
 | _::_,[],_,_,h=>by simp[zipD] at h
 | x::xs,y::ys,0,d,h=>by simp[zipD] at h;exact⟨x,y,rfl,rfl,h.symm⟩
 | x::xs,y::ys,i+1,d,h=>by
  obtain⟨a,b,q1,q2,q3⟩:=jsi (xs:=xs) (ys:=ys) (i:=i) (d:=d) (by simpa[zipD] using h);exact⟨a,b,by simpa using q1,by simpa using q2,q3⟩
theorem jsj:∀ (xs ys:List D),(zipD xs ys).length=min xs.length ys.length
 | [],_=>by simp[zipD]
 | _::_,[]=>by simp[zipD]
 | x::xs,y::ys=>by simp[zipD,jsj xs ys]
section
variable {J:Rho}{X:Cx}{O:List Nat}{E:XK}{a b tg iter e elt:Expr}{es:List Expr}{fa:DSt->M D}{fl:DSt->M (List D)}{pos p:Pos}
def sqv_t{K:W.Frag}{H:Hp}{l:Addr}{xs:List V}:SqV true K H l xs↔SqT K H l xs:=Iff.rfl
def sqv_l{K:W.Frag}{H:Hp}{l:Addr}{xs:List V}:SqV false K H l xs↔SqL K H l xs:=Iff.rfl
def jpl{k:Bool}{K:W.Frag}{H H':Hp}{l:Addr}{xs:List V}(e:Same H H')(h:SqV k K H l xs):SqV k K H' l xs:=by
 cases k with
 | true=>exact jda (H:=H) e h
 | false=>exact jd3 (H:=H) e h
def jFy{J:Rho}{K:W.Frag}{ds:List D}{Hv:Hp}{l:Addr}{xs:List V}(h:SqL K Hv l xs)(hr:Reps J K Hv ds xs):ItD J K (Itl K l) ds Hv:=by
 intro H' G' i f hG;have h':SqL K H' l xs:=jd3 (f.trans jao) h;refine⟨fun hi=>?_,fun hi=>⟨xs,h',by rw[hr.length,hi];exact zac _⟩⟩;obtain⟨v,hv,rv⟩:=hr.get (zax hi);refine⟨⟨xs,v,h',hv⟩,fun x H2 y=>?_⟩;obtain⟨rfl,y⟩:=y;refine⟨Same.refl _,_,zax hi,?_⟩;have:=y xs h';rw[hv] at this;cases this
 exact rv.mono f
def jFz{J:Rho}{K:W.Frag}{ds:List D}{Hv:Hp}{l:Addr}{xs:List V}(h:SqT K Hv l xs)(hr:Reps J K Hv ds xs):ItD J K (Itt K l) ds Hv:=by
 intro H' G' i f hG;have h':SqT K H' l xs:=jda (f.trans jao) h;refine⟨fun hi=>?_,fun hi=>⟨xs,h',by rw[hr.length,hi];exact zac _⟩⟩;obtain⟨v,hv,rv⟩:=hr.get (zax hi);refine⟨⟨xs,v,h',hv⟩,fun x H2 y=>?_⟩;obtain⟨rfl,y⟩:=y;refine⟨Same.refl _,_,zax hi,?_⟩;have:=y xs h';rw[hv] at this;cases this
 exact rv.mono f
def jvg{J:Rho}{K:W.Frag}{Hv:Hp}{val:Nat->V}{ds:List D}{n:Nat}(hl:ds.length=n)(hv:∀ i d,ds[i]? = some d->∀ H,Rep J K H d (val i)):ItD J K (Itv val n) ds Hv:=by
 intro H' G' i f hG;subst hl;refine⟨fun hi=>⟨hi,fun x H2 y=>?_⟩,fun hi=>hi⟩;obtain⟨rfl,rfl⟩:=y;exact⟨Same.refl _,_,zax hi,hv i _ (zax hi) _⟩
def jF0{J:Rho}{K:W.Frag}{k1 k2:Bool}{ds es:List D}{Hv:Hp}{l1 l2:Addr}{xs ys:List V}(h1:SqV k1 K Hv l1 xs)(r1:Reps J K Hv ds xs)(h2:SqV k2 K Hv l2 ys)(r2:Reps J K Hv es ys):ItD J K (Itz k1 k2 K l1 l2) (zipD ds es) Hv:=by
 intro H' G' i f hG;have h1':SqV k1 K H' l1 xs:=jpl (f.trans jao) h1;have h2':SqV k2 K H' l2 ys:=jpl (f.trans jao) h2;refine⟨fun hi=>?_,fun hi=>⟨xs,ys,h1',h2',?_⟩⟩
 ·obtain⟨d1,d2,q1,q2,q3⟩:=jsi (zax hi);obtain⟨v,hv,rv⟩:=r1.get q1;obtain⟨u,hu,ru⟩:=r2.get q2;refine⟨⟨xs,ys,v,u,h1',h2',hv,hu⟩,fun x H2 y=>?_⟩;obtain⟨T,x1,x2,hT,rfl,rfl,y1,y2⟩:=y;have e1:=y1 xs h1';have e2:=y2 ys h2';rw[hv] at e1;cases e1
  rw[hu] at e2;cases e2
  refine⟨ja7 hT,_,zax hi,?_⟩;rw[q3];exact jdj hT (hG T hT) (Reps.cons (rv.mono f) (Reps.cons (ru.mono f) Reps.nil))
 ·rw[jsj] at hi;rw[r1.length,r2.length];omega
def jih(h:DE X O E iter fa):DI X O E tg iter (jil fa):=by
 rintro U s Z H R I ⟨J,Hz,F,Y,r,RS0,hf,k⟩;refine jG5 h U s Z H R I ?_;rcases M.b_inv hf with ⟨d,e1,hf⟩|⟨y,e1,rfl⟩
 ·refine⟨J,Hz,F,Y,.ok d,RS0,e1,fun v H1 s1 r1=>?_⟩;obtain⟨ds,hd,rfl⟩:=M.o_inv hf
  cases d with
  | lst es =>
   cases hd;obtain⟨q,xs,rfl,q2,q3⟩:=rep_lst.mp r1;exact .inl ⟨q,rfl,⟨xs,jd3 jao q2⟩,k _ H1 s1 (jFy q2 q3)⟩
  | tup es =>
   cases hd;obtain⟨q,xs,rfl,q2,q3⟩:=rep_tup.mp r1;exact .inr ⟨q,rfl,⟨xs,jda jao q2⟩,k _ H1 s1 (jFz q2 q3)⟩
  | _=>cases hd
 ·exact⟨J,Hz,F,Y,.error y,RS0,e1,k⟩
def jpi(lo hi:Int):(Builtin.Range.rangeSize lo hi 1).toNat=(hi-lo).toNat:=by
 rw[rangeSize_one];split<;>omega
def jha(hg:Gl X "range")(hm:X.mg "range"=none)(ha:DA X O E (a::es) fl)(hs:starEach (a::es) X.env=(false,eval a X.env)::starEach es X.env:=by rfl)(hp:zbT pos es X.env:=by rfl) :
  DI X O E tg (.Call (.Name "range" p) (a::es) [] pos) (jf6 jb1 fl):=by
 rintro U s Z H R I ⟨J,Hz,F,Y,r,RS0,hf,k⟩;refine jy6 hg hm ha hs hp U s Z H R I ?_;rcases M.b_inv hf with ⟨d,e1,hf⟩|⟨y,e1,rfl⟩
 ·refine⟨J,Hz,F,Y,.ok d,RS0,e1,fun vs H1 s1 r1=>?_⟩;obtain⟨ds,hd,rfl⟩:=M.o_inv hf;unfold jb1 at hd
  split at hd
  ·rename_i j;cases hd;obtain⟨v,r',rfl,q1,q2⟩:=reps_cons.mp r1;cases reps_nil.mp q2;cases rep_int.mp q1;refine .inl ⟨j,rfl,k _ H1 s1 ?_⟩;refine jvg (by unfold jcc;rw[jpi];simp) fun i d hd H=>?_
   unfold jcc at hd;rw[zba] at hd
   cases q:(List.range j.toNat)[i]? with
   | none=>rw[q] at hd;cases hd
   | some m =>
    rw[q] at hd;have:m=i:=by
     have:=(zbb.mp q).2;simpa using this.symm
    subst this;cases hd;exact rep_int.mpr (by rw[Int.mul_one])
  ·rename_i i0 j;cases hd;obtain⟨v,r',rfl,q1,q2⟩:=reps_cons.mp r1;obtain⟨v2,r2,rfl,q3,q4⟩:=reps_cons.mp q2;cases reps_nil.mp q4;cases rep_int.mp q1;cases rep_int.mp q3;refine .inr ⟨i0,j,rfl,k _ H1 s1 ?_⟩;refine jvg (by unfold jcc;rw[jpi];simp) fun i d hd H=>?_
   unfold jcc at hd;rw[zba] at hd
   cases q:(List.range (j-i0).toNat)[i]? with
   | none=>rw[q] at hd;cases hd
   | some m =>
    rw[q] at hd;have:m=i:=by
     have:=(zbb.mp q).2;simpa using this.symm
    subst this;cases hd;exact rep_int.mpr (by rw[Int.mul_one])
  ·cases hd
 ·exact⟨J,Hz,F,Y,.error y,RS0,e1,k⟩
def jps{J:Rho}{K:W.Frag}{H:Hp}{d:D}{ds:List D}{v:V}(hd:seqD d=some ds)(h:Rep J K H d v):∃ k l xs,v=.ref l/\SqV k K H l xs/\Reps J K H ds xs:=by
 cases d with
 | lst es=>cases hd;obtain⟨q,xs,rfl,q2,q3⟩:=rep_lst.mp h;exact⟨false,q,xs,rfl,q2,q3⟩
 | tup es=>cases hd;obtain⟨q,xs,rfl,q2,q3⟩:=rep_tup.mp h;exact⟨true,q,xs,rfl,q2,q3⟩
 | _=>cases hd
def jAa{ts:List Expr}{kk:Nat}{tp:Pos}(hg:Gl X "zip")(hm:X.mg "zip"=none)(ha:DA X O E [a,b] fl)(hs:starEach [a,b] X.env=[(false,eval a X.env),(false,eval b X.env)]:=by rfl)(hs2:starEach [b] X.env=[(false,eval b X.env)]:=by rfl) :
  DI X O E (.Tuple ts kk tp) (.Call (.Name "zip" p) [a,b] [] pos) (jf6 jgp fl):=by
 rintro U s Z H R I ⟨J,Hz,F,Y,r,RS0,hf,k⟩;refine jG6 hg hm ha hs hs2 U s Z H R I ?_;rcases M.b_inv hf with ⟨d,e1,hf⟩|⟨y,e1,rfl⟩
 ·refine⟨J,Hz,F,Y,.ok d,RS0,e1,fun vs H1 s1 r1=>?_⟩;obtain⟨ds,hd,rfl⟩:=M.o_inv hf;unfold jgp at hd
  split at hd
  ·rename_i x y
   split at hd
   ·rename_i xs ys ex ey;cases hd;obtain⟨v,r',rfl,q1,q2⟩:=reps_cons.mp r1;obtain⟨v2,r2,rfl,q3,q4⟩:=reps_cons.mp q2;cases reps_nil.mp q4;obtain⟨k1,l1,us,rfl,z1,z2⟩:=jps ex q1;obtain⟨k2,l2,ws,rfl,z3,z4⟩:=jps ey q3;exact⟨k1,k2,l1,l2,us,ws,rfl,jpl jao z1,jpl jao z3,k _ H1 s1 (jF0 z1 z2 z3 z4)⟩
   ·cases hd
  ·cases hd
 ·exact⟨J,Hz,F,Y,.error y,RS0,e1,k⟩
def jcy(h:D->DSt->Option DSt)(tc:DSt->M Bool)(fe:DSt->M D):List D->DSt->Option (List D)
 | [],_=>some []
 | d::ds,Y=>match h d Y with
  | none=>none
  | some Y1=>match tc Y1 with
   | some (.ok true)=>(match fe Y1 with
    | some (.ok y)=>(jcy h tc fe ds Y1).map (y::·)
    | _=>none)
   | some (.ok false)=>jcy h tc fe ds Y1
   | _=>none
def jed(own:Nat)(caps:qf)(Y:DSt):DSt:=List.replicate own none++caps.map fun p=>(Y[p.2]?).join
def jgx(own:Nat)(caps:qf)(fi:DSt->M (List D))(h:D->DSt->Option DSt)(tc:DSt->M Bool)(fe:DSt->M D):DSt->M D:=fun Y=>(fi Y).b fun ds=>M.o ((jcy h tc fe ds (jed own caps Y)).bind jaw)
def tYes:DSt->M Bool:=fun _=>M.p true
def DC(X:Cx)(O:List Nat)(E:XK)(ifs:List Expr)(f:DSt->M Bool):Prop:=PC0 X ifs (tB X.K O E f)
def jhx:DC X O E [] tYes:=by
 rintro U s Z H Q I ⟨J,Hz,F,Y,r,R,hf,h⟩;cases hf;exact jDl U s Z H Q I (h H (Same.refl H))
def jug{f:DSt->M Bool}(h:DT X O E a f):DC X O E [a] f:=jGv h
def jjb{own:Nat}{caps:qf}{Y:DSt}{i:Nat}{d:D}(h:(jed own caps Y)[i]? = some (some d)):∃ p,caps[i-own]? = some p/\own<=i/\Y[p.2]? = some (some d):=by
 unfold jed at h
 by_cases hi:i<own
 ·rw[List.getElem?_append_left (by simpa using hi),List.getElem?_replicate,if_pos hi] at h;cases h
 ·rw[List.getElem?_append_right (by simpa using hi),List.length_replicate,zba] at h
  cases e:caps[i-own]? with
  | none=>rw[e] at h;cases h
  | some p =>
   rw[e] at h;exact⟨p,rfl,by omega,join_some (zby h)⟩
def jks{own:Nat}{caps:qf}{Z:St}{i:Nat}{p:Str×Nat}{v:V}(h:caps[i-own]? = some p)(hi:own<=i)(hv:Z[p.2]? = some (some v)):(jdv own caps Z)[i]? = some (some v):=by
 unfold jdv;rw[List.getElem?_append_right (by simpa using hi),List.length_replicate,zba,h];show some ((Z[p.2]?).join)=_;rw[hv];rfl
def jj7(O:List Nat)(caps:qf):Bool:=caps.all fun p=>!O.contains p.2
inductive CInv(J:Rho)(K:W.Frag)(H1:Hp)(F:qd)(Dd:Addr)(tot:List D)(cd:DSt->Option (List D))(Z:St)(H:Hp):Prop
 | mk (Y:DSt) (done:List D) (zs:List V) (rest:List D) (hR:RS J K H1 H F [] Z Y) (hD:H Dd=some (.lst zs)) (hz:Reps J K (hid H F) done zs) (hr:cd Y=some rest) (ht:done++rest=tot)
def jfy{ifs:List Expr}{scope:Scope}{own:List Str}{caps:qf}{fi:DSt->M (List D)}{h:D->DSt->Option DSt}{tc:DSt->M Bool}{fe:DSt->M D}(hc:X.calm=true)(ck:CapsOk X scope caps)(hi:DI X O E tg iter fi)
  (hg:∀ C s0 H0 ex,DG (jb5 X scope (own++caps.map (·.1)) C s0 H0 ex) [] tg h) (ht:∀ C s0 H0 ex,DC (jb5 X scope (own++caps.map (·.1)) C s0 H0 ex) [] E0 ifs tc)
  (he:∀ C s0 H0 ex,DE (jb5 X scope (own++caps.map (·.1)) C s0 H0 ex) [] E0 elt fe) (hcf:jj7 O caps=true:=by rfl) (hs:∀ x,foldedSetIterable iter X.env x=pure x:=by intro _;rfl) :
  DE X O E (.ListComp elt [⟨tg,iter,ifs,0⟩] scope pos) (jgx own.length caps fi h tc fe):=by
 rintro U s Z H Q I ⟨J,Hz,F,Y,r,R,hf,k⟩;refine jDm (own:=own) (g:=tG X.K [] h) (tc:=tB X.K [] E0 tc) (te:=tD X.K [] E0 fe) hc ck hi hg ht he hs U s Z H Q I ?_;rcases M.b_inv hf with ⟨ds,e1,hf⟩|⟨y,e1,rfl⟩
 ·refine⟨J,Hz,F,Y,.ok ds,R,e1,fun Jq H1 s1 it Dd hD=>?_⟩;obtain⟨dd,hd,rfl⟩:=M.o_inv hf
  cases hcd:jcy h tc fe ds (jed own.length caps Y) with
  | none=>rw[hcd] at hd;cases hd
  | some tot =>
   rw[hcd] at hd;have hd':jaw tot=some dd:=hd;unfold jaw at hd'
   split at hd'
   ·rename_i hz;cases hd';have R1:=R.mono s1;have pf:=R1.fresh hD
    let F':qd:=fun b=>fob F Z O b || b == Dd
    have F't:∀ b,F' b=true↔fob F Z O b=true\/b=Dd:=fun b=>by show (_ || _)=true↔_;rw[Bool.or_eq_true,beq_iff_eq]
    have vis:∀ {H2:Hp},Same H1 H2->Same (hid H1 (fob F Z O)) (hid H2 F'):=fun {H2} e b o q=>by
     obtain⟨q1,q2⟩:=hid_some.mp q;refine hid_some.mpr ⟨?_,e b o q2⟩
     cases z:F' b with
     | false=>rfl
     | true =>
      rcases (F't b).mp z with z|z
      ·rw[q1] at z;cases z
      ·rw[z,hD] at q2;cases q2
    have R0:RS J X.K H1 (upd H1 Dd (.lst [])) F' [] (jdv own.length caps Z) (jed own.length caps Y):=by
     refine⟨by simp[jdv,jed],ja7 hD,fun b hb=>?_,fun i d hd _=>?_,fun i hi=>absurd hi (by simp),fun i hi=>absurd hi (by simp)⟩
     ·rcases (F't b).mp hb with z|z
      ·refine jg9 fun q=>?_
       rw[R1.fresh q] at z;cases z
      ·rw[z,jam];exact fun q=>nomatch q
     ·obtain⟨p,p1,p2,p3⟩:=jjb hd;have hO:p.2∉O:=fun z=>by
       have:=List.all_eq_true.mp hcf p (List.mem_of_getElem? p1);rw[zbc.mpr z] at this;cases this
      obtain⟨v,q1,q2⟩:=R1.val p.2 d p3 hO;exact⟨v,jks p1 p2 q1,by rw[jc2];exact q2.mono (vis (ja7 hD))⟩
    refine⟨fun i m Z' H'=>m=ds.length-i/\i<=ds.length/\CInv J X.K H1 F' Dd tot (jcy h tc fe (ds.drop i)) Z' H',
     ⟨ds.length,by simp,Nat.zero_le _,_,[],[],tot,R0,jam,Reps.nil,hcd,rfl⟩,?_⟩
    rintro i m Z' H' ⟨rfl,hil,Y',done,zs,rest,R',hDd,rz,hr,htot⟩;have fv:Same (hid H1 (fob F Z O)) (hid H' (fob F' Z' [])):=by rw[jc2];exact vis R'.same
    obtain⟨j1,j2⟩:=it H' (fob F' Z' []) i fv fun p hp=>R'.fresh hp
    by_cases hlt:i<ds.length
    ·obtain⟨go,yld⟩:=j1 hlt;refine .inr ⟨go,CInv J X.K H1 F' Dd tot (jcy h tc fe (ds.drop (i+1))),
      fun Z2 H2 q=>⟨ds.length-(i+1),by omega,rfl,hlt,q⟩,fun x H2 y=>?_⟩
     obtain⟨s2,d,hd,rd⟩:=yld x H2 y;have hdr:ds.drop i=d::ds.drop (i+1):=by
      rw[List.drop_eq_getElem_cons hlt];have:ds[i]=d:=by rw[zax hlt] at hd;exact zby hd
      rw[this]
     rw[hdr] at hr;unfold jcy at hr
     cases e2:h d Y' with
     | none=>rw[e2] at hr;cases hr
     | some Y1 =>
      rw[e2] at hr;dsimp only at hr;refine⟨J,H1,F',Y',d,Y1,R'.mono s2,rd,e2,fun Z3 ef R3=>?_⟩;have keepD:∀ {H5:Hp},Same H2 H5->H5 Dd=some (.lst zs)/\Reps J X.K (hid H5 F') done zs:=fun {H5} e=>⟨e _ _ (s2 _ _ hDd),rz.mono (jas (s2.trans e))⟩
      split at hr
      ·rename_i e3;refine⟨J,H1,F',Y1,.ok true,R3,e3,fun H4 s4=>iteT ?_⟩
       split at hr
       ·rename_i yv e4;refine⟨J,H1,F',Y1,.ok yv,R3.mono s4,e4,fun v H5 s5 r5=>?_⟩;rw[jc2] at r5;obtain⟨k1,k2⟩:=keepD (s4.trans s5)
        cases e5:jcy h tc fe (ds.drop (i+1)) Y1 with
        | none=>rw[e5] at hr;cases hr
        | some rest' =>
         rw[e5] at hr;have hr':yv::rest'=rest:=zby hr;have hFD:F' Dd=true:=(F't Dd).mpr (.inr rfl);have hh:hid (upd H5 Dd (.lst (zs++[v]))) F'=hid H5 F':=je2 hFD;refine⟨zs,k1,?_,Y1,done++[yv],zs++[v],rest',?_,jam,?_,e5,by rw[List.append_assoc,<- htot,<- hr'];rfl⟩
         ·have l1:=k2.length;have l2:=congrArg List.length htot;rw[zcc,<- hr',List.length_cons] at l2;omega
         ·have R5:=R3.mono (s4.trans s5);refine⟨R5.len,jg7 R5.same hD,fun b hb=>jg9 (R5.fin b hb),fun j d' hj hO=>?_,fun j hj=>absurd hj (by simp),fun j hj=>absurd hj (by simp)⟩;obtain⟨v',w1,w2⟩:=R5.val j d' hj hO;refine⟨v',w1,?_⟩;rw[jc2] at w2 |-
          rw[hh];exact w2
         ·rw[hh];exact k2.append (Reps.cons r5 Reps.nil)
       ·cases hr
      ·rename_i e3;refine⟨J,H1,F',Y1,.ok false,R3,e3,fun H4 s4=>iteF ?_⟩;obtain⟨k1,k2⟩:=keepD s4;exact⟨Y1,done,zs,rest,R3.mono s4,k1,k2,hr,htot⟩
      ·cases hr
    ·have ei:i=ds.length:=by omega
     subst ei;rw[List.drop_length] at hr;cases hr;rw[List.append_nil] at htot;subst htot;refine .inl ⟨j2 rfl,k _ H' (s1.trans R'.same) ?_⟩;exact rep_lst.mpr ⟨Dd,zs,rfl,SqL.of (hid_some.mpr ⟨pf,hDd⟩),rz.mono (jfj fun b q=>(F't b).mpr (.inl q))⟩
   ·cases hd'
 ·exact⟨J,Hz,F,Y,.error y,R,e1,k⟩
end
mutual
def okD:D->Bool
 | .non=>false
 | .bl _=>false
 | .ty _=>false
 | .obj _=>false
 | .tup ds=>okDs ds
 | .lst ds=>okDs ds
 | _=>true
def okDs:List D->Bool
 | []=>true
 | d::ds=>okD d&&okDs ds
end
mutual
def depD:D->Nat
 | .tup ds=>depDs ds+1
 | .lst ds=>depDs ds+1
 | _=>0
def depDs:List D->Nat
 | []=>0
 | d::ds=>max (depD d) (depDs ds)
end
mutual
def eqB:D->D->Bool
 | .non,.non=>true
 | .bl a,.bl b=>a == b
 | .bl a,.int b=>(if a then 1 else 0) == b
 | .int a,.bl b=>a == (if b then 1 else 0)
 | .int a,.int b=>a == b
 | .str a,.str b=>a == b
 | .tup a,.tup b=>eqBs a b
 | .lst a,.lst b=>eqBs a b
 | _,_=>false
def eqBs:List D->List D->Bool
 | [],[]=>true
 | a::as,b::bs=>eqB a b&&eqBs as bs
 | _,_=>false
end
mutual
def jm7:∀ d:D,okD d=true->eqB d d=true
 | .non,_=>by unfold eqB;rfl
 | .bl _,_=>by unfold eqB;simp
 | .int _,_=>by unfold eqB;simp
 | .str _,_=>by unfold eqB;simp
 | .ty _,h=>by unfold okD at h;cases h
 | .obj _,h=>by unfold okD at h;cases h
 | .tup ds,h=>by unfold okD at h;unfold eqB;exact eqBs_refl ds h
 | .lst ds,h=>by unfold okD at h;unfold eqB;exact eqBs_refl ds h
def eqBs_refl:∀ ds:List D,okDs ds=true->eqBs ds ds=true
 | [],_=>by unfold eqBs;rfl
 | d::ds,h=>by
  unfold okDs at h;rw[Bool.and_eq_true] at h;unfold eqBs;rw[jm7 d h.1,eqBs_refl ds h.2];rfl
end
theorem jik:∀ {as bs:List D},eqBs as bs=true->as.length=bs.length
 | [],[],_=>rfl
 | [],_::_,h=>by unfold eqBs at h;cases h
 | _::_,[],h=>by unfold eqBs at h;cases h
 | a::as,b::bs,h=>by
  unfold eqBs at h;rw[Bool.and_eq_true] at h;simp[jik h.2]
theorem jij:∀ {as bs:List D},as.length=bs.length->∀ (k:Nat->Bool),(∀ j a b,as[j]? = some a->bs[j]? = some b->k j=eqB a b)->(List.range as.length).all k=eqBs as bs
 | [],[],_,k,_=>by unfold eqBs;rfl
 | [],_::_,h,_,_=>by simp at h
 | _::_,[],h,_,_=>by simp at h
 | a::as,b::bs,h,k,hk=>by
  unfold eqBs;rw[List.length_cons,List.range_succ_eq_map,List.all_cons,List.all_map,hk 0 a b rfl rfl];congr 1;exact jij (by simpa using h) (k ∘ Nat.succ) fun j x y e1 e2=>hk (j+1) x y (by simpa using e1) (by simpa using e2)
theorem jeq:∀ {ds:List D} {i:Nat} {d:D},okDs ds=true->ds[i]? = some d->okD d=true
 | [],_,_,_,e=>by simp at e
 | d::ds,0,x,h,e=>by unfold okDs at h;rw[Bool.and_eq_true] at h;simp at e;subst e;exact h.1
 | d::ds,i+1,x,h,e=>by unfold okDs at h;rw[Bool.and_eq_true] at h;exact jeq h.2 (by simpa using e)
theorem jgw:∀ {ds:List D} {i:Nat} {d:D},ds[i]? = some d->depD d<=depDs ds
 | [],_,_,e=>by simp at e
 | d::ds,0,x,e=>by simp at e;subst e;unfold depDs;omega
 | d::ds,i+1,x,e=>by have:=jgw (ds:=ds) (i:=i) (d:=x) (by simpa using e);unfold depDs;omega
section
variable {J:Rho}{X:Cx}{U:qb}{Z:St}{H:Hp}{s:Shared}
def jGa{l:Addr}{xs ys:List V}(I:Inv X U Z H s)(h1:SqT X.K H l xs)(h2:SqL X.K H l ys):False:=by
 obtain⟨i1,_,p1,_⟩:=I.tuple h1;obtain⟨i2,_,p2,_⟩:=I.list h2;exact SeqAt.ne_of_list_tuple p2.isList p1 rfl
mutual
def jwt(I:Inv X U Z H s):∀ {d e:D} {v:V},okD d=true->okD e=true->Rep J X.K H d v->Rep J X.K H e v->d=e
 | .non,e,v,_,oe,h,k=>by
  cases rep_non.mp h
  cases e with
  | non=>rfl
  | bl _=>exact nomatch rep_bl.mp k
  | int _=>exact nomatch rep_int.mp k
  | str _=>exact nomatch rep_str.mp k
  | ty _=>unfold okD at oe;cases oe
  | obj _=>unfold okD at oe;cases oe
  | tup _=>obtain⟨_,_,z,_⟩:=rep_tup.mp k;cases z
  | lst _=>obtain⟨_,_,z,_⟩:=rep_lst.mp k;cases z
 | .bl b,e,v,_,oe,h,k=>by
  cases rep_bl.mp h
  cases e with
  | non=>exact nomatch rep_non.mp k
  | bl _=>cases rep_bl.mp k;rfl
  | int _=>exact nomatch rep_int.mp k
  | str _=>exact nomatch rep_str.mp k
  | ty _=>unfold okD at oe;cases oe
  | obj _=>unfold okD at oe;cases oe
  | tup _=>obtain⟨_,_,z,_⟩:=rep_tup.mp k;cases z
  | lst _=>obtain⟨_,_,z,_⟩:=rep_lst.mp k;cases z
 | .int b,e,v,_,oe,h,k=>by
  cases rep_int.mp h
  cases e with
  | non=>exact nomatch rep_non.mp k
  | bl _=>exact nomatch rep_bl.mp k
  | int _=>cases rep_int.mp k;rfl
  | str _=>exact nomatch rep_str.mp k
  | ty _=>unfold okD at oe;cases oe
  | obj _=>unfold okD at oe;cases oe
  | tup _=>obtain⟨_,_,z,_⟩:=rep_tup.mp k;cases z
  | lst _=>obtain⟨_,_,z,_⟩:=rep_lst.mp k;cases z
 | .str b,e,v,_,oe,h,k=>by
  cases rep_str.mp h
  cases e with
  | non=>exact nomatch rep_non.mp k
  | bl _=>exact nomatch rep_bl.mp k
  | int _=>exact nomatch rep_int.mp k
  | str _=>cases rep_str.mp k;rfl
  | ty _=>unfold okD at oe;cases oe
  | obj _=>unfold okD at oe;cases oe
  | tup _=>obtain⟨_,_,z,_⟩:=rep_tup.mp k;cases z
  | lst _=>obtain⟨_,_,z,_⟩:=rep_lst.mp k;cases z
 | .ty _,_,_,od,_,_,_=>by unfold okD at od;cases od
 | .obj _,_,_,od,_,_,_=>by unfold okD at od;cases od
 | .tup ds,e,v,od,oe,h,k=>by
  obtain⟨a,xs,rfl,q1,q2⟩:=rep_tup.mp h
  cases e with
  | non=>exact nomatch rep_non.mp k
  | bl _=>exact nomatch rep_bl.mp k
  | int _=>exact nomatch rep_int.mp k
  | str _=>exact nomatch rep_str.mp k
  | ty _=>unfold okD at oe;cases oe
  | obj _=>unfold okD at oe;cases oe
  | tup es =>
   obtain⟨b,ys,z,p1,p2⟩:=rep_tup.mp k;cases z;rw[I.tuple_inj q1 p1] at q2;unfold okD at od oe;rw[reps_inj I od oe q2 p2]
  | lst es =>
   obtain⟨b,ys,z,p1,p2⟩:=rep_lst.mp k;cases z;exact (jGa I q1 p1).elim
 | .lst ds,e,v,od,oe,h,k=>by
  obtain⟨a,xs,rfl,q1,q2⟩:=rep_lst.mp h
  cases e with
  | non=>exact nomatch rep_non.mp k
  | bl _=>exact nomatch rep_bl.mp k
  | int _=>exact nomatch rep_int.mp k
  | str _=>exact nomatch rep_str.mp k
  | ty _=>unfold okD at oe;cases oe
  | obj _=>unfold okD at oe;cases oe
  | tup es =>
   obtain⟨b,ys,z,p1,p2⟩:=rep_tup.mp k;cases z;exact (jGa I p1 q1).elim
  | lst es =>
   obtain⟨b,ys,z,p1,p2⟩:=rep_lst.mp k;cases z;rw[I.list_inj q1 p1] at q2;unfold okD at od oe;rw[reps_inj I od oe q2 p2]
def reps_inj(I:Inv X U Z H s):∀ {ds es:List D} {vs:List V},okDs ds=true->okDs es=true->Reps J X.K H ds vs->Reps J X.K H es vs->ds=es
 | [],[],_,_,_,_,_=>rfl
 | [],_::_,_,_,_,h,k=>by cases reps_nil.mp h;obtain⟨_,_,z,_⟩:=reps_cons.mp k;cases z
 | _::_,[],_,_,_,h,k=>by cases reps_nil.mp k;obtain⟨_,_,z,_⟩:=reps_cons.mp h;cases z
 | d::ds,e::es,vs,od,oe,h,k=>by
  obtain⟨v,r,rfl,h1,h2⟩:=reps_cons.mp h;obtain⟨v',r',z,k1,k2⟩:=reps_cons.mp k;cases z;unfold okDs at od oe;rw[Bool.and_eq_true] at od oe;rw[jwt I od.1 oe.1 h1 k1,reps_inj I od.2 oe.2 h2 k2]
end
def jp2(I:Inv X U Z H s):∀ (n:Nat) (A:Around) (d e:D) (v u:V) (a b:Value),depD d<=n->A.units+n+1<cLine->okD d=true->okD e=true->Rep J X.K H d v->Rep J X.K H e u->RelV v a->RelV u b ->
  SeqAt.RcAt A s a b (eqB d e)/\SeqAt.EqAt A s a b (eqB d e):=by
 intro n
 induction n with
 | zero =>
  intro A d e v u a b hd hu od oe rd re ra rb;have hu':A.units<cLine:=by omega
  have seqT:∀ {es:List D},Rep J X.K H (.tup es) u->∃ l its,b=.ref l/\s.heap.IsTuple l its:=fun h=>by
   obtain⟨l,xs,rfl,q1,_⟩:=rep_tup.mp h;obtain⟨its,_,p,_⟩:=I.tuple q1;exact⟨l,_,rb,p⟩
  have seqL:∀ {es:List D},Rep J X.K H (.lst es) u->∃ l its,b=.ref l/\s.heap.IsList l its:=fun h=>by
   obtain⟨l,xs,rfl,q1,_⟩:=rep_lst.mp h;obtain⟨its,_,p,_⟩:=I.list q1;exact⟨l,_,rb,p.isList⟩
  cases d with
  | ty _=>unfold okD at od;cases od
  | obj _=>unfold okD at od;cases od
  | tup _=>unfold depD at hd;omega
  | lst _=>unfold depD at hd;omega
  | non=>unfold okD at od;cases od
  | bl x=>unfold okD at od;cases od
  | int x =>
   cases rep_int.mp rd;obtain⟨ta,rfl⟩:=ra
   cases e with
   | ty _=>unfold okD at oe;cases oe
   | obj _=>unfold okD at oe;cases oe
   | non=>unfold okD at oe;cases oe
   | bl y=>unfold okD at oe;cases oe
   | int y=>cases rep_int.mp re;obtain⟨t,rfl⟩:=rb;exact⟨SeqAt.RcAt.int_int _ _ _ _,SeqAt.EqAt.int_int _ _ _ _⟩
   | str y=>cases rep_str.mp re;obtain⟨t,rfl⟩:=rb;exact⟨SeqAt.RcAt.int_str _ _ _ _,SeqAt.EqAt.int_str _ _ _ _⟩
   | tup es=>obtain⟨l,its,rfl,p⟩:=seqT re;exact⟨SeqAt.RcAt.int_tuple _ _ p hu',SeqAt.EqAt.int_tuple _ _ p hu'⟩
   | lst es=>obtain⟨l,its,rfl,p⟩:=seqL re;exact⟨SeqAt.RcAt.int_list _ _ p hu',SeqAt.EqAt.int_list _ _ p hu'⟩
  | str x =>
   cases rep_str.mp rd;obtain⟨ta,rfl⟩:=ra
   cases e with
   | ty _=>unfold okD at oe;cases oe
   | obj _=>unfold okD at oe;cases oe
   | non=>unfold okD at oe;cases oe
   | bl y=>unfold okD at oe;cases oe
   | int y=>cases rep_int.mp re;obtain⟨t,rfl⟩:=rb;exact⟨SeqAt.RcAt.str_int _ _ _ _,SeqAt.EqAt.str_int _ _ _ _⟩
   | str y=>cases rep_str.mp re;obtain⟨t,rfl⟩:=rb;exact⟨SeqAt.RcAt.str_str _ _ _ _,SeqAt.EqAt.str_str _ _ _ _⟩
   | tup es=>obtain⟨l,its,rfl,p⟩:=seqT re;exact⟨SeqAt.RcAt.str_tuple _ _ p hu',SeqAt.EqAt.str_tuple _ _ p hu'⟩
   | lst es=>obtain⟨l,its,rfl,p⟩:=seqL re;exact⟨SeqAt.RcAt.str_list _ _ p hu',SeqAt.EqAt.str_list _ _ p hu'⟩
 | succ n ih =>
  intro A d e v u a b hd hu od oe rd re ra rb;have hu':A.units<cLine:=by omega
  have hin:A.in1.units+n+1<cLine:=by show A.units+1+n+1<cLine;omega
  by_cases small:depD d<=n
  ·exact ih A d e v u a b small (by omega) od oe rd re ra rb
  ·-- the two are refs: the same,or apart
   have both:∀ {l m:Addr},v=.ref l->u=.ref m->a=.ref l->b=.ref m->SeqAt.RcAt A s a b (eqB d e)->SeqAt.RcAt A s a b (eqB d e)/\SeqAt.EqAt A s a b (eqB d e):=fun {l m} ev eu ea eb r=>by
    refine⟨r,?_⟩;subst ev eu ea eb
    by_cases z:l=m
    ·subst z;have:d=e:=jwt I od oe rd re;subst this;rw[jm7 d od];exact SeqAt.EqAt.same _
    ·exact SeqAt.EqAt.of_refs z r
   cases d with
   | ty _=>unfold okD at od;cases od
   | obj _=>unfold okD at od;cases od
   | non=>unfold depD at small;omega
   | bl _=>unfold depD at small;omega
   | int _=>unfold depD at small;omega
   | str _=>unfold depD at small;omega
   | tup ds =>
    obtain⟨l,xs,rfl,q1,q2⟩:=rep_tup.mp rd;cases ra;obtain⟨ix,rx,px,_⟩:=I.tuple q1;have px':s.heap.IsTuple l ix.toArray:=px;unfold okD at od;unfold depD at hd
    cases e with
    | ty _=>unfold okD at oe;cases oe
    | obj _=>unfold okD at oe;cases oe
    | non=>unfold okD at oe;cases oe
    | bl y=>unfold okD at oe;cases oe
    | int y=>cases rep_int.mp re;obtain⟨t,rfl⟩:=rb;exact⟨SeqAt.RcAt.tuple_int _ _ px' hu',SeqAt.EqAt.tuple_int _ _ px' hu'⟩
    | str y=>cases rep_str.mp re;obtain⟨t,rfl⟩:=rb;exact⟨SeqAt.RcAt.tuple_str _ _ px' hu',SeqAt.EqAt.tuple_str _ _ px' hu'⟩
    | lst es =>
     obtain⟨m,ys,rfl,p1,p2⟩:=rep_lst.mp re;cases rb;obtain⟨iy,ry,py,_⟩:=I.list p1;unfold eqB;exact⟨SeqAt.RcAt.tuple_list px' py.isList hu',SeqAt.EqAt.tuple_list px' py.isList hu'⟩
    | tup es =>
     obtain⟨m,ys,rfl,p1,p2⟩:=rep_tup.mp re;cases rb;obtain⟨iy,ry,py,_⟩:=I.tuple p1;unfold okD at oe;refine both rfl rfl rfl rfl ?_;have lx:=rx.length;have ly:=ry.length;have mx:=q2.length;have my:=p2.length;have R:=SeqAt.RcAt.tuples (e:=fun j=>match ds[j]?,es[j]? with|some x,some y=>eqB x y|_,_=>false) px' (show s.heap.IsTuple m iy.toArray from py) hu' fun j h1 h2=>by
      have h1':j<ix.length:=by simpa using h1
      have h2':j<iy.length:=by simpa using h2
      have hj1:j<ds.length:=by omega
      have hj2:j<es.length:=by omega
      obtain⟨v1,e1,r1⟩:=q2.get (zax hj1);obtain⟨v2,e2,r2⟩:=p2.get (zax hj2);obtain⟨u1,f1,s1⟩:=rx.get e1;obtain⟨u2,f2,s2⟩:=ry.get e2;have g1:ix.toArray[j]=u1:=by rw[zax h1'] at f1;simpa using zby f1
      have g2:iy.toArray[j]=u2:=by rw[zax h2'] at f2;simpa using zby f2
      rw[g1,g2,zax hj1,zax hj2];have dd:=jgw (zax hj1);exact (ih A.in1 _ _ v1 v2 u1 u2 (by omega) hin (jeq od (zax hj1)) (jeq oe (zax hj2)) r1 r2 s1 s2).2
     unfold eqB;have fin:((List.range (min ix.toArray.size iy.toArray.size)).all (fun j=>match ds[j]?,es[j]? with|some x,some y=>eqB x y|_,_=>false)&&ix.toArray.size == iy.toArray.size)=eqBs ds es:=by
      simp only[zbx]
      by_cases hl:ds.length=es.length
      ·have e1:min ix.length iy.length=ds.length:=by omega
       have e2:(ix.length == iy.length)=true:=by simp;omega
       rw[e1,e2,Bool.and_true];exact jij hl _ fun j x y z1 z2=>by rw[z1,z2]
      ·have e2:(ix.length == iy.length)=false:=by simp;omega
       rw[e2,Bool.and_false]
       cases z:eqBs ds es with
       | false=>rfl
       | true=>exact absurd (jik z) hl
     rw[fin] at R;exact R
   | lst ds =>
    obtain⟨l,xs,rfl,q1,q2⟩:=rep_lst.mp rd;cases ra;obtain⟨ix,rx,px,_⟩:=I.list q1;have px':s.heap.IsList l ix.toArray:=px.isList;unfold okD at od;unfold depD at hd
    cases e with
    | ty _=>unfold okD at oe;cases oe
    | obj _=>unfold okD at oe;cases oe
    | non=>unfold okD at oe;cases oe
    | bl y=>unfold okD at oe;cases oe
    | int y=>cases rep_int.mp re;obtain⟨t,rfl⟩:=rb;exact⟨SeqAt.RcAt.list_int _ _ px' hu',SeqAt.EqAt.list_int _ _ px' hu'⟩
    | str y=>cases rep_str.mp re;obtain⟨t,rfl⟩:=rb;exact⟨SeqAt.RcAt.list_str _ _ px' hu',SeqAt.EqAt.list_str _ _ px' hu'⟩
    | tup es =>
     obtain⟨m,ys,rfl,p1,p2⟩:=rep_tup.mp re;cases rb;obtain⟨iy,ry,py,_⟩:=I.tuple p1;unfold eqB;exact⟨SeqAt.RcAt.list_tuple px' py hu',SeqAt.EqAt.list_tuple px' py hu'⟩
    | lst es =>
     obtain⟨m,ys,rfl,p1,p2⟩:=rep_lst.mp re;cases rb;obtain⟨iy,ry,py,_⟩:=I.list p1;unfold okD at oe;refine both rfl rfl rfl rfl ?_;have lx:=rx.length;have ly:=ry.length;have mx:=q2.length;have my:=p2.length;unfold eqB
     by_cases hl:ds.length=es.length
     ·have hsz:ix.toArray.size=iy.toArray.size:=by simp only[zbx];omega
      have R:=SeqAt.RcAt.lists (e:=fun j=>match ds[j]?,es[j]? with|some x,some y=>eqB x y|_,_=>false) px' py.isList hsz hu' fun j h1 h2=>by
       have h1':j<ix.length:=by simpa using h1
       have h2':j<iy.length:=by simpa using h2
       have hj1:j<ds.length:=by omega
       have hj2:j<es.length:=by omega
       obtain⟨v1,e1,r1⟩:=q2.get (zax hj1);obtain⟨v2,e2,r2⟩:=p2.get (zax hj2);obtain⟨u1,f1,s1⟩:=rx.get e1;obtain⟨u2,f2,s2⟩:=ry.get e2;have g1:ix.toArray[j]=u1:=by rw[zax h1'] at f1;simpa using zby f1
       have g2:iy.toArray[j]=u2:=by rw[zax h2'] at f2;simpa using zby f2
       rw[g1,g2,zax hj1,zax hj2];have dd:=jgw (zax hj1);exact (ih A.in1 _ _ v1 v2 u1 u2 (by omega) hin (jeq od (zax hj1)) (jeq oe (zax hj2)) r1 r2 s1 s2).2
      have e1:ix.toArray.size=ds.length:=by simp only[zbx];omega
      rw[e1,jij hl _ fun j x y z1 z2=>by rw[z1,z2]] at R;exact R
     ·have R:=SeqAt.RcAt.lists_lengths (s:=s) (A:=A) px' py.isList (by simp only[zbx];simp;omega) hu'
      cases z:eqBs ds es with
      | false=>exact R
      | true=>exact absurd (jik z) hl
end
def BIGN:Nat:=Classical.choose (⟨2 ^ 100000,rfl⟩:∃ n:Nat,n=2 ^ 100000)
def jtp:BIGN=2 ^ 100000:=Classical.choose_spec (⟨2 ^ 100000,rfl⟩:∃ n:Nat,n=2 ^ 100000)
def BIG:Int:=(BIGN:Int)
def DIVN:Nat:=Classical.choose (⟨2 ^ 9000,rfl⟩:∃ n:Nat,n=2 ^ 9000)
def jtq:DIVN=2 ^ 9000:=Classical.choose_spec (⟨2 ^ 9000,rfl⟩:∃ n:Nat,n=2 ^ 9000)
def DIVB:Int:=(DIVN:Int)
def jhm(i:Int):Bool:=decide (-BIG<i)&&decide (i<BIG)
def gAdd:D->D->Option D
 | .int i,.int j=>some (.int (i+j))
 | .str x,.str y=>if x.length+y.length<=sizeLine then some (.str (x++y)) else none
 | _,_=>none
def gSub:D->D->Option D
 | .int i,.int j=>some (.int (i-j))
 | _,_=>none
def gMul:D->D->Option D
 | .int i,.int j=>if (jhm i&&jhm j)=true then some (.int (i*j)) else none
 | .str x,.int n=>if x.length<=4096/\-4096<=n/\n<=4096 then some (.str (Txt.mul x n)) else none
 | _,_=>none
def gMod:D->D->Option D
 | .int i,.int j=>if 0<j then some (.int (i % j)) else none
 | _,_=>none
def jdf:D->D->Option D
 | .int i,.int j=>if 0<j/\j<DIVB then some (.int (i / j)) else none
 | _,_=>none
def gPow:D->D->Option D
 | .int i,.int j=>if 0<=j/\j<=1000/\-(2 ^ 60)<i/\i<2 ^ 60 then some (.int (i ^ j.toNat)) else none
 | _,_=>none
def gCmp(p:Int->Int->Bool)(q:Str->Str->Bool):D->D->Option D
 | .int i,.int j=>some (.bl (p i j))
 | .str x,.str y=>some (.bl (q x y))
 | _,_=>none
def gLt:=gCmp (fun i j=>decide (i<j)) (fun x y=>decide (x.cps.toList<y.cps.toList))
def gLe:=gCmp (fun i j=>decide (i<=j)) (fun x y=>!decide (y.cps.toList<x.cps.toList))
def gGt:=gCmp (fun i j=>decide (j<i)) (fun x y=>decide (y.cps.toList<x.cps.toList))
def gGe:=gCmp (fun i j=>decide (j<=i)) (fun x y=>!decide (x.cps.toList<y.cps.toList))
def gEq:D->D->Option D:=fun x y=>if (okD x&&okD y&&decide (depD x<=20))=true then some (.bl (eqB x y)) else none
def gNe:D->D->Option D:=fun x y=>if (okD x&&okD y&&decide (depD x<=20))=true then some (.bl !(eqB x y)) else none
def jrx:D->Bool
 | .non=>true
 | _=>false
def gIs:D->D->Option D
 | x,.non=>some (.bl (jrx x))
 | _,_=>none
def jAh:D->D->Option D
 | x,.non=>some (.bl !(jrx x))
 | _,_=>none
def gNeg:D->Option D
 | .int i=>some (.int (-i))
 | _=>none
def gIx:D->D->Option D
 | .lst ds,.int i=>atI ds i
 | .tup ds,.int i=>atI ds i
 | .str z,.int i=>if z.length<=sizeLine then (atI z.cps.toList i).map fun c=>.str ⟨#[c]⟩ else none
 | _,_=>none
def jq5{i:Int}(h:jhm i=true):Builtin.Int.intBits i<=100001:=by
 unfold jhm at h;rw[Bool.and_eq_true,decide_eq_true_eq,decide_eq_true_eq] at h;unfold Builtin.Int.intBits
 split
 ·omega
 ·have hn:i.natAbs≠0:=by
   intro z;have:i=0:=by omega
   subst this;simp at *
  have hlt:i.natAbs<BIGN:=by
   unfold BIG at h;omega
  rw[jtp] at hlt;have:=(Nat.log2_lt (k:=100000) hn).mpr hlt;omega
def jBv{i j:Int}(h1:jhm i=true)(h2:jhm j=true):IntMulOk i j:=by
 have b1:=jq5 h1;have b2:=jq5 h2;unfold IntMulOk;have:Builtin.Int.intTooBig ((Builtin.Int.intBits i:Int)+(Builtin.Int.intBits j:Int))=false:=by
  unfold Builtin.Int.intTooBig bitsLine;simp;omega
 intro h;rw[Bool.and_eq_true] at h;have h2:=h.2
 first
  | (rw[this] at h2;cases h2)
  | (push_cast at h2;rw[this] at h2;cases h2)
section
variable {X:Cx}
def jqm:OpD X.K gAdd (fun x y H Q=>rI0 (fun i j=>.int (i+j)) x y H Q\/∃ i j,x=.str i/\y=.str j/\i.length+j.length<=sizeLine/\Q (.str (i++j)) H):=by
 intro x y d hd J H G u v Q hG ru rv k;unfold gAdd at hd
 split at hd
 ·cases hd;exact .inl ⟨_,_,rep_int.mp ru,rep_int.mp rv,k _ H (Same.refl H) (rep_int.mpr rfl)⟩
 ·split at hd
  ·rename_i hz;cases hd;exact .inr ⟨_,_,rep_str.mp ru,rep_str.mp rv,hz,k _ H (Same.refl H) (rep_str.mpr rfl)⟩
  ·cases hd
 ·cases hd
def op_addD:OpR X (binaryOp .Add) (fun x y H Q=>rI0 (fun i j=>.int (i+j)) x y H Q\/∃ i j,x=.str i/\y=.str j/\i.length+j.length<=sizeLine/\Q (.str (i++j)) H):=op_add.or js4
def jk9:OpD X.K gSub (rI0 fun i j=>.int (i-j)):=by
 intro x y d hd J H G u v Q hG ru rv k;unfold gSub at hd
 split at hd
 ·cases hd;exact⟨_,_,rep_int.mp ru,rep_int.mp rv,k _ H (Same.refl H) (rep_int.mpr rfl)⟩
 ·cases hd
def op_mulD:OpR X (binaryOp .Mult) (fun x y H Q=>rI (fun i j=>(jhm i&&jhm j)=true) (fun i j=>.int (i*j)) x y H Q\/∃ z n,x=.str z/\y=.int n/\(z.length<=4096/\-4096<=n/\n<=4096)/\Q (.str (Txt.mul z n)) H):=by
 refine OpR.or (opI fun i j t u s E Q hc q=>PyProof.Rows.mul_int q (by rw[Bool.and_eq_true] at hc;exact jBv hc.1 hc.2)) ?_;intro U s Z H x y v u Q I rx ry h;obtain⟨z,n,rfl,rfl,⟨h1,h2,h3⟩,q⟩:=h;obtain⟨t,rfl⟩:=rx;obtain⟨t',rfl⟩:=ry;refine SB.mul (PyProof.Rows.mulOk_of 4096 4096 h1 h3 (by omega) (by decide) (by decide)) fun t' k=>⟨.str (Txt.mul z n),H,I.tok _,⟨_,rfl⟩,q⟩
def jDj:OpD X.K gMul (fun x y H Q=>rI (fun i j=>(jhm i&&jhm j)=true) (fun i j=>.int (i*j)) x y H Q\/∃ z n,x=.str z/\y=.int n/\(z.length<=4096/\-4096<=n/\n<=4096)/\Q (.str (Txt.mul z n)) H):=by
 intro x y d hd J H G u v Q hG ru rv k;unfold gMul at hd
 split at hd
 ·split at hd
  ·rename_i hz;cases hd;exact .inl ⟨_,_,rep_int.mp ru,rep_int.mp rv,hz,k _ H (Same.refl H) (rep_int.mpr rfl)⟩
  ·cases hd
 ·split at hd
  ·rename_i hz;cases hd;exact .inr ⟨_,_,rep_str.mp ru,rep_int.mp rv,hz,k _ H (Same.refl H) (rep_str.mpr rfl)⟩
  ·cases hd
 ·cases hd
def jbs:OpD X.K gMod (rI (fun _ j=>0<j) fun i j=>.int (i % j)):=by
 intro x y d hd J H G u v Q hG ru rv k;unfold gMod at hd
 split at hd
 ·split at hd
  ·rename_i hz;cases hd;exact⟨_,_,rep_int.mp ru,rep_int.mp rv,hz,k _ H (Same.refl H) (rep_int.mpr rfl)⟩
  ·cases hd
 ·cases hd
def jcn:OpR X (binaryOp .FloorDiv) (rI (fun _ j=>0<j/\j<DIVB) fun i j=>.int (i / j)):=opI fun i j t u s E Q hc q=>by
 have e:i.fdiv j=i / j:=Int.fdiv_eq_ediv_of_nonneg i (Int.le_of_lt hc.1);refine PyProof.Rows.floordiv_int (by omega) (by rw[e];exact q) (.inl (PyProof.noPylong_of_log2 ?_));have hn:j.natAbs≠0:=by omega
 have hlt:j.natAbs<DIVN:=by
  have:=hc.2;unfold DIVB at this;omega
 rw[jtq] at hlt;exact (Nat.log2_lt (k:=9000) hn).mpr hlt
def jcp:OpD X.K jdf (rI (fun _ j=>0<j/\j<DIVB) fun i j=>.int (i / j)):=by
 intro x y d hd J H G u v Q hG ru rv k;unfold jdf at hd
 split at hd
 ·split at hd
  ·rename_i hz;cases hd;exact⟨_,_,rep_int.mp ru,rep_int.mp rv,hz,k _ H (Same.refl H) (rep_int.mpr rfl)⟩
  ·cases hd
 ·cases hd
def jDk:OpD X.K gPow (rI CPow fun i j=>.int (i ^ j.toNat)):=by
 intro x y d hd J H G u v Q hG ru rv k;unfold gPow at hd
 split at hd
 ·split at hd
  ·rename_i hz;cases hd;exact⟨_,_,rep_int.mp ru,rep_int.mp rv,⟨hz.1,by omega,by omega⟩,k _ H (Same.refl H) (rep_int.mpr rfl)⟩
  ·cases hd
 ·cases hd
def jco{p:Int->Int->Bool}{q:Str->Str->Bool}:OpD X.K (gCmp p q) (fun x y H Q=>rI0 (fun i j=>.bl (p i j)) x y H Q\/∃ i j,x=.str i/\y=.str j/\Q (.bl (q i j)) H):=by
 intro x y d hd J H G u v Q hG ru rv k;unfold gCmp at hd
 split at hd
 ·cases hd;exact .inl ⟨_,_,rep_int.mp ru,rep_int.mp rv,k _ H (Same.refl H) (rep_bl.mpr rfl)⟩
 ·cases hd;exact .inr ⟨_,_,rep_str.mp ru,rep_str.mp rv,k _ H (Same.refl H) (rep_bl.mpr rfl)⟩
 ·cases hd
def jwc{op:CmpOp}{q:Str->Str->Bool}(h:∀ {prog:Program} {w:World} {A:Around} {E:qc} {s:Shared} {Q:qc} (x y:Str) (t u:Tok),Q (.bool (q x y)) s->wpAny (model prog w) A (compareOp op (.str x t) (.str y u)) Q E s) :
  OpR X (compareOp op) (fun x y H Q=>∃ i j,x=.str i/\y=.str j/\Q (.bl (q i j)) H):=by
 intro U s Z H x y v u Q I rx ry k;obtain⟨i,j,rfl,rfl,k⟩:=k;obtain⟨t,rfl⟩:=rx;obtain⟨t',rfl⟩:=ry;exact h i j t t' ⟨.bl (q i j),H,I,rfl,k⟩
def jg3:OpR X (compareOp .Lt) (fun x y H Q=>rI0 (fun i j=>.bl (decide (i<j))) x y H Q\/∃ i j,x=.str i/\y=.str j/\Q (.bl (decide (i.cps.toList<j.cps.toList))) H):=op_lt.or jwb
def jr2:OpR X (compareOp .LtE) (fun x y H Q=>rI0 (fun i j=>.bl (decide (i<=j))) x y H Q\/∃ i j,x=.str i/\y=.str j/\Q (.bl (!decide (j.cps.toList<i.cps.toList))) H):=op_le.or (jwc fun x y t u h=>P.le_str h)
def jr1:OpR X (compareOp .Gt) (fun x y H Q=>rI0 (fun i j=>.bl (decide (j<i))) x y H Q\/∃ i j,x=.str i/\y=.str j/\Q (.bl (decide (j.cps.toList<i.cps.toList))) H):=op_gt.or (jwc fun x y t u h=>P.gt_str h)
def rEqD(K:W.Frag)(neg:Bool):R2:=fun u v H Q=>∃ J x y,okD x=true/\okD y=true/\depD x<=20/\Rep J K H x u/\Rep J K H y v/\Q (.bl (if neg then !eqB x y else eqB x y)) H
def jbh(hu:X.A.units+30<cLine):OpR X (compareOp .Eq) (rEqD X.K false):=by
 intro U s Z H x y v u Q I rx ry h;obtain⟨J,d,e,o1,o2,hd,r1,r2,q⟩:=h;exact (jp2 I 20 X.A d e x y v u hd (by omega) o1 o2 r1 r2 rx ry).1 _ _ _ _ ⟨.bl (eqB d e),H,I,rfl,q⟩
def jbi:OpD X.K gEq (rEqD X.K false):=by
 intro x y d hd J H G u v Q hG ru rv k;unfold gEq at hd
 split at hd
 ·rename_i h;rw[Bool.and_eq_true,Bool.and_eq_true,decide_eq_true_eq] at h;cases hd;exact⟨J,x,y,h.1.1,h.1.2,h.2,ru.mono jao,rv.mono jao,k _ H (Same.refl H) (rep_bl.mpr rfl)⟩
 ·cases hd
def jpd:OpD X.K gNe (rEqD X.K true):=by
 intro x y d hd J H G u v Q hG ru rv k;unfold gNe at hd
 split at hd
 ·rename_i h;rw[Bool.and_eq_true,Bool.and_eq_true,decide_eq_true_eq] at h;cases hd;exact⟨J,x,y,h.1.1,h.1.2,h.2,ru.mono jao,rv.mono jao,k _ H (Same.refl H) (rep_bl.mpr rfl)⟩
 ·cases hd
def jv1{J:Rho}{U:qb}{Z:St}{H:Hp}{s:Shared}(I:Inv X U Z H s)(A:Around){ds es:List D}{v u:V}{a b:Value}(hd:depD (.tup ds)<=20)(hu:A.units+24<cLine)(od:okD (.tup ds)=true)(oe:okD (.tup es)=true)
  (rd:Rep J X.K H (.tup ds) v) (re:Rep J X.K H (.tup es) u) (ra:RelV v a) (rb:RelV u b):SeqAt.RcNeAt A s a b (!eqB (.tup ds) (.tup es)):=by
 have hu':A.units<cLine:=by omega
 obtain⟨l,xs,rfl,q1,q2⟩:=rep_tup.mp rd;obtain⟨m,ys,rfl,p1,p2⟩:=rep_tup.mp re;cases ra;cases rb;obtain⟨ix,rx,px,_⟩:=I.tuple q1;obtain⟨iy,ry,py,_⟩:=I.tuple p1;unfold okD at od oe;unfold depD at hd;have lx:=rx.length;have ly:=ry.length;have mx:=q2.length;have my:=p2.length;have R:=SeqAt.RcNeAt.tuples (A:=A) (e:=fun j=>match ds[j]?,es[j]? with|some x,some y=>eqB x y|_,_=>false) (show s.heap.IsTuple l ix.toArray from px) (show s.heap.IsTuple m iy.toArray from py) hu' fun j h1 h2=>by
  have h1':j<ix.length:=by simpa using h1
  have h2':j<iy.length:=by simpa using h2
  have hj1:j<ds.length:=by omega
  have hj2:j<es.length:=by omega
  obtain⟨v1,e1,r1⟩:=q2.get (zax hj1);obtain⟨v2,e2,r2⟩:=p2.get (zax hj2);obtain⟨u1,f1,s1⟩:=rx.get e1;obtain⟨u2,f2,s2⟩:=ry.get e2;have g1:ix.toArray[j]=u1:=by rw[zax h1'] at f1;simpa using zby f1
  have g2:iy.toArray[j]=u2:=by rw[zax h2'] at f2;simpa using zby f2
  rw[g1,g2,zax hj1,zax hj2];have dd:=jgw (zax hj1);exact (jp2 I 20 A.in1 _ _ v1 v2 u1 u2 (by omega) (by show A.units+1+20+1<cLine;omega) (jeq od (zax hj1)) (jeq oe (zax hj2)) r1 r2 s1 s2).2
 unfold eqB;have fin:((List.range (min ix.toArray.size iy.toArray.size)).all (fun j=>match ds[j]?,es[j]? with|some x,some y=>eqB x y|_,_=>false)&&ix.toArray.size == iy.toArray.size)=eqBs ds es:=by
  simp only[zbx]
  by_cases hl:ds.length=es.length
  ·have e1:min ix.length iy.length=ds.length:=by omega
   have e2:(ix.length == iy.length)=true:=by simp;omega
   rw[e1,e2,Bool.and_true];exact jij hl _ fun j x y z1 z2=>by rw[z1,z2]
  ·have e2:(ix.length == iy.length)=false:=by simp;omega
   rw[e2,Bool.and_false]
   cases z:eqBs ds es with
   | false=>rfl
   | true=>exact absurd (jik z) hl
 rw[fin] at R;exact R
def jyt{J:Rho}{U:qb}{Z:St}{H:Hp}{s:Shared}(I:Inv X U Z H s)(A:Around){ds es:List D}{v u:V}{a b:Value}(hd:depD (.lst ds)<=20)(hu:A.units+24<cLine)(od:okD (.lst ds)=true)(oe:okD (.lst es)=true)
  (rd:Rep J X.K H (.lst ds) v) (re:Rep J X.K H (.lst es) u) (ra:RelV v a) (rb:RelV u b):SeqAt.RcNeAt A s a b (!eqB (.lst ds) (.lst es)):=by
 have hu':A.units<cLine:=by omega
 obtain⟨l,xs,rfl,q1,q2⟩:=rep_lst.mp rd;obtain⟨m,ys,rfl,p1,p2⟩:=rep_lst.mp re;cases ra;cases rb;obtain⟨ix,rx,px,_⟩:=I.list q1;obtain⟨iy,ry,py,_⟩:=I.list p1;unfold okD at od oe;unfold depD at hd;have lx:=rx.length;have ly:=ry.length;have mx:=q2.length;have my:=p2.length;unfold eqB
 by_cases hl:ds.length=es.length
 ·have hsz:ix.toArray.size=iy.toArray.size:=by simp only[zbx];omega
  have R:=SeqAt.RcNeAt.lists (A:=A) (e:=fun j=>match ds[j]?,es[j]? with|some x,some y=>eqB x y|_,_=>false) px.isList py.isList hsz hu' fun j h1 h2=>by
   have h1':j<ix.length:=by simpa using h1
   have h2':j<iy.length:=by simpa using h2
   have hj1:j<ds.length:=by omega
   have hj2:j<es.length:=by omega
   obtain⟨v1,e1,r1⟩:=q2.get (zax hj1);obtain⟨v2,e2,r2⟩:=p2.get (zax hj2);obtain⟨u1,f1,s1⟩:=rx.get e1;obtain⟨u2,f2,s2⟩:=ry.get e2;have g1:ix.toArray[j]=u1:=by rw[zax h1'] at f1;simpa using zby f1
   have g2:iy.toArray[j]=u2:=by rw[zax h2'] at f2;simpa using zby f2
   rw[g1,g2,zax hj1,zax hj2];have dd:=jgw (zax hj1);exact (jp2 I 20 A.in1 _ _ v1 v2 u1 u2 (by omega) (by show A.units+1+20+1<cLine;omega) (jeq od (zax hj1)) (jeq oe (zax hj2)) r1 r2 s1 s2).2
  have e1:ix.toArray.size=ds.length:=by simp only[zbx];omega
  rw[e1,jij hl _ fun j x y z1 z2=>by rw[z1,z2]] at R;exact R
 ·have R:=SeqAt.RcNeAt.lists_lengths (s:=s) (A:=A) px.isList py.isList (by simp only[zbx];simp;omega) hu'
  cases z:eqBs ds es with
  | false=>exact R
  | true=>exact absurd (jik z) hl
def jGn{J:Rho}{U:qb}{Z:St}{H:Hp}{s:Shared}(I:Inv X U Z H s)(A:Around)(d e:D)(v u:V)(a b:Value)(hd:depD d<=20)(hu:A.units+24<cLine)(od:okD d=true)(oe:okD e=true)(rd:Rep J X.K H d v)(re:Rep J X.K H e u)(ra:RelV v a)(rb:RelV u b) :
  SeqAt.RcNeAt A s a b (!eqB d e):=by
 have hu':A.units<cLine:=by omega
 have seqT:∀ {es:List D} {w:V} {c:Value},Rep J X.K H (.tup es) w->RelV w c->∃ l its,c=.ref l/\s.heap.IsTuple l its:=fun h rc=>by
  obtain⟨l,xs,rfl,q1,_⟩:=rep_tup.mp h;obtain⟨its,_,p,_⟩:=I.tuple q1;exact⟨l,_,rc,p⟩
 have seqL:∀ {es:List D} {w:V} {c:Value},Rep J X.K H (.lst es) w->RelV w c->∃ l its,c=.ref l/\s.heap.IsList l its:=fun h rc=>by
  obtain⟨l,xs,rfl,q1,_⟩:=rep_lst.mp h;obtain⟨its,_,p,_⟩:=I.list q1;exact⟨l,_,rc,p.isList⟩
 cases d with
 | ty _=>unfold okD at od;cases od
 | obj _=>unfold okD at od;cases od
 | non=>unfold okD at od;cases od
 | bl x=>unfold okD at od;cases od
 | int x =>
  cases e with
  | ty _=>unfold okD at oe;cases oe
  | obj _=>unfold okD at oe;cases oe
  | non=>unfold okD at oe;cases oe
  | bl y=>unfold okD at oe;cases oe
  | int y=>cases rep_int.mp rd;obtain⟨t1,rfl⟩:=ra;cases rep_int.mp re;obtain⟨t2,rfl⟩:=rb;unfold eqB;exact SeqAt.RcNeAt.int_int _ _ _ _
  | str y=>cases rep_int.mp rd;obtain⟨t1,rfl⟩:=ra;cases rep_str.mp re;obtain⟨t2,rfl⟩:=rb;unfold eqB;exact SeqAt.RcNeAt.int_str _ _ _ _
  | tup y=>cases rep_int.mp rd;obtain⟨t1,rfl⟩:=ra;obtain⟨l2,i2,rfl,p2⟩:=seqT re rb;unfold eqB;exact SeqAt.RcNeAt.int_tuple _ _ p2 hu'
  | lst y=>cases rep_int.mp rd;obtain⟨t1,rfl⟩:=ra;obtain⟨l2,i2,rfl,p2⟩:=seqL re rb;unfold eqB;exact SeqAt.RcNeAt.int_list _ _ p2 hu'
 | str x =>
  cases e with
  | ty _=>unfold okD at oe;cases oe
  | obj _=>unfold okD at oe;cases oe
  | non=>unfold okD at oe;cases oe
  | bl y=>unfold okD at oe;cases oe
  | int y=>cases rep_str.mp rd;obtain⟨t1,rfl⟩:=ra;cases rep_int.mp re;obtain⟨t2,rfl⟩:=rb;unfold eqB;exact SeqAt.RcNeAt.str_int _ _ _ _
  | str y=>cases rep_str.mp rd;obtain⟨t1,rfl⟩:=ra;cases rep_str.mp re;obtain⟨t2,rfl⟩:=rb;unfold eqB;exact SeqAt.RcNeAt.str_str _ _ _ _
  | tup y=>cases rep_str.mp rd;obtain⟨t1,rfl⟩:=ra;obtain⟨l2,i2,rfl,p2⟩:=seqT re rb;unfold eqB;exact SeqAt.RcNeAt.str_tuple _ _ p2 hu'
  | lst y=>cases rep_str.mp rd;obtain⟨t1,rfl⟩:=ra;obtain⟨l2,i2,rfl,p2⟩:=seqL re rb;unfold eqB;exact SeqAt.RcNeAt.str_list _ _ p2 hu'
 | tup x =>
  cases e with
  | ty _=>unfold okD at oe;cases oe
  | obj _=>unfold okD at oe;cases oe
  | non=>unfold okD at oe;cases oe
  | bl y=>unfold okD at oe;cases oe
  | int y=>obtain⟨l1,i1,rfl,p1⟩:=seqT rd ra;cases rep_int.mp re;obtain⟨t2,rfl⟩:=rb;unfold eqB;exact SeqAt.RcNeAt.tuple_int _ _ p1 hu'
  | str y=>obtain⟨l1,i1,rfl,p1⟩:=seqT rd ra;cases rep_str.mp re;obtain⟨t2,rfl⟩:=rb;unfold eqB;exact SeqAt.RcNeAt.tuple_str _ _ p1 hu'
  | tup y=>exact jv1 I A hd hu od oe rd re ra rb
  | lst y=>obtain⟨l1,i1,rfl,p1⟩:=seqT rd ra;obtain⟨l2,i2,rfl,p2⟩:=seqL re rb;unfold eqB;exact SeqAt.RcNeAt.tuple_list p1 p2 hu'
 | lst x =>
  cases e with
  | ty _=>unfold okD at oe;cases oe
  | obj _=>unfold okD at oe;cases oe
  | non=>unfold okD at oe;cases oe
  | bl y=>unfold okD at oe;cases oe
  | int y=>obtain⟨l1,i1,rfl,p1⟩:=seqL rd ra;cases rep_int.mp re;obtain⟨t2,rfl⟩:=rb;unfold eqB;exact SeqAt.RcNeAt.list_int _ _ p1 hu'
  | str y=>obtain⟨l1,i1,rfl,p1⟩:=seqL rd ra;cases rep_str.mp re;obtain⟨t2,rfl⟩:=rb;unfold eqB;exact SeqAt.RcNeAt.list_str _ _ p1 hu'
  | tup y=>obtain⟨l1,i1,rfl,p1⟩:=seqL rd ra;obtain⟨l2,i2,rfl,p2⟩:=seqT re rb;unfold eqB;exact SeqAt.RcNeAt.list_tuple p1 p2 hu'
  | lst y=>exact jyt I A hd hu od oe rd re ra rb
def jpb(hu:X.A.units+30<cLine):OpR X (compareOp .NotEq) (rEqD X.K true):=by
 intro U s Z H x y v u Q I rx ry h;obtain⟨J,d,e,o1,o2,hd,r1,r2,q⟩:=h;exact jGn I X.A d e x y v u hd (by omega) o1 o2 r1 r2 rx ry _ _ _ _ ⟨.bl (!eqB d e),H,I,rfl,q⟩
def jGt:OpD X.K gIs (fun x y H Q=>y=.non/\Q (.bl (decide (x=.non))) H):=by
 intro x y d hd J H G u v Q hG ru rv k
 cases y with
 | non =>
  cases hd;refine⟨rep_non.mp rv,?_⟩;have e:decide (u=V.non)=jrx x:=by
   cases x with
   | non=>cases rep_non.mp ru;rfl
   | bl _=>cases rep_bl.mp ru;rfl
   | int _=>cases rep_int.mp ru;rfl
   | str _=>cases rep_str.mp ru;rfl
   | ty _=>cases rep_ty.mp ru;rfl
   | obj _=>obtain⟨_,_,rfl⟩:=rep_obj.mp ru;rfl
   | tup _=>obtain⟨_,_,rfl,_⟩:=rep_tup.mp ru;rfl
   | lst _=>obtain⟨_,_,rfl,_⟩:=rep_lst.mp ru;rfl
  rw[e];exact k _ H (Same.refl H) (rep_bl.mpr rfl)
 | _=>cases hd
def jgn:UnD X.K gNeg (rU fun i=>.int (-i)):=by
 intro x d hd J H G u Q hG ru k
 cases x with
 | int i=>cases hd;exact⟨i,rep_int.mp ru,k _ H (Same.refl H) (rep_int.mpr rfl)⟩
 | _=>cases hd
def jqq{J:Rho}{K:W.Frag}{H:Hp}{ds:List D}{xs:List V}{i:Int}{d:D}(h:Reps J K H ds xs)(e:atI ds i=some d):∃ v,atI xs i=some v/\Rep J K H d v:=by
 unfold atI at e |-
 rw[h.length]
 cases z:ixN ds.length i with
 | none=>rw[z] at e;cases e
 | some j=>rw[z] at e;exact h.get e
def jar:OpD X.K gIx (rIx X.K):=by
 intro x y d hd J H G u v Q hG ru rv k;unfold gIx at hd
 split at hd
 ·obtain⟨a,xs,rfl,q1,q2⟩:=rep_lst.mp ru;obtain⟨w,e,r⟩:=jqq q2 hd;exact .inl ⟨a,xs,_,w,rfl,rep_int.mp rv,jd3 jao q1,e,k w H (Same.refl H) r⟩
 ·obtain⟨a,xs,rfl,q1,q2⟩:=rep_tup.mp ru;obtain⟨w,e,r⟩:=jqq q2 hd;exact .inr (.inl ⟨a,xs,_,w,rfl,rep_int.mp rv,jda jao q1,e,k w H (Same.refl H) r⟩)
 ·split at hd
  ·rename_i z i hz
   cases e:atI z.cps.toList i with
   | none=>rw[e] at hd;cases hd
   | some c =>
    rw[e] at hd;cases hd;exact .inr (.inr ⟨z,i,c,rep_str.mp ru,rep_int.mp rv,hz,e,k _ H (Same.refl H) (rep_str.mpr rfl)⟩)
  ·cases hd
 ·cases hd
def kLen:List D->Option D
 | [.lst ds]=>some (.int ds.length)
 | [.tup ds]=>some (.int ds.length)
 | [.str z]=>if z.length<=sizeLine then some (.int z.length) else none
 | _=>none
def jiw{J:Rho}{K:W.Frag}{H:Hp}{d:D}{vs:List V}(h:Reps J K H [d] vs):∃ v,vs=[v]/\Rep J K H d v:=by
 obtain⟨v,r,rfl,q1,q2⟩:=reps_cons.mp h;cases reps_nil.mp q2;exact⟨v,rfl,q1⟩
def jHg{J:Rho}{K:W.Frag}{H:Hp}{d e:D}{vs:List V}(h:Reps J K H [d,e] vs):∃ v u,vs=[v,u]/\Rep J K H d v/\Rep J K H e u:=by
 obtain⟨v,r,rfl,q1,q2⟩:=reps_cons.mp h;obtain⟨u,rfl,q3⟩:=jiw q2;exact⟨v,u,rfl,q1,q3⟩
def jbe:CallR X (.builtin "len") (fun xs H Q=>(∃ p ys,xs=[.ref p]/\(SqL X.K H p ys\/SqT X.K H p ys)/\Q (.int ys.length) H)\/∃ z,xs=[.str z]/\z.length<=sizeLine/\Q (.int z.length) H):=call_len_seq.or jol
def jcj:CaD X.K kLen (fun xs H Q=>(∃ p ys,xs=[.ref p]/\(SqL X.K H p ys\/SqT X.K H p ys)/\Q (.int ys.length) H)\/∃ z,xs=[.str z]/\z.length<=sizeLine/\Q (.int z.length) H):=by
 intro xs d hd J H G us Q hG ru k;unfold kLen at hd
 split at hd
 ·cases hd;obtain⟨v,rfl,q⟩:=jiw ru;obtain⟨a,ys,rfl,q1,q2⟩:=rep_lst.mp q;exact .inl ⟨a,ys,rfl,.inl (jd3 jao q1),k _ H (Same.refl H) (rep_int.mpr (by rw[q2.length]))⟩
 ·cases hd;obtain⟨v,rfl,q⟩:=jiw ru;obtain⟨a,ys,rfl,q1,q2⟩:=rep_tup.mp q;exact .inl ⟨a,ys,rfl,.inr (jda jao q1),k _ H (Same.refl H) (rep_int.mpr (by rw[q2.length]))⟩
 ·split at hd
  ·rename_i z hz;cases hd;obtain⟨v,rfl,q⟩:=jiw ru;cases rep_str.mp q;exact .inr ⟨z,rfl,hz,k _ H (Same.refl H) (rep_int.mpr rfl)⟩
  ·cases hd
 ·cases hd
def kTuple:List D->Option D
 | [.lst ds]=>some (.tup ds)
 | [.tup ds]=>some (.tup ds)
 | _=>none
def jdq:CaD X.K kTuple (fun xs H Q=>∃ p ys,xs=[.ref p]/\((SqL X.K H p ys/\∀ l,H l=none->Q (.ref l) (upd H l (.tup ys)))\/(SqT X.K H p ys/\Q (.ref p) H))):=by
 intro xs d hd J H G us Q hG ru k;unfold kTuple at hd
 split at hd
 ·cases hd;obtain⟨v,rfl,q⟩:=jiw ru;obtain⟨a,ys,rfl,q1,q2⟩:=rep_lst.mp q;exact⟨a,ys,rfl,.inl ⟨jd3 jao q1,fun l hl=>k _ _ (ja7 hl) (jdj hl (hG l hl) q2)⟩⟩
 ·cases hd;obtain⟨v,rfl,q⟩:=jiw ru;obtain⟨a,ys,rfl,q1,q2⟩:=rep_tup.mp q;exact⟨a,ys,rfl,.inr ⟨jda jao q1,k _ H (Same.refl H) q⟩⟩
 ·cases hd
def kList:List D->Option D
 | [.lst ds]=>some (.lst ds)
 | [.tup ds]=>some (.lst ds)
 | _=>none
def jq9:CaD X.K kList (fun xs H Q=>∃ p ys,xs=[.ref p]/\(SqL X.K H p ys\/SqT X.K H p ys)/\∀ l,H l=none->Q (.ref l) (upd H l (.lst ys))):=by
 intro xs d hd J H G us Q hG ru k;unfold kList at hd
 split at hd
 ·cases hd;obtain⟨v,rfl,q⟩:=jiw ru;obtain⟨a,ys,rfl,q1,q2⟩:=rep_lst.mp q;exact⟨a,ys,rfl,.inl (jd3 jao q1),fun l hl=>k _ _ (ja7 hl) (jdi hl (hG l hl) q2)⟩
 ·cases hd;obtain⟨v,rfl,q⟩:=jiw ru;obtain⟨a,ys,rfl,q1,q2⟩:=rep_tup.mp q;exact⟨a,ys,rfl,.inr (jda jao q1),fun l hl=>k _ _ (ja7 hl) (jdi hl (hG l hl) q2)⟩
 ·cases hd
def kMin:List D->Option D
 | [.int i,.int j]=>some (.int (if j<i then j else i))
 | _=>none
def kMax:List D->Option D
 | [.int i,.int j]=>some (.int (if j > i then j else i))
 | _=>none
def jB0:CaD X.K kMax (fun xs H Q=>∃ i j,xs=[.int i,.int j]/\Q (.int (if j > i then j else i)) H):=by
 intro xs d hd J H G us Q hG ru k;unfold kMax at hd
 split at hd
 ·cases hd;obtain⟨v,u,rfl,q1,q2⟩:=jHg ru;cases rep_int.mp q1;cases rep_int.mp q2;exact⟨_,_,rfl,k _ H (Same.refl H) (rep_int.mpr rfl)⟩
 ·cases hd
def kInt:List D->Option D
 | [.int i]=>some (.int i)
 | [.bl k]=>some (.int (if k then 1 else 0))
 | _=>none
def jl0:List D->Option (List Int)
 | []=>some []
 | .int i::ds=>(jl0 ds).map (i::·)
 | _::_=>none
theorem jrv:∀ {ds:List D} {ns:List Int},jl0 ds=some ns->ds=ns.map .int
 | [],_,h=>by cases h;rfl
 | .int i::ds,ns,h=>by
  unfold jl0 at h
  cases e:jl0 ds with
  | none=>rw[e] at h;cases h
  | some ms=>rw[e] at h;cases h;rw[jrv e];rfl
 | .non::_,_,h=>by cases h
 | .bl _::_,_,h=>by cases h
 | .str _::_,_,h=>by cases h
 | .ty _::_,_,h=>by cases h
 | .obj _::_,_,h=>by cases h
 | .tup _::_,_,h=>by cases h
 | .lst _::_,_,h=>by cases h
def ju9(ns:List Int):jl0 (ns.map .int)=some ns:=by
 induction ns with
 | nil=>rfl
 | cons n ns ih=>rw[List.map_cons];unfold jl0;rw[ih];rfl
def kSum:List D->Option D
 | [d]=>match seqD d with
  | some ds=>(jl0 ds).map fun ns=>.int ns.sum
  | none=>none
 | _=>none
def jwm(ns:List Int):∀ k,k<=ns.length->preSum (fun i=>ns.getD i 0) k=(ns.take k).sum:=by
 intro k
 induction k with
 | zero=>intro _;rfl
 | succ k ih =>
  intro h;show preSum _ k+ns.getD k 0=_;rw[ih (by omega),List.take_succ,List.sum_append];congr 1;rw[List.getD_eq_getElem?_getD,zax (by omega)];simp
def jt5(hc:X.calm=true):CallR X (.builtin "sum") (fun xs H Q=>∃ k p,∃ ns:List Int,xs=[.ref p]/\SqV k X.K H p (ns.map V.int)/\Q (.int ns.sum) H):=by
 intro U s Z H xs us Q I r h;obtain⟨k,p,ns,rfl,hq,q⟩:=h;obtain⟨u,rfl,rx⟩:=r.one;cases rx;obtain⟨its,rv,src,hz⟩:=I.src hq;have hl:=rv.length;rw[zav] at hl;have hh:X.A.in1.handled=none:=I.ok.hd hc;have val:∀ (i:Nat) v,its.toArray[i]? = some v->∃ t,v=.int (ns.getD i 0) t:=fun i v e=>by
  have hi:i<ns.length:=by rw[hl];have:=(Array.getElem?_eq_some_iff.mp e).1;simpa using this
  obtain⟨v',e1,r1⟩:=rv.get (i:=i) (x:=.int ns[i]) (by rw[zba,zax hi];rfl);have:v=v':=by
   have e':its[i]? = some v:=by simpa using e
   rw[e'] at e1;exact zby e1
  subst this;rw[List.getD_eq_getElem?_getD,zax hi];exact r1
 have fin:∀ {it:Addr} {s2:Shared} {h':Heap} {tk:Nat} {t':Tok},s.heap.objs.size=it->(∀ b o,s.heap.get? b=some o->s2.heap.get? b=some o)->s2={ s with heap:=s2.heap }->(∀ b o,b∉[it]->s2.heap.get? b=some o->h'.get? b=some o) ->
   EP X U Z Q (.int (preSum (fun i=>ns.getD i 0) its.toArray.size) t') { s2 with heap:=h',toks:=tk }:=fun {it s2 h' tk t'} e1 e2 e3 e4=>by
  have ep:preSum (fun i=>ns.getD i 0) its.toArray.size=ns.sum:=by
   rw[zbx,<- hl,jwm ns _ (zac _),List.take_length]
  rw[ep,e3];refine⟨.int ns.sum,H,I.kept fun b o e=>e4 b o ?_ (e2 b o e),⟨_,rfl⟩,q⟩;intro z;have:b=it:=by simpa using z
  rw[this,<- e1] at e;exact absurd (zbv e) (Nat.lt_irrefl _)
 refine call_sum_walkG ?_
 cases k with
 | true =>
  have src':s.heap.IsTuple p its.toArray:=src;have hp:p<s.heap.objs.size:=by obtain⟨o,e,_⟩:=src';exact zbv e
  refine wpAny_pyIter_tuple src' ?_;refine⟨_,_,_,_,_,_,_,rfl,Walks.tuple hh s.heap.objs.size p (zcw hp) its.toArray,⟨⟨_,zbz _ rfl,rfl,rfl⟩,src'.at fun o e=>zaz _ e⟩,fun b hb=>?_,val,fun h' tk t' kp=>fin rfl (fun b o e=>zaz _ e) rfl kp⟩;rw[Heap.size_push];simp only[List.mem_cons,List.not_mem_nil,or_false] at hb;rcases hb with rfl|rfl
  ·exact Nat.lt_succ_self _
  ·exact Nat.lt_succ_of_lt hp
 | false =>
  have src':s.heap.IsList p its.toArray:=src;have hp:p<s.heap.objs.size:=by obtain⟨o,e,_⟩:=src';exact zbv e
  refine wpAny_pyIter_list src' ?_;refine⟨_,_,_,_,_,_,_,rfl,Walks.list hh s.heap.objs.size p (zcw hp) its.toArray,⟨⟨_,zbz _ rfl,rfl,rfl⟩,src'.at fun o e=>zaz _ e⟩,fun b hb=>?_,val,fun h' tk t' kp=>fin rfl (fun b o e=>zaz _ e) rfl kp⟩;rw[Heap.size_push];simp only[List.mem_cons,List.not_mem_nil,or_false] at hb;rcases hb with rfl|rfl
  ·exact Nat.lt_succ_self _
  ·exact Nat.lt_succ_of_lt hp
def jB1:CaD X.K kSum (fun xs H Q=>∃ k p,∃ ns:List Int,xs=[.ref p]/\SqV k X.K H p (ns.map V.int)/\Q (.int ns.sum) H):=by
 intro xs d hd J H G us Q hG ru k;unfold kSum at hd
 split at hd
 ·rename_i d0
  split at hd
  ·rename_i ds es
   cases e:jl0 ds with
   | none=>rw[e] at hd;cases hd
   | some ns =>
    rw[e] at hd;cases hd;obtain⟨v,rfl,q⟩:=jiw ru;obtain⟨kk,l,ys,rfl,q1,q2⟩:=jps es q;rw[jrv e] at q2;rw[reps_ints.mp q2] at q1;exact⟨kk,l,ns,rfl,jpl jao q1,k _ H (Same.refl H) (rep_int.mpr rfl)⟩
  ·cases hd
 ·cases hd
def isiD(T:String):D->Option Bool
 | .int _=>some (T == "int")
 | .tup _=>some (T == "tuple")
 | _=>none
def kIsi:List D->Option D
 | [d,.ty T]=>if T="int"\/T="bool"\/T="tuple" then (isiD T d).map .bl else none
 | _=>none
end
section
variable {X:Cx}
def rIsi(K:W.Frag):List V->Hp->VK->Prop:=fun xs H Q=>∃ J d v T b,xs=[v,.ty T]/\Rep J K H d v/\kIsi [d,.ty T]=some (.bl b)/\Q (.bl b) H
def jid:CallR X (.builtin "isinstance") (rIsi X.K):=by
 intro U s Z H xs us Q I r h;obtain⟨J,d,v,T,b,rfl,rd,hk,q⟩:=h;obtain⟨u,c,rfl,ru,rc⟩:=r.two;cases rc;have fin:∀ tk,EP X U Z Q (.bool b) { s with toks:=tk }:=fun tk=>⟨.bl b,H,I.tok _,rfl,q⟩
 have hk2:(if T="int"\/T="bool"\/T="tuple" then (isiD T d).map D.bl else none)=some (.bl b):=hk
 clear hk
 by_cases hT:T="int"\/T="bool"\/T="tuple"
 ·rw[if_pos hT] at hk2;have hk:=hk2
  clear hk2
  cases d with
  | ty _=>cases hk
  | obj _=>cases hk
  | non=>cases hk
  | bl x=>cases hk
  | int x =>
   cases rep_int.mp rd;obtain⟨t,rfl⟩:=ru
   rcases hT with rfl|rfl|rfl<;>(cases hk;exact W.kia_one W.kitx_int I.kIn True.intro rfl (fun z=>nomatch z) fin)
  | str x=>cases hk
  | tup x =>
   obtain⟨a,ys,rfl,q1,q2⟩:=rep_tup.mp rd;cases ru;obtain⟨its,_,⟨o,e,hc,_⟩,_⟩:=I.tuple q1;rcases hT with rfl|rfl|rfl<;>(cases hk;exact W.kia_one W.kitx_tuple I.kIn ⟨o,e,hc⟩ rfl (fun z=>nomatch z) fin)
  | lst x=>cases hk
 ·rw[if_neg hT] at hk2;cases hk2
def jm1:CaD X.K kIsi (rIsi X.K):=by
 intro xs d hd J H G us Q hG ru k;have hd0:=hd;unfold kIsi at hd
 split at hd
 ·rename_i d0 T
  split at hd
  ·obtain⟨v,u,rfl,q1,q2⟩:=jHg ru;cases rep_ty.mp q2
   cases e:isiD T d0 with
   | none=>rw[e] at hd;cases hd
   | some b =>
    rw[e] at hd;cases hd;exact⟨J,d0,v,T,b,rfl,q1.mono jao,hd0,k _ H (Same.refl H) (rep_bl.mpr rfl)⟩
  ·cases hd
 ·cases hd
def jm4{O:List Nat}{E:XK}{x:Str}{T:String}{pos:Pos}(hg:Gl X x)(hm:X.mg x=none)(hv:bootBuiltins x=some (.type T))(hn:x≠"__name__":=by decide)(hd:(x == ("__debug__":Str))=false:=by decide):DE X O E (.Name x pos) (fC (.ty T)) :=
 jkl (t:=tC (.ty T)) (v:=.ty T) (jwf (v:=.ty T) hg hm hv rfl hn hd) fun _ _=>rep_ty.mpr rfl
def jig{O:List Nat}{E:XK}{x:Str}{i:Int}{t:Tok}{pos:Pos}(hg:Gl X x)(hm:X.mg x=some (.int i t))(hd:(x == ("__debug__":Str))=false:=by decide):DE X O E (.Name x pos) (fC (.int i)) :=
 jkl (t:=tC (.int i)) (v:=.int i) (jnz (v:=.int i) hg hm ⟨t,rfl⟩ hd) fun _ _=>rep_int.mpr rfl
end
inductive spD(K:W.Frag)(n:Nat)(m:List D->M D)(vs:List V)(H:Hp)(Q:VK)(E:XK):Prop
 | mk (hn:vs.length=n) (J:Rho) (ds:List D) (r:Except XD D) (F:qd) (hF:∀ b,F b=true->H b≠none) (hr:Reps J K (hid H F) ds vs) (hf:m ds=some r) (k:match (generalizing:=false) r with
  | .ok d=>∀ v H',Same H H'->Rep J K (hid H' F) d v->Q v H'
  | .error x=>okX K H E x)
inductive CalX(P:Program)(w:World)(K:W.Frag)(mg:qa)(base:Heap)(k:Nat)(x:Str)(n:Nat)(sp:Sp):Prop
 | mk (f:Addr) (fd:FuncData) (ps:List Str) (h1:ps.length=n) (h2:mg x=some (.ref f)) (h3:W.keepIn K (.ref f)=true) (h4:Binds K fd ps []) (h5:FnOk P w K mg base CX0 k f fd ps sp)
structure Cal(P:Program)(w:World)(K:W.Frag)(mg:qa)(base:Heap)(k:Nat)(x:Str)(n:Nat)(m:List D->M D):Prop where
 ex:CalX P w K mg base k x n (spD K n m)
 ar:∀ ds r,m ds=some r->ds.length=n
def jcd(K:W.Frag)(mg:qa)(x:Str)(st:Stmt)(ps:List Str):Prop:=∃ f fd,mg x=some (.ref f)/\Fun K x x st f fd/\Binds K fd ps []
def startD(n:Nat)(ds:List D):DSt:=ds.map some++List.replicate (n-ds.length) none
def outD:Out->M D
 | .rt d=>M.p d
 | .nx _=>M.p .non
 | _=>none
def mir(n N:Nat)(g:DSt->M Out):List D->M D:=fun ds=>if ds.length=n then (g (startD N ds)).b outD else none
def jjk{N:Nat}{ds:List D}{i:Nat}{d:D}(h:(startD N ds)[i]? = some (some d)):ds[i]? = some d:=by
 unfold startD at h
 by_cases hi:i<ds.length
 ·rw[List.getElem?_append_left (by simpa using hi),zba] at h
  cases e:ds[i]? with
  | none=>rw[e] at h;cases h
  | some a=>rw[e] at h;cases h;rfl
 ·rw[List.getElem?_append_right (by simpa using hi),List.getElem?_replicate] at h
  split at h<;>cases h
def jlj{N:List Str}{vs:List V}{i:Nat}{v:V}(h:vs[i]? = some v):(L2.start N vs)[i]? = some (some v):=by
 unfold L2.start;have hi:i<vs.length:=(zbb.mp h).1;rw[List.getElem?_append_left (by simpa using hi),zba,h];rfl
section
variable {P:Program}{w:World}{K:W.Frag}{mg:qa}{base:Heap}
def fn_D{x:Str}{st:Stmt}{N ps:List Str}{k:Nat}{O':List Nat}{g:DSt->M Out}{f:Addr}{fd:FuncData}(F:Fun K x x st f fd)(S:FnScope N ps (jaf st))
  (hbody:∀ (f:Addr) (cdv:Value) (A:Around) (outer:List Env) (s:Shared) (H:Hp) (E:XK),Room k (A.deeper (PyProof.Rows.envOfC x (jaf st) s.heap.objs.size f cdv)) ->
   DSs (cxOf CX0 P w K mg base N x (jaf st) f cdv A outer s H E).nox [] O' [] E (ja1 st) g):FnOk P w K mg base CX0 (k+1) f fd ps (spD K ps.length (mir ps.length N.length g)):=by
 refine F.ok S (fun vs H Q E h=>h.1) fun cdv A outer s H vs Q E hr h=>?_
 obtain⟨hl,J,ds,r,F',fin,rp,hmr,k0⟩:=h;refine⟨_,hbody f cdv A outer s H E hr,?_⟩;have hpl:ps.length<=N.length:=by have:=congrArg List.length S.pre;rw[List.length_take] at this;omega
 have hdl:ds.length=ps.length:=by rw[<- rp.length];exact hl
 unfold mir at hmr;rw[if_pos hdl] at hmr;have R:RS J K H H F' [] (L2.start N vs) (startD N.length ds):=by
  refine⟨?_,Same.refl H,fin,fun i d hd _=>?_,fun i hi=>absurd hi (by simp),fun i hi=>absurd hi (by simp)⟩
  ·simp[L2.start,startD,rp.length]
  ·obtain⟨v,e,rv⟩:=rp.get (jjk hd);exact⟨v,jlj e,by rw[jc2];exact rv⟩
 rcases M.b_inv hmr with ⟨o,e1,hmr⟩|⟨y,e1,rfl⟩
 ·refine⟨J,H,F',_,.ok o,R,e1,?_⟩
  cases o with
  | rt d=>cases hmr;exact fun v H' s' rv=>k0 v H' s' rv
  | nx Y=>cases hmr;exact fun Z' H' f' R'=>k0 .non H' R'.same (rep_non.mpr rfl)
  | bk Y=>cases hmr
  | ct Y=>cases hmr
 ·exact⟨J,H,F',_,.error y,R,e1,k0⟩
def jb4{x:Str}{st:Stmt}{N ps:List Str}{k:Nat}{O':List Nat}{g:DSt->M Out}(hf:jcd K mg x st ps)(S:FnScope N ps (jaf st))
  (hbody:∀ (f:Addr) (cdv:Value) (A:Around) (outer:List Env) (s:Shared) (H:Hp) (E:XK),Room k (A.deeper (PyProof.Rows.envOfC x (jaf st) s.heap.objs.size f cdv)) ->
   DSs (cxOf CX0 P w K mg base N x (jaf st) f cdv A outer s H E).nox [] O' [] E (ja1 st) g):Cal P w K mg base (k+1) x ps.length (mir ps.length N.length g):=by
 obtain⟨f,fd,hm,F,hb⟩:=hf;refine⟨⟨f,fd,ps,rfl,hm,F.kp,hb,fn_D F S hbody⟩,fun ds r h=>?_⟩;unfold mir at h
 split at h
 ·assumption
 ·cases h
def jkb{h:Heap}{x:Str}{st:Stmt}{ps:List Str}{f:Addr}{oc:Value}{od an:Option Addr}{osl:qe}{kV doc pm cdv ct:Value}(X:K.In h)(G:h.Ns mainGlobals mg)
  (hb:∀ (kV doc pm:Value) (an:Option Addr) (cdv ct:Value) (us:List Value),us.length=ps.length->bindArgs (W.fnOf x x (jbw st) (ja1 st) (jaf st) .none kV doc pm an cdv ct) ⟨us,[]⟩=pure (ps.zip us))
  (a:W.nsIn K mainGlobals x=some (some (.ref f))) (l:K.lookup f=some ⟨oc,od,.func (W.fnOf x x (jbw st) (ja1 st) (jaf st) .none kV doc pm an cdv ct),osl⟩)
  (c:W.codeIn K cdv x=true) (k:W.keepIn K (.ref f)=true):jcd K mg x st ps:=by
 have F:=jrr (st:=st) l c k;exact⟨f,_,W.mg_of X G a,F,F.binds hb⟩
def ju0{st:Stmt}{x:Str}{f:Addr}(hf:jcd K mg "law" st [x])(hm:mg "law"=some (.ref f))
  (hb:∀ (kV doc pm:Value) (an:Option Addr) (cdv ct:Value) (s:Shared) (u:Value),BindsTo s (W.fnOf "law" "law" (jbw st) (ja1 st) (jaf st) .none kV doc pm an cdv ct) ⟨[u],[]⟩ [(x,u)]) :
  ∃ fd,Fun K "law" "law" st f fd/\∀ (s:Shared) (u:Value),BindsTo s fd ⟨[u],[]⟩ [(x,u)]:=by
 obtain⟨f',fd,hm',F,_⟩:=hf;rw[hm] at hm';cases hm';refine⟨fd,F,fun s u=>?_⟩;obtain⟨oc,od,kV,doc,pm,an,cdv,ct,osl,rfl,lk,hcd⟩:=F.ex;exact hb kV doc pm an cdv ct s u
end
def jay(m:List D->M D)(fl:DSt->M (List D)):DSt->M D:=fun Y=>(fl Y).b m
section
variable {X:Cx}{O:List Nat}{E:XK}{e:Expr}{es:List Expr}{fl:DSt->M (List D)}{pos p:Pos}{x:Str}{k n:Nat}{m:List D->M D}
def jan(C:Cal X.prog X.w X.K X.mg X.base k x n m)(hr:Room k X.A)(ha:DA X O E (e::es) fl)(hg:Gl X x:=by rfl)(hdb:(x == ("__debug__":Str))=false:=by decide)(he:zsE e es X.env:=by rfl)
  (hpl:zbT pos es X.env:=by rfl):DE X O E (.Call (.Name x p) (e::es) [] pos) (jay m fl):=by
 obtain⟨f,fd,ps,hl,hm,hk,hb,F⟩:=C.ex;rintro U s Z H Q I ⟨J,Hz,G,Y,r,R,hf,h⟩;refine jnx F hr hg hm hk hb .nil (fun _ _ _ _ _ _ _ z=>z.elim) ha hdb he hpl U s Z H Q I (E:=E) ?_;rcases M.b_inv hf with ⟨ds,e1,hf⟩|⟨y,e1,rfl⟩
 ·refine⟨J,Hz,G,Y,.ok ds,R,e1,fun vs H1 s1 r1=>?_⟩;show spD X.K n m (vs++[]) H1 Q E;rw[List.append_nil];refine⟨by rw[r1.length];exact C.ar ds r hf,J,ds,r,fob G Z O,fun b hb z=>?_,r1,hf,?_⟩
  ·rw[(R.mono s1).fresh z] at hb;cases hb
  ·cases r with
   | ok d=>exact fun v H' s' rv=>h v H' (s1.trans s') rv
   | error y=>exact fun c dx H' s' xr=>h c dx H' (R.same.trans (s1.trans s')) xr
 ·exact⟨J,Hz,G,Y,.error y,R,e1,h⟩
end
def hu30{A:Around}{k:Nat}(hr:Room k A):A.units+30<cLine:=Nat.lt_of_le_of_lt (Nat.add_le_add_left (by decide:30<=64) _) hr.units
def jdn:bootBuiltins "len"=some (.builtin "len"):=by decide +kernel
def jE8:bootBuiltins "sum"=some (.builtin "sum"):=by decide +kernel
def jE6:bootBuiltins "max"=some (.builtin "max"):=by decide +kernel
def jc8:bootBuiltins "isinstance"=some (.builtin "isinstance"):=by decide +kernel
def jdo:bootBuiltins "tuple"=some (.type "tuple"):=by decide +kernel
def jtz:bootBuiltins "list"=some (.type "list"):=by decide +kernel
def jq7:bootBuiltins "int"=some (.type "int"):=by decide +kernel
def jt0:bootBuiltins "str"=some (.type "str"):=by decide +kernel
def jBx:bootBuiltins "bool"=some (.type "bool"):=by decide +kernel
def jE5:bootBuiltins "all"=some (.builtin "all"):=by decide +kernel
def gCat:D->D->Option D
 | .int i,.int j=>some (.int (i+j))
 | .str x,.str y=>if x.length+y.length<=sizeLine then some (.str (x++y)) else none
 | .lst xs,.lst ys=>if xs.length+ys.length<=sizeLine then some (.lst (xs++ys)) else none
 | .tup xs,.tup ys=>if xs.length+ys.length<=sizeLine/\xs≠[]/\ys≠[] then some (.tup (xs++ys)) else none
 | _,_=>none
def jD3(K:W.Frag):R2:=fun x y H Q=>∃ l b xs zs,x=.ref l/\y=.ref b/\SqL K H l xs/\SqL K H b zs/\xs.length+zs.length<=sizeLine/\∀ p,H p=none->Q (.ref p) (upd H p (.lst (xs++zs)))
section
variable {X:Cx}{O O':List Nat}{E:XK}{b e:Expr}{es:List Expr}{fa fb:DSt->M D}{fl:DSt->M (List D)}{pos:Pos}
def op_catQ:OpR X (binaryOp .Add) (jD3 X.K):=by
 intro U s Z H x y v u Q I rx ry h;obtain⟨l,b,xs,zs,rfl,rfl,hH,hB,hz,q⟩:=h;cases rx;cases ry;obtain⟨its,r,⟨⟨cls,dd,data,sl⟩,n,ho,hc,_,hd⟩,_⟩:=I.list hH;obtain⟨its2,r2,⟨⟨cls2,dd2,data2,sl2⟩,n2,ho2,hc2,_,hd2⟩,_⟩:=I.list hB;simp only at hc hd hc2 hd2;subst hc hd hc2 hd2;have l1:=r.length;have l2:=r2.length;have ea:its.toArray++its2.toArray=(its++its2).toArray:=by simp
 refine concat_meets ⟨_,ho,rfl⟩ ⟨_,ho2,rfl⟩ noFill_list_add seq_list_add PySem.F.slot_list_add PySem.F.entry_list_add (PySem.F.args_list_add_2 _ _) (PyProof.Rows.list_addW l b its.toArray its2.toArray n n2 dd dd2 sl sl2 (by simp only[zbx];omega)) ⟨ho,ho2,?_⟩;rw[ea];exact⟨.ref _,_,I.lnew (t':=s.toks) (r.append r2) (by rw[zcc];omega),rfl,q _ I.fresh⟩
def jaj:OpR X (binaryOp .Add) (fun x y H Q=>(rI0 (fun i j=>.int (i+j)) x y H Q\/∃ i j,x=.str i/\y=.str j/\i.length+j.length<=sizeLine/\Q (.str (i++j)) H)\/jD3 X.K x y H Q\/jwr X.K x y H Q):=op_addD.or (op_catQ.or jv9)
def jak:OpD X.K gCat (fun x y H Q=>(rI0 (fun i j=>.int (i+j)) x y H Q\/∃ i j,x=.str i/\y=.str j/\i.length+j.length<=sizeLine/\Q (.str (i++j)) H)\/jD3 X.K x y H Q\/jwr X.K x y H Q):=by
 intro x y d hd J H G u v Q hG ru rv k;unfold gCat at hd
 split at hd
 ·cases hd;exact .inl (.inl ⟨_,_,rep_int.mp ru,rep_int.mp rv,k _ H (Same.refl H) (rep_int.mpr rfl)⟩)
 ·split at hd
  ·rename_i hz;cases hd;exact .inl (.inr ⟨_,_,rep_str.mp ru,rep_str.mp rv,hz,k _ H (Same.refl H) (rep_str.mpr rfl)⟩)
  ·cases hd
 ·split at hd
  ·rename_i hz;cases hd;obtain⟨l,xs,rfl,q1,q2⟩:=rep_lst.mp ru;obtain⟨m,ys,rfl,p1,p2⟩:=rep_lst.mp rv;exact .inr (.inl ⟨l,m,xs,ys,rfl,rfl,jd3 jao q1,jd3 jao p1,by rw[q2.length,p2.length];exact hz,fun p hp=>k _ _ (ja7 hp) (jdi hp (hG p hp) (q2.append p2))⟩)
  ·cases hd
 ·split at hd
  ·rename_i hz;cases hd;obtain⟨l,xs,rfl,q1,q2⟩:=rep_tup.mp ru;obtain⟨m,ys,rfl,p1,p2⟩:=rep_tup.mp rv;have n1:xs≠[]:=fun z=>by have:=q2.length;rw[z] at this;exact hz.2.1 (List.length_eq_zero_iff.mp this.symm)
   have n2:ys≠[]:=fun z=>by have:=p2.length;rw[z] at this;exact hz.2.2 (List.length_eq_zero_iff.mp this.symm)
   exact .inr (.inr ⟨l,m,xs,ys,rfl,rfl,jda jao q1,jda jao p1,n1,by rw[q2.length,p2.length];exact hz.1,fun z=>absurd z n2,fun _ p hp=>k _ _ (ja7 hp) (jdj hp (hG p hp) (q2.append p2))⟩)
  ·cases hd
 ·cases hd
def fRep(fl:DSt->M (List D))(fb:DSt->M D):DSt->M D:=fun Y=>(fl Y).b fun xs=>if xs.length<=sizeLine then (fb Y).b fun y=>match y with
  | .int k=>if -(2 ^ 63)<=k/\k<2 ^ 63/\xs.length*k.toNat<=sizeLine then M.p (.lst (List.replicate k.toNat xs).flatten) else none
  | _=>none
 else none
theorem Reps.rep{J:Rho}{K:W.Frag}{H:Hp}{ds:List D}{vs:List V}(h:Reps J K H ds vs):∀ k:Nat,Reps J K H (List.replicate k ds).flatten (List.replicate k vs).flatten
 | 0=>Reps.nil
 | k+1=>by rw[List.replicate_succ,List.flatten_cons,List.replicate_succ,List.flatten_cons];exact h.append (Reps.rep h k)
def juj{p2:Pos}(hl:DA X O E es fl)(hb:DE X O E b fb):DE X O E (.BinOp (.List es p2) .Mult b pos) (fRep fl fb):=by
 rintro U s Z H Q I ⟨J,Hz,F,Y,rr,R,hf,k⟩;refine jG3 jGs (jr3 hl) hb U s Z H Q I ?_;rcases M.b_inv hf with ⟨xs,e1,hf⟩|⟨x,e1,rfl⟩
 ·refine⟨J,Hz,F,Y,.ok xs,R,e1,fun us H1 s1 r1=>?_⟩
  split at hf
  ·rename_i hz0;refine⟨by rw[r1.length];exact hz0,fun p hp=>?_⟩;have s2:Same H1 (upd H1 p (.lst us)):=ja7 hp;rcases M.b_inv hf with ⟨y,e2,hf⟩|⟨y,e2,rfl⟩
   ·cases y with
    | int n =>
     dsimp only at hf
     split at hf
     ·rename_i hz;cases hf;refine⟨J,Hz,F,Y,.ok (.int n),R.mono (s1.trans s2),e2,fun w H2 s3 r2=>?_⟩;cases rep_int.mp r2;refine⟨p,n,us,rfl,rfl,s3 _ _ jam,hz.1,hz.2.1,by rw[r1.length];exact hz.2.2,fun q hq=>?_⟩;have R2:=R.mono (s1.trans (s2.trans s3));exact k _ _ (s1.trans (s2.trans (s3.trans (ja7 hq)))) (jdi hq (R2.fresh hq) ((r1.mono (jas (s2.trans s3))).rep n.toNat))
     ·cases hf
    | _=>cases hf
   ·exact⟨J,Hz,F,Y,.error y,R.mono (s1.trans s2),e2,k⟩
  ·cases hf
 ·exact⟨J,Hz,F,Y,.error x,R,e1,k⟩
inductive tOD(K:W.Frag)(O:List Nat)(E:XK)(f:DSt->M (Option Int))(Z:St)(H:Hp)(Q:Option Int->Hp->Prop):Prop
 | mk (J:Rho) (Hz:Hp) (F:qd) (Y:DSt) (r:Except XD (Option Int)) (R:RS J K Hz H F O Z Y) (hf:f Y=some r) (k:match (generalizing:=false) r with
  | .ok o=>∀ H',Same H H'->Q o H'
  | .error x=>okX K Hz E x)
def DO(X:Cx)(O:List Nat)(E:XK)(e:Option Expr)(f:DSt->M (Option Int)):Prop:=PO X e (tOD X.K O E f)
def jv5:DSt->M (Option Int):=fun _=>M.p none
def intD:D->Option (Option Int)
 | .int i=>some (some i)
 | _=>none
def jcv(f:DSt->M D):DSt->M (Option Int):=fun Y=>(f Y).b fun d=>M.o (intD d)
def jun:DO X O E none jv5:=by
 rintro U s Z H Q I ⟨J,Hz,F,Y,r,R,hf,k⟩;cases hf;exact jDq U s Z H Q I (k H (Same.refl H))
def jeh(h:DE X O E e fa):DO X O E (some e) (jcv fa):=by
 rintro U s Z H Q I ⟨J,Hz,F,Y,r,R,hf,k⟩;refine jDr h U s Z H Q I ?_;rcases M.b_inv hf with ⟨x,e1,hf⟩|⟨x,e1,rfl⟩
 ·refine⟨J,Hz,F,Y,.ok x,R,e1,fun v H1 s1 r1=>?_⟩;obtain⟨o,ho,rfl⟩:=M.o_inv hf
  cases x with
  | int i=>cases ho;exact⟨i,rep_int.mp r1,k H1 s1⟩
  | _=>cases ho
 ·exact⟨J,Hz,F,Y,.error x,R,e1,k⟩
def cutL{α:Type}(xs:List α)(lo hi:Option Int):List α:=(xs.drop (HT.sIx xs.length 0 lo)).take (HT.sIx xs.length xs.length hi-HT.sIx xs.length 0 lo)
def cutD:D->Option Int->Option Int->Option D
 | .lst ds,lo,hi=>some (.lst (cutL ds lo hi))
 | .tup ds,lo,hi=>if HT.sIx ds.length 0 lo=0/\HT.sIx ds.length ds.length hi=ds.length then none else some (.tup (cutL ds lo hi))
 | .str x,lo,hi=>if x.length<=sizeLine then some (.str (Txt.slice x lo hi)) else none
 | _,_,_=>none
def rSlS:V->Option Int->Option Int->Hp->VK->Prop:=fun x lo hi H Q=>∃ z,x=.str z/\z.length<=sizeLine/\Q (.str (Txt.slice z lo hi)) H
def jHr:SlR X rSlS:=by
 intro U s Z H x v vl vu lo hi sl Q I rx hs pl pu h;obtain⟨z,rfl,hz,q⟩:=h;obtain⟨t,rfl⟩:=rx;have fin:∀ {l u:Option (Int×Tok)},l.map (·.1)=lo->u.map (·.1)=hi->s.heap.IsSlice sl l u none->wpAny (model X.prog X.w) X.A (getItem (.str z t) (.ref sl)) (EP X U Z Q) X.xe s:=fun {l u} e1 e2 h=>by
  refine wpAny_getItem_str_slice (l:=l) (u:=u) (st:=none) h rfl ?_;have hw:∀ t' k,EP X U Z Q (.str (Txt.slice z lo hi) t') { s with toks:=k }:=fun t' k=>⟨.str (Txt.slice z lo hi),H,I.tok _,⟨_,rfl⟩,q⟩
  rw[<- e1,<- e2] at hw;exact post_val_or_str ⟨zdy (Txt.slice_le z _ _) hz,hw⟩
 obtain⟨os,ho,hc,hd⟩:=hs;refine⟨"str",_,PySem.F.slot_str_getitem.lookup,typeIs_str _ _ _,?_⟩
 cases pl with
 | none=>cases pu with
  | none=>exact fin (l:=none) (u:=none) rfl rfl ⟨os,ho,hc,hd⟩
  | int j tj=>exact fin (l:=none) (u:=some (j,tj)) rfl rfl ⟨os,ho,hc,hd⟩
 | int i ti=>cases pu with
  | none=>exact fin (l:=some (i,ti)) (u:=none) rfl rfl ⟨os,ho,hc,hd⟩
  | int j tj=>exact fin (l:=some (i,ti)) (u:=some (j,tj)) rfl rfl ⟨os,ho,hc,hd⟩
theorem Reps.take{J:Rho}{K:W.Frag}{H:Hp}:∀ {ds:List D} {vs:List V} (n:Nat),Reps J K H ds vs->Reps J K H (ds.take n) (vs.take n)
 | _,_,0,_=>by simp;exact Reps.nil
 | [],_,n+1,h=>by rw[reps_nil.mp h];exact Reps.nil
 | d::ds,_,n+1,h=>by
  obtain⟨v,r,rfl,q,t⟩:=reps_cons.mp h;exact Reps.cons q (Reps.take n t)
theorem Reps.drop{J:Rho}{K:W.Frag}{H:Hp}:∀ {ds:List D} {vs:List V} (n:Nat),Reps J K H ds vs->Reps J K H (ds.drop n) (vs.drop n)
 | _,_,0,h=>h
 | [],_,n+1,h=>by rw[reps_nil.mp h];exact Reps.nil
 | d::ds,_,n+1,h=>by
  obtain⟨v,r,rfl,q,t⟩:=reps_cons.mp h;exact Reps.drop n t
def Reps.cut{J:Rho}{K:W.Frag}{H:Hp}{ds:List D}{vs:List V}(h:Reps J K H ds vs)(lo hi:Option Int):Reps J K H (cutL ds lo hi) (cutV vs lo hi):=by
 unfold cutL cutV;rw[h.length];exact (h.drop _).take _
def fSl(fa:DSt->M D)(fl fh:DSt->M (Option Int)):DSt->M D:=fun Y=>(fa Y).b fun x=>(fl Y).b fun lo=>(fh Y).b fun hi=>M.o (cutD x lo hi)
def jf0{lo hi:Option Expr}{fl fh:DSt->M (Option Int)}{p2:Pos}(ha:DE X O E e fa)(hl:DO X O E lo fl)(hh:DO X O E hi fh):DE X O E (.Subscript e (.Slice lo hi none p2) pos) (fSl fa fl fh):=by
 rintro U s Z H Q I ⟨J,Hz,F,Y,r,R,hf,k⟩;refine jy4 (sl_list.or (sl_tup.or jHr)) ha hl hh U s Z H Q I ?_;rcases M.b_inv hf with ⟨x,e1,hf⟩|⟨x,e1,rfl⟩
 ·refine⟨J,Hz,F,Y,.ok x,R,e1,fun v H1 s1 r1=>?_⟩;rcases M.b_inv hf with ⟨l,e2,hf⟩|⟨y,e2,rfl⟩
  ·refine⟨J,Hz,F,Y,.ok l,R.mono s1,e2,fun H2 s2=>?_⟩;rcases M.b_inv hf with ⟨h,e3,hf⟩|⟨y,e3,rfl⟩
   ·refine⟨J,Hz,F,Y,.ok h,R.mono (s1.trans s2),e3,fun H3 s3=>?_⟩;obtain⟨d,hd,rfl⟩:=M.o_inv hf;have r3:=r1.mono (jas (s2.trans s3));have R3:=R.mono (s1.trans (s2.trans s3));have sm:=s1.trans (s2.trans s3)
    cases x with
    | lst ds =>
     cases hd;obtain⟨q,xs,rfl,q2,q3⟩:=rep_lst.mp r3;exact .inl ⟨q,xs,rfl,jd3 jao q2,fun p hp=>k _ _ (sm.trans (ja7 hp)) (jdi hp (R3.fresh hp) (q3.cut l h))⟩
    | tup ds =>
     have hd':(if HT.sIx ds.length 0 l=0/\HT.sIx ds.length ds.length h=ds.length then none else some (D.tup (cutL ds l h)))=some d:=hd
     split at hd'
     ·cases hd'
     ·rename_i hn;cases hd';obtain⟨q,xs,rfl,q2,q3⟩:=rep_tup.mp r3;exact .inr (.inl ⟨q,xs,rfl,jda jao q2,by rw[q3.length];exact hn,fun p hp=>k _ _ (sm.trans (ja7 hp)) (jdj hp (R3.fresh hp) (q3.cut l h))⟩)
    | str z =>
     have hd':(if z.length<=sizeLine then some (D.str (Txt.slice z l h)) else none)=some d:=hd
     split at hd'
     ·rename_i hz;cases hd';exact .inr (.inr ⟨z,rep_str.mp r3,hz,k _ _ sm (rep_str.mpr rfl)⟩)
     ·cases hd'
    | _=>cases hd
   ·exact⟨J,Hz,F,Y,.error y,R.mono (s1.trans s2),e3,k⟩
  ·exact⟨J,Hz,F,Y,.error y,R.mono s1,e2,k⟩
 ·exact⟨J,Hz,F,Y,.error x,R,e1,k⟩
def ji7:D->Bool
 | .non=>true
 | .bl _=>true
 | .int _=>true
 | .str _=>true
 | _=>false
def inD(x:D)(ds:List D):Bool:=ds.any fun y=>eqB y x
def gIn:D->D->Option D:=fun x y=>match seqD y with
 | some ds=>if (ji7 x&&ds.all ji7)=true then some (.bl (inD x ds)) else none
 | none=>none
def jey:D->D->Option D:=fun x y=>match seqD y with
 | some ds=>if (ji7 x&&ds.all ji7)=true then some (.bl !(inD x ds)) else none
 | none=>none
def jm8{J:Rho}{K:W.Frag}{H:Hp}{d:D}{v:V}(h:ji7 d=true)(r:Rep J K H d v):jlz v=true:=by
 cases d with
 | non=>cases rep_non.mp r;rfl
 | bl _=>cases rep_bl.mp r;rfl
 | int _=>cases rep_int.mp r;rfl
 | str _=>cases rep_str.mp r;rfl
 | _=>cases h
def jCo{J:Rho}{K:W.Frag}{H:Hp}{d e:D}{v u:V}(h:ji7 d=true)(h2:ji7 e=true)(r:Rep J K H d v)(r2:Rep J K H e u):eqV v u=eqB d e:=by
 cases d with
 | non=>cases rep_non.mp r;(cases e with
  | non=>cases rep_non.mp r2;unfold eqB;rfl
  | bl _=>cases rep_bl.mp r2;unfold eqB;rfl
  | int _=>cases rep_int.mp r2;unfold eqB;rfl
  | str _=>cases rep_str.mp r2;unfold eqB;rfl
  | _=>cases h2)
 | bl _=>cases rep_bl.mp r;(cases e with
  | non=>cases rep_non.mp r2;unfold eqB;rfl
  | bl _=>cases rep_bl.mp r2;unfold eqB;rfl
  | int _=>cases rep_int.mp r2;unfold eqB;rfl
  | str _=>cases rep_str.mp r2;unfold eqB;rfl
  | _=>cases h2)
 | int _=>cases rep_int.mp r;(cases e with
  | non=>cases rep_non.mp r2;unfold eqB;rfl
  | bl _=>cases rep_bl.mp r2;unfold eqB;rfl
  | int _=>cases rep_int.mp r2;unfold eqB;rfl
  | str _=>cases rep_str.mp r2;unfold eqB;rfl
  | _=>cases h2)
 | str _=>cases rep_str.mp r;(cases e with
  | non=>cases rep_non.mp r2;unfold eqB;rfl
  | bl _=>cases rep_bl.mp r2;unfold eqB;rfl
  | int _=>cases rep_int.mp r2;unfold eqB;rfl
  | str _=>cases rep_str.mp r2;unfold eqB;rfl
  | _=>cases h2)
 | _=>cases h
theorem ju5{J:Rho}{K:W.Frag}{H:Hp}{x:D}{v:V}(hx:ji7 x=true)(rx:Rep J K H x v):∀ {ds:List D} {vs:List V},ds.all ji7=true->Reps J K H ds vs->vs.all jlz=true/\inV v vs=inD x ds
 | [],_,_,h=>by rw[reps_nil.mp h];exact⟨rfl,rfl⟩
 | d::ds,_,ha,h=>by
  obtain⟨u,r,rfl,q,t⟩:=reps_cons.mp h;rw[List.all_cons,Bool.and_eq_true] at ha;obtain⟨i1,i2⟩:=ju5 hx rx ha.2 t;refine⟨by rw[List.all_cons,jm8 ha.1 q,i1];rfl,?_⟩;unfold inV inD at i2 |-
  rw[List.any_cons,List.any_cons,jCo ha.1 hx q rx,i2]
def jwd:OpD X.K gIn (rIn X.K false):=by
 intro x y d hd J H G u v Q hG ru rv k;unfold gIn at hd
 split at hd
 ·rename_i ds hs
  split at hd
  ·rename_i hz;cases hd;rw[Bool.and_eq_true] at hz;obtain⟨kk,l,xs,rfl,q1,q2⟩:=jps hs rv;obtain⟨i1,i2⟩:=ju5 hz.1 ru hz.2 q2;refine⟨l,xs,rfl,?_,jm8 hz.1 ru,i1,k _ H (Same.refl H) (rep_bl.mpr (by rw[i2];rfl))⟩
   cases kk with
   | true=>exact .inr (jda jao (sqv_t.mp q1))
   | false=>exact .inl (jd3 jao (sqv_l.mp q1))
  ·cases hd
 ·cases hd
def jiu:OpD X.K jey (rIn X.K true):=by
 intro x y d hd J H G u v Q hG ru rv k;unfold jey at hd
 split at hd
 ·rename_i ds hs
  split at hd
  ·rename_i hz;cases hd;rw[Bool.and_eq_true] at hz;obtain⟨kk,l,xs,rfl,q1,q2⟩:=jps hs rv;obtain⟨i1,i2⟩:=ju5 hz.1 ru hz.2 q2;refine⟨l,xs,rfl,?_,jm8 hz.1 ru,i1,k _ H (Same.refl H) (rep_bl.mpr (by rw[i2];rfl))⟩
   cases kk with
   | true=>exact .inr (jda jao (sqv_t.mp q1))
   | false=>exact .inl (jd3 jao (sqv_l.mp q1))
  ·cases hd
 ·cases hd
def scalD:D->Bool
 | .non=>true
 | .bl _=>true
 | .int _=>true
 | .str _=>true
 | .ty _=>true
 | .obj _=>true
 | _=>false
def jCe{t:DSt->M Bool}(hO:∀ i∈O',i∈O)(h:DT X O' E e t):DT X O E e t:=by
 rintro U s Z H Q I ⟨J,Hz,F,Y,r,R,hf,k⟩;refine h U s Z H Q I ⟨J,Hz,F,Y,r,R.thaw hO,hf,?_⟩
 cases r with
 | ok d=>exact k
 | error x=>exact k
def gAug(i:Nat)(g:D->D->Option D)(f:DSt->M D):DSt->M Out:=fun Y=>(M.o (Y[i]?).join).b fun x=>(f Y).b fun y=>(M.o (g x y)).b fun d=>M.p (.nx (Y.set i (some d)))
end
section
variable {X:Cx}{O B:List Nat}{E:XK}{a b e o:Expr}{fa fo fe:DSt->M D}{pos:Pos}
def juo{i:Nat}{x:Str}{pos':Pos}{op:Operator}{g:D->D->Option D}{r:R2}(hN:X.N.Nodup)(hop:OpR X (inplaceOp op) r)(hg:OpD X.K g r)(he:DE X O E e fa)(ho:O.contains i=false:=by rfl)(hi:X.N[i]? = some x:=by rfl)(hx:Loc X.env.scope x:=by first|exact Or.inl rfl|exact Or.inr rfl)
  (hf:X.fn x=true\/X.env.scope.names.lookup x=some .local:=by first|exact .inl rfl|exact .inr rfl|assumption):DS X O O B E (.AugAssign (.Name x pos') op e pos) (gAug i g fa):=by
 rintro U s Z H Dn I ⟨J,Hz,F,Y,rr,R,hgg,k⟩;have ho':i∉O:=fun z=>by rw[zbc.mpr z] at ho;cases ho
 refine jG8 (ti:=r) hN hi hx he (fun U s Z H x y v u Q I rx ry q=>hop U s Z H x y v u Q I rx ry q) hf U s Z H Dn I ?_;rcases M.b_inv hgg with ⟨x0,e0,hgg⟩|⟨y,e0,rfl⟩
 ·obtain⟨x1,hx1,ee⟩:=M.o_inv e0;cases ee;obtain⟨v,q1,q2⟩:=R.val i x0 (join_some hx1) ho';refine⟨v,q1,?_⟩;rcases M.b_inv hgg with ⟨y,e1,hgg⟩|⟨y,e1,rfl⟩
  ·refine⟨J,Hz,F,Y,.ok y,R,e1,fun u H1 s1 r1=>?_⟩;rcases M.b_inv hgg with ⟨d,e2,hgg⟩|⟨z,e2,rfl⟩
   ·cases hgg;obtain⟨d1,hd1,ee⟩:=M.o_inv e2;cases ee;have R1:=R.mono s1;exact hg x0 y d hd1 J H1 _ v u _ (fun p hp=>R1.fresh hp) (q2.mono (jas s1)) r1 fun w H2 s2 r2=>k _ H2 (jsc ho' (s1.trans s2)) ((R.mono (s1.trans s2)).set ho' r2)
   ·obtain⟨_,_,ee⟩:=M.o_inv e2;cases ee
  ·exact⟨J,Hz,F,Y,.error y,R,e1,k⟩
 ·obtain⟨_,_,ee⟩:=M.o_inv e0;cases ee
def gAsg(h:D->DSt->Option DSt)(f:DSt->M D):DSt->M Out:=fun Y=>(f Y).b fun d=>match h d Y with
 | some Y'=>M.p (.nx Y')
 | none=>none
def jrm{tg:Expr}{h:D->DSt->Option DSt}(he:DE X O E e fa)(hg:DG X O tg h)(hs:swapsWithSole [tg] e pos.line X.env=pure false:=by rfl)(hw:swappedStores [tg] e X.env=pure none:=by rfl)
  (h1:(assignEach [tg] X.env).map (·.2)=[assign tg X.env]:=by rfl):DS X O O B E (.Assign [tg] e pos) (gAsg h fa):=by
 rintro U s Z H Dn I ⟨J,Hz,F,Y,r,R,hgg,k⟩;refine jG7 he hg hs hw h1 U s Z H Dn I ?_;rcases M.b_inv hgg with ⟨d,e1,hgg⟩|⟨y,e1,rfl⟩
 ·refine⟨J,Hz,F,Y,.ok d,R,e1,fun v H1 s1 r1=>?_⟩
  cases e2:h d Y with
  | none=>rw[e2] at hgg;cases hgg
  | some Y' =>
   rw[e2] at hgg;cases hgg;exact⟨J,Hz,F,Y,d,Y',R.mono s1,r1,e2,fun Z' ef R'=>k Z' H1 (by rw[ef];exact jas s1) R'⟩
 ·exact⟨J,Hz,F,Y,.error y,R,e1,k⟩
def jst(i j l:Nat):D->DSt->Option DSt:=fun d Y=>match d with
 | .tup [x,y,z]=>some (((Y.set i (some x)).set j (some y)).set l (some z))
 | _=>none
def jul{i j l:Nat}{x y z:Str}{px py pz:Pos}{kk:Nat}(hc:X.calm=true)(hN:X.N.Nodup)(ho:O.contains i=false:=by rfl)(ho2:O.contains j=false:=by rfl)(ho3:O.contains l=false:=by rfl)(hi:X.N[i]? = some x:=by rfl)(hj:X.N[j]? = some y:=by rfl)(hl:X.N[l]? = some z:=by rfl)
  (hx:Loc X.env.scope x:=by first|exact Or.inl rfl|exact Or.inr rfl) (hy:Loc X.env.scope y:=by first|exact Or.inl rfl|exact Or.inr rfl) (hz:Loc X.env.scope z:=by first|exact Or.inl rfl|exact Or.inr rfl)
  (hf:X.fn x=true\/X.env.scope.names.lookup x=some .local:=by first|exact .inl rfl|exact .inr rfl|assumption) (hf2:X.fn y=true\/X.env.scope.names.lookup y=some .local:=by first|exact .inl rfl|exact .inr rfl|assumption) (hf3:X.fn z=true\/X.env.scope.names.lookup z=some .local:=by first|exact .inl rfl|exact .inr rfl|assumption) :
  DG X O (.Tuple [.Name x px,.Name y py,.Name z pz] kk pos) (jst i j l):=by
 rintro U s Z H v u Q I r ⟨J,Hz,F,Y,d,Y',R,rd,e,k⟩;have ho':i∉O:=fun z=>by rw[zbc.mpr z] at ho;cases ho
 have ho2':j∉O:=fun z=>by rw[zbc.mpr z] at ho2;cases ho2
 have ho3':l∉O:=fun z=>by rw[zbc.mpr z] at ho3;cases ho3
 unfold jst at e
 split at e
 ·rename_i d1 d2 d3;cases e;obtain⟨p,xs,rfl,q2,q3⟩:=rep_tup.mp rd;obtain⟨v1,xs1,rfl,r1,q3⟩:=reps_cons.mp q3;obtain⟨v2,xs2,rfl,r2,q3⟩:=reps_cons.mp q3;obtain⟨v3,xs3,rfl,r3,q3⟩:=reps_cons.mp q3;cases reps_nil.mp q3;refine jA0 hc (jiv (jjf hN hi hx hf) (jiv (jjf hN hj hy hf2) (jiv (jjf hN hl hz hf3) jwi))) rfl rfl U s Z H _ u Q I r ?_;refine⟨p,_,rfl,jda jao q2,rfl,v1,_,rfl,v2,_,rfl,v3,_,rfl,rfl,?_⟩;have e2:fob F (((Z.set i (some v1)).set j (some v2)).set l (some v3)) O=fob F Z O:=(jb8 ho3').trans ((jb8 ho2').trans (jb8 ho'));refine k _ e2 ?_;have R1:=R.set ho' r1;have R2:=R1.set ho2' (by rw[jb8 ho'];exact r2);exact R2.set ho3' (by rw[jb8 ho2',jb8 ho'];exact r3)
 ·cases e
def SmR(X:Cx)(name:Str)(r:Str->V->Hp->VK->Prop):Prop:=∀ (U:qb) (s:Shared) (Z:St) (x:Str) (t:Tok) (pos:Pos) (a:Sem Value) (Q:VK),
 wpAny (model X.prog X.w) X.A a (fun v s₁=>∃ y H1,Inv X U Z H1 s₁/\RelV y v/\r x y H1 Q) X.xe s->MethodOnS X.prog X.w X.A X.xe name (.str x t) pos [(false,a)] (EP X U Z Q) s
def SmD(K:W.Frag)(g:Str->D->Option D)(r:Str->V->Hp->VK->Prop):Prop:=∀ x y d,g x y=some d->∀ (J:Rho) (H:Hp) (G:qd) v (Q:VK),(∀ p,H p=none->G p=false)->Rep J K (hid H G) y v->(∀ w H',Same H H'->Rep J K (hid H' G) d w->Q w H')->r x v H Q
def fSm(g:Str->D->Option D)(fo fe:DSt->M D):DSt->M D:=fun Y=>(fo Y).b fun x=>match x with
 | .str z=>(fe Y).b fun y=>M.o (g z y)
 | _=>none
def jIy{name:Str}{g:Str->D->Option D}{r:Str->V->Hp->VK->Prop}{apos:Pos}(hr:SmR X name r)(hg:SmD X.K g r)(ho:DE X O E o fo)(he:DE X O E e fe)(hbase:attributeBase o name X.env (eval o X.env)=eval o X.env:=by rfl)(hs:starEach [e] X.env=[(false,eval e X.env)]:=by rfl)(hline:(apos.endLine == pos.line)=true:=by rfl) :
  DE X O E (.Call (.Attribute o name apos) [e] [] pos) (fSm g fo fe):=by
 rintro U s Z H Q I ⟨J,Hz,F,Y,rr,R,hf,k⟩;refine Call_method1 hbase hs hline (thn (ho U s Z H (fun v H1=>∃ z,v=.str z/\tD X.K O E fe Z H1 fun y H2=>r z y H2 Q) I ?_) fun u s1 ⟨v,H1,I1,rv,z,hz,q⟩=>?_)
 ·rcases M.b_inv hf with ⟨x,e1,hf⟩|⟨x,e1,rfl⟩
  ·refine⟨J,Hz,F,Y,.ok x,R,e1,fun u H1 s1 r1=>?_⟩
   cases x with
   | str z =>
    refine⟨z,rep_str.mp r1,?_⟩;rcases M.b_inv hf with ⟨y,e2,hf⟩|⟨y,e2,rfl⟩
    ·refine⟨J,Hz,F,Y,.ok y,R.mono s1,e2,fun v H2 s2 r2=>?_⟩;obtain⟨d,hd,rfl⟩:=M.o_inv hf;exact hg z y d hd J H2 _ v Q (fun p hp=>(R.mono (s1.trans s2)).fresh hp) r2 fun w H3 s3 r3=>k w H3 (s1.trans (s2.trans s3)) r3
    ·exact⟨J,Hz,F,Y,.error y,R.mono s1,e2,k⟩
   | _=>cases hf
  ·exact⟨J,Hz,F,Y,.error x,R,e1,k⟩
 ·subst hz;obtain⟨t,rfl⟩:=rv;exact hr U s1 Z z t pos _ Q (thn (he U s1 Z H1 _ I1 q) fun u s2 ⟨y,H2,I2,ry,q2⟩=>⟨y,H2,I2,ry,q2⟩)
def jnb(x:Str):D->Option D
 | .str y=>some (.bl (Txt.startswith x y))
 | _=>none
def jxa:SmR X "startswith" (fun x y H Q=>∃ z,y=.str z/\Q (.bl (Txt.startswith x z)) H):=fun U s Z x t pos a Q h=>SB.startswith (thn h fun v s1 ⟨y,H1,I1,ry,z,hz,q⟩=>by
 subst hz;obtain⟨u,rfl⟩:=ry;exact⟨z,u,rfl,.bl _,H1,I1,rfl,q⟩)
def jth:SmD X.K jnb (fun x y H Q=>∃ z,y=.str z/\Q (.bl (Txt.startswith x z)) H):=by
 intro x y d hd J H G v Q hG rv k
 cases y with
 | str z=>cases hd;exact⟨z,rep_str.mp rv,k _ H (Same.refl H) (rep_bl.mpr rfl)⟩
 | _=>cases hd
def kStr:List D->Option D
 | [.int i]=>if i.natAbs.log2<1920 then some (.str (toString i)) else none
 | _=>none
def jp1:CaD X.K kStr (fun xs H Q=>∃ i,xs=[.int i]/\i.natAbs.log2<1920/\Q (.str (toString i)) H):=by
 intro xs d hd J H G us Q hG ru k;unfold kStr at hd
 split at hd
 ·split at hd
  ·rename_i i hz;cases hd;obtain⟨v,rfl,q1⟩:=jiw ru;cases rep_int.mp q1;exact⟨_,rfl,hz,k _ H (Same.refl H) (rep_str.mpr rfl)⟩
  ·cases hd
 ·cases hd
def kIntT:List D->Option D
 | [.int i]=>some (.int i)
 | [.bl k]=>some (.int (if k then 1 else 0))
 | [.str x]=>if x.length<=640 then (PySem.intText? x).map .int else none
 | _=>none
def jki:CallR X (.type "int") (fun xs H Q=>((∃ i,xs=[.int i]/\Q (.int i) H)\/∃ k,xs=[.bl k]/\Q (.int (if k then 1 else 0)) H)\/∃ x n,xs=[.str x]/\x.length<=640/\PySem.intText? x=some n/\Q (.int n) H) :=
 call_int1.or (by
  intro U s Z H xs us Q I r h;obtain⟨x,n,rfl,hl,hn,q⟩:=h;obtain⟨u,rfl,t,rfl⟩:=r.one;exact W.KIN.call_text hn hl ⟨.int n,H,I.tok _,⟨_,rfl⟩,q⟩)
def jm0:CaD X.K kIntT (fun xs H Q=>((∃ i,xs=[.int i]/\Q (.int i) H)\/∃ k,xs=[.bl k]/\Q (.int (if k then 1 else 0)) H)\/∃ x n,xs=[.str x]/\x.length<=640/\PySem.intText? x=some n/\Q (.int n) H):=by
 intro xs d hd J H G us Q hG ru k;unfold kIntT at hd
 split at hd
 ·cases hd;obtain⟨v,rfl,q1⟩:=jiw ru;cases rep_int.mp q1;exact .inl (.inl ⟨_,rfl,k _ H (Same.refl H) (rep_int.mpr rfl)⟩)
 ·cases hd;obtain⟨v,rfl,q1⟩:=jiw ru;cases rep_bl.mp q1;exact .inl (.inr ⟨_,rfl,k _ H (Same.refl H) (rep_int.mpr rfl)⟩)
 ·split at hd
  ·rename_i x hz;obtain⟨v,rfl,q1⟩:=jiw ru;cases rep_str.mp q1
   cases e:PySem.intText? x with
   | none=>rw[e] at hd;cases hd
   | some n =>
    rw[e] at hd;cases hd;exact .inr ⟨x,n,rfl,hz,e,k _ H (Same.refl H) (rep_int.mpr rfl)⟩
  ·cases hd
 ·cases hd
def jfz{x:Str}{z:Str}{t:Tok}(hg:Gl X x)(hm:X.mg x=some (.str z t))(hd:(x == ("__debug__":Str))=false:=by decide):DE X O E (.Name x pos) (fC (.str z)) :=
 jkl (t:=tC (.str z)) (v:=.str z) (jnz (v:=.str z) hg hm ⟨t,rfl⟩ hd) fun _ _=>rep_str.mpr rfl
end
end DL
namespace L2
open PyProof.Rows
def jEc(lo hi st:Int)(h:0<st):0<=Builtin.Range.rangeSize lo hi st:=by
 unfold Builtin.Range.rangeSize;rw[if_pos h]
 split
 ·have:=Int.ediv_nonneg (a:=hi-lo-1) (b:=st) (by omega) (by omega);omega
 ·omega
section
variable {X:Cx}{tg:Expr}
def jzh{U:qb}{Z:St}{H:Hp}{s:Shared}{R:It->Hp->Prop}{E:qc}{lo hi st:Int}{t u v:Tok}{tk:Nat}(I:Inv X U Z H s)(hst:0<st)
  (q:R (Itv (fun i=>.int (lo+(i:Nat)*st)) (Builtin.Range.rangeSize lo hi st).toNat) H):wpAny (model X.prog X.w) X.A (pyIter (.ref s.heap.objs.size)) (PIE X U Z tg R) E { s with heap:=s.heap.push { cls:=.type "range",data:=.fields #[.int lo t,.int hi u,.int st v] },toks:=tk }:=by
 have I1:Inv X U Z H { s with heap:=s.heap.push { cls:=.type "range",data:=.fields #[.int lo t,.int hi u,.int st v] },toks:=tk }:=I.kept fun b o e=>zaz _ e
 have hn:0<=Builtin.Range.rangeSize lo hi st:=jEc lo hi st hst;generalize hN:(Builtin.Range.rangeSize lo hi st).toNat=N at q;have hN':Builtin.Range.rangeSize lo hi st=(N:Int):=by omega
 have fpk:∀ b∈[(s.heap.push { cls:=.type "range",data:=.fields #[.int lo t,.int hi u,.int st v] }).objs.size],FpOk X U H b:=fun b hb=>by
  have e:b=(s.heap.push { cls:=.type "range",data:=.fields #[.int lo t,.int hi u,.int st v] }).objs.size:=by simpa using hb
  subst e;exact I1.fpOk (zac _) (I1.hok.fresh (zac _))
 have e1:lo+((0:Nat):Int)*st=lo:=by simp
 have e2:Builtin.Range.rangeSize lo hi st-((0:Nat):Int)=Builtin.Range.rangeSize lo hi st:=by simp
 by_cases hsm:Builtin.Range.small lo hi st=true
 ·refine wpAny_pyIter_range (IsRange.new ..) hsm ?_;refine⟨_,[_],_,_,H,rfl,I1.kept (t':=tk) fun b o e=>zaz _ e,ji1 _ _ N _ (fun A hA=>Walks.range hA _ lo st N) (fun i h e=>⟨_,_,_,e,rfl,rfl,rfl⟩) (fun A i s Q E e h=>wpAny_pyIter_rangeiter e h),?_,fpk,q⟩;show IsRangeIter _ _ (lo+((0:Nat):Int)*st) ((N:Int)-((0:Nat):Int)) st;rw[<- hN',e1,e2];exact zbz _ rfl
 ·refine wpAny_pyIter_longrange (IsRange.new ..) (by simpa using hsm) ?_;refine⟨_,[_],_,_,H,rfl,I1.kept (t':=tk) fun b o e=>zaz _ e,ji1 _ _ N _ (fun A hA=>Walks.longrange hA _ lo st N) (fun i h e=>⟨_,_,_,e,rfl,rfl,rfl⟩) (fun A i s Q E e h=>wpAny_pyIter_longiter e h),?_,fpk,q⟩;show IsLongIter _ _ (lo+((0:Nat):Int)*st) ((N:Int)-((0:Nat):Int)) st;rw[<- hN',e1,e2];exact zbz _ rfl
def iRg3(ta:TA):TI:=fun Z H R=>ta Z H fun vs H1=>∃ i j k:Int,vs=[.int i,.int j,.int k]/\0<k/\k<2 ^ 60/\R (Itv (fun n=>.int (i+(n:Nat)*k)) (Builtin.Range.rangeSize i j k).toNat) H1
def jwj{a:Expr}{es:List Expr}{ta:TA}{p pos:Pos}(hg:Gl X "range")(hm:X.mg "range"=none)(ha:PA X (a::es) ta)(hs:starEach (a::es) X.env=(false,eval a X.env)::starEach es X.env:=by rfl)(hp:zbT pos es X.env:=by rfl) :
  PI X tg (.Call (.Name "range" p) (a::es) [] pos) (iRg3 ta):=by
 intro U s Z H R I h;refine Call_ (jmg I hg hm boot_range (PyProof.Rows.callWith_type1 (thn (ha pos U s Z H _ I h) fun us s1 hzz=>?_) hs hp));obtain⟨vs,H1,I1,r1,q1⟩:=hzz;obtain⟨i,j,k,e,hk,hk2,q⟩:=q1;subst e
 cases r1 with
 | cons p1 r1 =>
  cases r1 with
  | cons p2 r1 =>
   cases r1 with
   | cons p3 r1 =>
    cases r1;obtain⟨t1,rfl⟩:=p1;obtain⟨t2,rfl⟩:=p2;obtain⟨t3,rfl⟩:=p3;refine call_range_3 (by omega) (jzh I1 hk q) (.inl (PyProof.noPylong_of_log2 ?_));have hn:k.natAbs≠0:=by omega
    have:k.natAbs<2 ^ 60:=by omega
    exact Nat.lt_trans ((Nat.log2_lt (k:=60) hn).mpr this) (by decide)
end
end L2
namespace DL
open L2
section
variable {X:Cx}{O:List Nat}{E:XK}{a b tg e o:Expr}{es:List Expr}{fl:DSt->M (List D)}{pos p:Pos}
def jcs(lo:Int)(st:Int)(n:Nat):List D:=(List.range n).map fun i=>.int (lo+(i:Nat)*st)
def jfs:List D->Option (List D)
 | [.int i,.int j,.int k]=>if 0<k/\k<2 ^ 60 then some (jcs i k (Builtin.Range.rangeSize i j k).toNat) else none
 | _=>none
def jum(hg:Gl X "range")(hm:X.mg "range"=none)(ha:DA X O E (a::es) fl)(hs:starEach (a::es) X.env=(false,eval a X.env)::starEach es X.env:=by rfl)(hp:zbT pos es X.env:=by rfl) :
  DI X O E tg (.Call (.Name "range" p) (a::es) [] pos) (jf6 jfs fl):=by
 rintro U s Z H R I ⟨J,Hz,F,Y,r,RS0,hf,k⟩;refine jwj hg hm ha hs hp U s Z H R I ?_;rcases M.b_inv hf with ⟨d,e1,hf⟩|⟨y,e1,rfl⟩
 ·refine⟨J,Hz,F,Y,.ok d,RS0,e1,fun vs H1 s1 r1=>?_⟩;obtain⟨ds,hd,rfl⟩:=M.o_inv hf;unfold jfs at hd
  split at hd
  ·rename_i i0 j kk
   split at hd
   ·rename_i hk;cases hd;obtain⟨v,r',rfl,q1,q2⟩:=reps_cons.mp r1;obtain⟨v2,r2,rfl,q3,q4⟩:=reps_cons.mp q2;obtain⟨v3,r3,rfl,q5,q6⟩:=reps_cons.mp q4;cases reps_nil.mp q6;cases rep_int.mp q1;cases rep_int.mp q3;cases rep_int.mp q5;refine⟨i0,j,kk,rfl,hk.1,hk.2,k _ H1 s1 ?_⟩;refine jvg (by unfold jcs;simp) fun i d hd H=>?_
    unfold jcs at hd;rw[zba] at hd
    cases q:(List.range (Builtin.Range.rangeSize i0 j kk).toNat)[i]? with
    | none=>rw[q] at hd;cases hd
    | some m =>
     rw[q] at hd;have:m=i:=by
      have:=(zbb.mp q).2;simpa using this.symm
     subst this;cases hd;exact rep_int.mpr rfl
   ·cases hd
  ·cases hd
 ·exact⟨J,Hz,F,Y,.error y,RS0,e1,k⟩
def blsD:List D->Option (List Bool)
 | []=>some []
 | .bl b::ds=>(blsD ds).map (b::·)
 | _::_=>none
theorem jtx:∀ {ds:List D} {ns:List Bool},blsD ds=some ns->ds=ns.map .bl
 | [],_,h=>by cases h;rfl
 | .bl i::ds,ns,h=>by
  unfold blsD at h
  cases e:blsD ds with
  | none=>rw[e] at h;cases h
  | some ms=>rw[e] at h;cases h;rw[jtx e];rfl
 | .non::_,_,h=>by cases h
 | .int _::_,_,h=>by cases h
 | .str _::_,_,h=>by cases h
 | .ty _::_,_,h=>by cases h
 | .obj _::_,_,h=>by cases h
 | .tup _::_,_,h=>by cases h
 | .lst _::_,_,h=>by cases h
theorem reps_bls{J:Rho}{K:W.Frag}{H:Hp}:∀ {ns:List Bool} {vs:List V},Reps J K H (ns.map .bl) vs↔vs=ns.map V.bl
 | [],vs=>reps_nil
 | n::ns,vs=>by
  rw[List.map_cons,reps_cons];constructor
  ·rintro⟨v,r,rfl,h1,h2⟩;rw[rep_bl.mp h1,reps_bls.mp h2];rfl
  ·rintro rfl;exact⟨_,_,rfl,rep_bl.mpr rfl,reps_bls.mpr rfl⟩
def kAll:List D->Option D
 | [.lst ds]=>(blsD ds).map fun ns=>.bl (ns.all id)
 | _=>none
def jtt(ns:List Bool):(List.range ns.length).all (fun i=>ns.getD i true)=ns.all id:=by
 induction ns with
 | nil=>rfl
 | cons n ns ih =>
  rw[List.length_cons,List.range_succ_eq_map,List.all_cons,List.all_map,List.all_cons];congr 1
def jt2(hc:X.calm=true):CallR X (.builtin "all") (fun xs H Q=>∃ p,∃ ns:List Bool,xs=[.ref p]/\SqL X.K H p (ns.map V.bl)/\Q (.bl (ns.all id)) H):=by
 intro U s Z H xs us Q I r h;obtain⟨p,ns,rfl,hq,q⟩:=h;obtain⟨u,rfl,rx⟩:=r.one;cases rx;obtain⟨its,rv,src,hz⟩:=I.list hq;have hl:=rv.length;rw[zav] at hl;have hh:X.A.in1.handled=none:=I.ok.hd hc;have src':s.heap.IsList p its.toArray:=src.isList;have hp:p<s.heap.objs.size:=by obtain⟨o,e,_⟩:=src';exact zbv e
 refine call_all_walk ?_;refine wpAny_pyIter_list src' ?_;refine⟨_,_,_,_,_,_,(fun i=>ns.getD i true),rfl,Walks.list hh s.heap.objs.size p (zcw hp) its.toArray,⟨⟨_,zbz _ rfl,rfl,rfl⟩,src'.at fun o e=>zaz _ e⟩,fun i v s' Q' E' hP hQ=>?_,fun h' tk kp=>?_⟩
 ·have e:its.toArray[i]? = some v:=hP;have hi:i<ns.length:=by rw[hl];have:=(Array.getElem?_eq_some_iff.mp e).1;simpa using this
  obtain⟨v',e1,r1⟩:=rv.get (i:=i) (x:=.bl ns[i]) (by rw[zba,zax hi];rfl);have:v=v':=by
   have e':its[i]? = some v:=by simpa using e
   rw[e'] at e1;exact zby e1
  subst this;have r1':v=.bool ns[i]:=r1;subst r1';refine wpAny_truthy_bool ?_;dsimp only at hQ;rw[List.getD_eq_getElem?_getD,zax hi] at hQ;exact hQ
 ·refine⟨.bl (ns.all id),H,I.kept fun b o e=>kp b o ?_ (zaz _ e),?_,q⟩
  ·intro z;have:b=s.heap.objs.size:=by simpa using z
   rw[this] at e;exact absurd (zbv e) (Nat.lt_irrefl _)
  ·have:its.toArray.size=ns.length:=by rw[zbx];omega
   rw[this,jtt];rfl
def jBz:CaD X.K kAll (fun xs H Q=>∃ p,∃ ns:List Bool,xs=[.ref p]/\SqL X.K H p (ns.map V.bl)/\Q (.bl (ns.all id)) H):=by
 intro xs d hd J H G us Q hG ru k;unfold kAll at hd
 split at hd
 ·rename_i ds
  cases e:blsD ds with
  | none=>rw[e] at hd;cases hd
  | some ns =>
   rw[e] at hd;cases hd;obtain⟨v,rfl,q⟩:=jiw ru;obtain⟨l,ys,rfl,q1,q2⟩:=rep_lst.mp q;rw[jtx e] at q2;rw[reps_bls.mp q2] at q1;exact⟨l,ns,rfl,jd3 jao q1,k _ H (Same.refl H) (rep_bl.mpr rfl)⟩
 ·cases hd
end
end DL
namespace L2
open PyProof.Rows
def jjz:fillsNumberSlot (.type "tuple") "mul"=pure false :=
 PySem.fillsNumberSlot_seq (id:="tuple.__mul__") (r:=some (.builtin "tuple.__rmul__")) PySem.F.slot_tuple_mul.lookup (by decide +kernel) PySem.F.slot_tuple_rmul.lookup (by decide +kernel)
def jpk:seqRepeat? (.type "tuple")=pure (some (.builtin "tuple.__mul__")):=by
 unfold seqRepeat?;rw[PySem.seqSlot_of (T:="tuple") (name:="__mul__") (id:="tuple.__mul__") PySem.F.slot_tuple_mul.lookup (by decide +kernel),PySem.seqSlot_of (T:="tuple") (name:="__rmul__") (id:="tuple.__rmul__") PySem.F.slot_tuple_rmul.lookup (by decide +kernel)];rfl
def jl6(a:Int)(t:Tok)(l:Addr)(items:Array Value)(n:Nat)(dd:Option Addr)(sl:qe) :
  Meets (Builtin.«int.__rmul__» ⟨[.int a t,.ref l],[]⟩) (fun _ R s=>s.heap.get? l=some { cls:=.type "tuple",dict:=dd,data:=.seq items n,slots:=sl }/\R (.ok (.ret Value.notImplemented)) s) :=
 .of_wp fun prog w A R s h=>by obtain⟨hp,g,d,tk,os⟩:=s;obtain⟨hl,h⟩:=h;wp_walk;exact⟨_,rfl,h⟩
def jtk(l:Addr)(items:Array Value)(n:Nat)(u:Tok)(dd:Option Addr)(sl:qe)(hne:items.isEmpty=false) :
  Meets (Builtin.«tuple.__mul__» ⟨[.ref l,.int 1 u],[]⟩) (fun _ R s=>s.heap.get? l=some { cls:=.type "tuple",dict:=dd,data:=.seq items n,slots:=sl }/\R (.ok (.ret (.ref l))) s) :=
 .of_wp fun prog w A R s h=>by
  obtain⟨hp,g,d,tk,os⟩:=s;obtain⟨hl,h⟩:=h
  have f1:=AutoSeq1.idx_int
  wp_walk
  exact⟨_,rfl,h⟩
def jtl(l:Addr)(items:Array Value)(n:Nat)(k:Int)(u:Tok)(dd:Option Addr)(sl:qe)(hne:items.isEmpty=false)(h2:2<=k)(h3:k<=1000)(hsz:items.size*k.toNat<=100000) :
  Meets (Builtin.«tuple.__mul__» ⟨[.ref l,.int k u],[]⟩) (fun _ R s=>s.heap.get? l=some { cls:=.type "tuple",dict:=dd,data:=.seq items n,slots:=sl }/\R (.ok (.ret (.ref s.heap.objs.size))) { s with heap:=s.heap.push { cls:=.type "tuple",data:=.seq (List.foldl (fun x1 x2=>x1++x2) #[] (List.replicate k.toNat items)) } }) :=
 .of_wp fun prog w A R s h=>by
  obtain⟨hp,g,d,tk,os⟩:=s;obtain⟨hl,h⟩:=h
  have f1:=AutoSeq1.idx_int;have c1:(decide (k < -(2 ^ 63)) || decide (k >= 2 ^ 63))=false:=by simp;omega
  have c2:(items.isEmpty || k == 1)=false:=by rw[hne];simp;omega
  have c3:(decide (k<=0) || items.isEmpty)=false:=by rw[hne];simp;omega
  obtain⟨m,rfl⟩:=Int.eq_ofNat_of_zero_le (show 0<=k by omega);have hs:(items.size:Int)*(m:Int)=((items.size*m:Nat):Int):=by push_cast;rfl
  have hsz':items.size*m<=100000:=by simpa using hsz
  have c4:¬ ((items.size:Int)*(m:Int) > (2 ^ 63-1) / 8):=by rw[hs];omega
  have c5:Builtin.Tuple.tupleTooMany ((items.size:Int)*(m:Int))=false:=by
   rw[hs];unfold Builtin.Tuple.tupleTooMany;simp[sizeLine];omega
  wp_walk
  refine wpAny_ite_false (decide_eq_false (by rw[c1];decide)) ?_
  wp_walk
  refine wpAny_ite_false (decide_eq_false (by rw[c2];decide)) ?_
  wp_walk
  refine wpAny_ite_false (decide_eq_false (by rw[c3];decide)) ?_
  try dsimp only
  refine wpAny_ite_false (decide_eq_false c4) ?_
  try dsimp only
  refine wpAny_ite_false (decide_eq_false (by rw[c5];decide)) ?_
  try dsimp only
  refine zay ?_;unfold Builtin.Tuple.tupleExact;refine wpAny_newObj_type ?_ ?_
  ·exact zab ⟨_,rfl,h⟩
  ·show (List.foldl (fun x1 x2=>x1++x2) #[] (List.replicate ((m:Nat):Int).toNat items)).size<=sizeLine;rw[AutoListH.size_joined];have:100000<=sizeLine:=by decide
   rw[Nat.mul_comm] at hsz';simp;omega
end L2
namespace DL
open L2
def jHe(K:W.Frag):R2:=fun x y H Q=>∃ l k xs,x=.ref l/\y=.int k/\SqT K H l xs/\xs≠[]/\1<=k/\k<=1000/\xs.length*k.toNat<=100000/\(k=1->Q (.ref l) H)/\(k≠1->∀ p,H p=none->Q (.ref p) (upd H p (.tup (List.replicate k.toNat xs).flatten)))
section
variable {X:Cx}{b e:Expr}
def jDh:OpR X (binaryOp .Mult) (jHe X.K):=by
 intro U s Z H x y v u Q I rx ry h;obtain⟨l,k,xs,rfl,rfl,hH,hne,h1,h2,hz,q1,q2⟩:=h;cases rx;obtain⟨t,rfl⟩:=ry;obtain⟨its,r,⟨⟨cls,dd,data,sl⟩,e,hc,n,hd⟩,_⟩:=I.tuple hH;simp only at hc hd;subst hc hd;have l1:=r.length;have hne':its.toArray.isEmpty=false:=by
  cases its with
  | nil=>exact absurd (List.length_eq_zero_iff.mp l1) hne
  | cons _ _=>rfl
 have hlen:its.toArray.size*k.toNat<=100000:=by rw[zbx,<- l1];exact hz
 have hnew:List.foldl (fun x1 x2=>x1++x2) #[] (List.replicate k.toNat its.toArray)=(List.replicate k.toNat its).flatten.toArray:=by
  have:=jko its k.toNat [];rw[List.nil_append] at this;exact this
 refine wpAny_binaryOp_repeat_ref (T:="tuple") (U:="int") (by decide) ⟨_,e,rfl⟩ (fun s'=>typeIs_int s' k t) jjz F.fills_int_mul F.slot_int_rmul jpk F.slot_int_index.lookup
  (call_meets F.slot_int_rmul (typeIs_int s k t) F.entry_int_rmul (F.args_int_rmul_2 _ _) (jl6 k t l its.toArray n dd sl)
   ⟨e,rfl,⟨_,e,rfl⟩,?_⟩)
 by_cases hk:k=1
 ·subst hk;exact call_meets F.slot_tuple_mul ⟨_,e,rfl⟩ F.entry_tuple_mul (F.args_tuple_mul_2 _ _) (jtk l its.toArray n t dd sl hne') ⟨e,.ref l,H,I,rfl,q1 rfl⟩
 ·refine call_meets F.slot_tuple_mul ⟨_,e,rfl⟩ F.entry_tuple_mul (F.args_tuple_mul_2 _ _) (jtl l its.toArray n k t dd sl hne' (by omega) h2 hlen) ⟨e,?_⟩;rw[hnew];refine⟨.ref s.heap.objs.size,_,I.laid (t':=s.toks) (o:=.tup (List.replicate k.toNat xs).flatten) (fun b ob q=>zaz _ q) (zac _) ?_,rfl,q2 hk _ (I.hok.fresh (zac _))⟩;refine⟨?_,_,r.rep k.toNat,PyProof.Rows.IsTup.new _ _⟩;rw[jvi,Nat.mul_comm];have:100000<=sizeLine:=by decide
  omega
def jdt:D->D->Option D
 | .tup xs,.int k=>if xs≠[]/\1<=k/\k<=1000/\xs.length*k.toNat<=100000 then some (.tup (List.replicate k.toNat xs).flatten) else none
 | x,y=>gMul x y
def jHd(K:W.Frag):R2:=fun x y H Q=>(rI (fun i j=>(jhm i&&jhm j)=true) (fun i j=>.int (i*j)) x y H Q\/∃ z n,x=.str z/\y=.int n/\(z.length<=4096/\-4096<=n/\n<=4096)/\Q (.str (Txt.mul z n)) H)\/jHe K x y H Q
def jdz:OpR X (binaryOp .Mult) (jHd X.K):=op_mulD.or jDh
def jcx:OpD X.K jdt (jHd X.K):=by
 intro x y d hd J H G u v Q hG ru rv k;unfold jdt at hd
 split at hd
 ·split at hd
  ·rename_i hz;cases hd;obtain⟨l,xs,rfl,q1,q2⟩:=rep_tup.mp ru;have n1:xs≠[]:=fun z=>by have:=q2.length;rw[z] at this;exact hz.1 (List.length_eq_zero_iff.mp this.symm)
   refine .inr ⟨l,_,xs,rfl,rep_int.mp rv,jda jao q1,n1,hz.2.1,hz.2.2.1,by rw[q2.length];exact hz.2.2.2,fun e=>?_,fun _ p hp=>k _ _ (ja7 hp) (jdj hp (hG p hp) (q2.rep _))⟩;subst e;refine k _ H (Same.refl H) ?_;simpa using ru
  ·cases hd
 ·exact .inl (jDj (X:=X) x y d hd J H G u v Q hG ru rv k)
end
end DL
namespace L2
open PyProof.Rows
abbrev xOb(C:Addr)(od:Option Addr)(vs:Array Value)(sl:qe):Obj:=⟨.ref C,od,.fields vs,sl⟩
def XO(a C:Addr)(od:Option Addr)(f:Bool):HO:=.ext fun h=>∃ vs sl,h.get? a=some (xOb C od vs sl)/\(f=true->vs[1]? = some .none)
inductive XDv(a:Addr)(fs:List (Str×V))(h:Heap):Prop
 | mk (mA:qa) (hn:h.Ns1 a mA) (hr:∀ f,RelO (fs.lookup f) (mA f)) (hw:PySem.Within mA (fs.map (·.1))) (hl:fs.length<=1000)
def XDc(a:Addr)(fs:List (Str×V)):HO:=.ext (XDv a fs)
def jIm{a C:Addr}{od:Option Addr}{f:Bool}{xs:List V}:XO a C od f≠.tup xs:=fun z=>by unfold XO at z;cases z
def jKj{a:Addr}{fs:List (Str×V)}{xs:List V}:XDc a fs≠.tup xs:=fun z=>by unfold XDc at z;cases z
end L2
namespace DL
open L2
inductive SO where
 | ins (c:Str) (fs:List (Str×D))|lst (ds:List D)|tab (x:Str) (l c:Nat) (q:Str)|dct (kvs:List (List Int×D))|exc (c:Str) (j:Option Nat×Bool)|xd (fs:List (Str×D))
abbrev Sto:=List SO
abbrev MS(α:Type):=Sto->Option (Except XD α×Sto)
def MS.b{α β:Type}(m:MS α)(f:α->MS β):MS β:=fun Ω=>match m Ω with
 | none=>none
 | some (.error x,Ω')=>some (.error x,Ω')
 | some (.ok a,Ω')=>f a Ω'
def MS.p{α:Type}(a:α):MS α:=fun Ω=>some (.ok a,Ω)
def MS.l{α:Type}(m:M α):MS α:=fun Ω=>m.map fun r=>(r,Ω)
def MS.o{α:Type}(m:Option α):MS α:=fun Ω=>m.map fun r=>(.ok r,Ω)
inductive MS.BInv{α β:Type}(m:MS α)(f:α->MS β)(Ω Ω':Sto)(r:Except XD β):Prop
 | ok (a:α) (Ω1:Sto) (h1:m Ω=some (.ok a,Ω1)) (h2:f a Ω1=some (r,Ω'))
 | err (x:XD) (h1:m Ω=some (.error x,Ω')) (h2:r=.error x)
def MS.b_inv{α β:Type}{m:MS α}{f:α->MS β}{Ω Ω':Sto}{r:Except XD β}(h:m.b f Ω=some (r,Ω')):MS.BInv m f Ω Ω' r:=by
 unfold MS.b at h
 cases e:m Ω with
 | none=>rw[e] at h;cases h
 | some p =>
  rw[e] at h;obtain⟨q,Ω1⟩:=p
  cases q with
  | error x=>cases h;exact .err x e rfl
  | ok a=>exact .ok a Ω1 e h
def MS.l_inv{α:Type}{m:M α}{Ω Ω':Sto}{r:Except XD α}(h:MS.l m Ω=some (r,Ω')):m=some r/\Ω'=Ω:=by
 unfold MS.l at h
 cases e:m with
 | none=>rw[e] at h;cases h
 | some p=>rw[e] at h;cases h;exact⟨rfl,rfl⟩
def MS.o_inv{α:Type}{m:Option α}{Ω Ω':Sto}{r:Except XD α}(h:MS.o m Ω=some (r,Ω')):∃ a,m=some a/\r=.ok a/\Ω'=Ω:=by
 unfold MS.o at h
 cases e:m with
 | none=>rw[e] at h;cases h
 | some p=>rw[e] at h;cases h;exact⟨p,rfl,rfl,rfl⟩
@[simp] theorem MS.b_p{α β:Type}(a:α)(f:α->MS β):(MS.p a).b f=f a:=rfl
def MS.b_ok{α β:Type}{m:MS α}{f:α->MS β}{Ω Ω1:Sto}{a:α}(h:m Ω=some (.ok a,Ω1)):m.b f Ω=f a Ω1:=by unfold MS.b;rw[h]
def RLe(J J':Rho):Prop:=∀ i a,J i=some a->J' i=some a
def RLe.refl(J:Rho):RLe J J:=fun _ _ h=>h
def RLe.trans{J J' J'':Rho}(a:RLe J J')(b:RLe J' J''):RLe J J'':=fun i x h=>b i x (a i x h)
section
variable {J J':Rho}{K:W.Frag}{H:Hp}
mutual
def Rep.rho(e:RLe J J'):∀ {d:D} {v:V},Rep J K H d v->Rep J' K H d v
 | .non,_,h=>by unfold Rep at h |-;exact h
 | .bl _,_,h=>by unfold Rep at h |-;exact h
 | .int _,_,h=>by unfold Rep at h |-;exact h
 | .str _,_,h=>by unfold Rep at h |-;exact h
 | .ty _,_,h=>by unfold Rep at h |-;exact h
 | .obj _,_,h=>by
  unfold Rep at h |-
  obtain⟨a,q1,q2⟩:=h;exact⟨a,e _ _ q1,q2⟩
 | .tup _,_,h=>by
  unfold Rep at h |-
  obtain⟨a,xs,q1,q2,q3⟩:=h;exact⟨a,xs,q1,q2,Reps.rho e q3⟩
 | .lst _,_,h=>by
  unfold Rep at h |-
  obtain⟨a,xs,q1,q2,q3⟩:=h;exact⟨a,xs,q1,q2,Reps.rho e q3⟩
def Reps.rho(e:RLe J J'):∀ {ds:List D} {vs:List V},Reps J K H ds vs->Reps J' K H ds vs
 | [],_,h=>by unfold Reps at h |-;exact h
 | _::_,_,h=>by
  unfold Reps at h |-
  obtain⟨v,vs,q1,q2,q3⟩:=h;exact⟨v,vs,q1,Rep.rho e q2,Reps.rho e q3⟩
end
def putD(f:Str)(d:D):List (Str×D)->List (Str×D)
 | []=>[(f,d)]
 | (g,x)::r=>if g=f then (g,d)::r else (g,x)::putD f d r
def Flds(J:Rho)(K:W.Frag)(H:Hp):List (Str×D)->List (Str×V)->Prop
 | [],vs=>vs=[]
 | (f,d)::fs,vs=>∃ v r,vs=(f,v)::r/\Rep J K H d v/\Flds J K H fs r
theorem Flds.mono(e:RLe J J')(s:Same H H'):∀ {fs:List (Str×D)} {vs:List (Str×V)},Flds J K H fs vs->Flds J' K H' fs vs
 | [],_,h=>h
 | (f,d)::fs,_,⟨v,r,q1,q2,q3⟩=>⟨v,r,q1,(q2.rho e).mono s,Flds.mono e s q3⟩
theorem Flds.length:∀ {fs:List (Str×D)} {vs:List (Str×V)},Flds J K H fs vs->vs.length=fs.length
 | [],_,h=>by cases h;rfl
 | (f,d)::fs,_,⟨v,r,q1,q2,q3⟩=>by subst q1;simp[Flds.length q3]
theorem Flds.get:∀ {fs:List (Str×D)} {vs:List (Str×V)} {f:Str} {d:D},Flds J K H fs vs->fs.lookup f=some d->∃ v,vs.lookup f=some v/\Rep J K H d v
 | [],_,_,_,_,e=>by cases e
 | (g,x)::fs,_,f,d,⟨v,r,q1,q2,q3⟩,e=>by
  subst q1;simp only[List.lookup_cons] at e |-
  cases h:f == g with
  | true=>rw[h] at e;cases e;exact⟨v,rfl,q2⟩
  | false=>rw[h] at e;exact Flds.get q3 e
theorem Flds.none:∀ {fs:List (Str×D)} {vs:List (Str×V)} {f:Str},Flds J K H fs vs->fs.lookup f=Option.none->vs.lookup f=Option.none
 | [],_,_,h,_=>by cases h;rfl
 | (g,x)::fs,_,f,⟨v,r,q1,q2,q3⟩,e=>by
  subst q1;simp only[List.lookup_cons] at e |-
  cases h:f == g with
  | true=>rw[h] at e;cases e
  | false=>rw[h] at e;exact Flds.none q3 e
theorem Flds.put{f:Str}{d:D}{v:V}(hr:Rep J K H d v):∀ {fs:List (Str×D)} {vs:List (Str×V)},Flds J K H fs vs->Flds J K H (putD f d fs) (putF f v vs)
 | [],_,h=>by cases h;exact⟨v,[],rfl,hr,rfl⟩
 | (g,x)::fs,_,⟨u,r,q1,q2,q3⟩=>by
  subst q1;unfold putD putF
  by_cases h:g=f
  ·rw[if_pos h,if_pos h];exact⟨v,r,rfl,hr,q3⟩
  ·rw[if_neg h,if_neg h];exact⟨u,_,rfl,q2,Flds.put hr q3⟩
end
inductive InsOk(J:Rho)(S:qd)(K:W.Frag)(mg:qa)(H Hv:Hp)(a:Addr)(c:Str)(fs:List (Str×D)):Prop
 | mk (C dx:Addr) (vfs:List (Str×V)) (h1:mg c=some (.ref C)) (h2:H a=some (.ins C dx vfs)) (h3:H dx=some (.own a)) (h4:S dx=true) (h5:Flds J K Hv fs vfs)
inductive TabOf(K:W.Frag)(mg:qa)(x:Str)(a:Addr):Prop
 | mk (f c bm:Addr) (oc:Value) (od:Option Addr) (fd:FuncData) (osl:qe) (ob:Obj) (h1:mg x=some (.ref f)) (h2:K.lookup f=some ⟨oc,od,.func fd,osl⟩) (h3:fd.code=.ref c) (h4:W.codeHdIn K c a=true)
   (h5:mg "__builtins__"=some (.ref bm)) (h6:bm≠builtinsNs) (h7:K.lookup bm=some ob) (h8:ob.cls=.type "module") (h9:ob.dict=some builtinsNs) (h10:ob.data=.plain)
inductive TabG(Hv:Hp)(l c:Nat)(q:Str)(ps:Array Value):Prop
 | nil (h:ps=#[])
 | one (c':Addr) (o:Obj) (vs:Array Value) (t:Tok) (h:ps=#[rawInt l,rawInt c,.ref c']) (h1:Hv c'=some (.frz o (.own 0))) (h2:o.data=.fields vs) (h3:vs[1]? = some (.str q t))
def TabG.mono{Hv Hv':Hp}{l c:Nat}{q:Str}{ps:Array Value}(s:Same Hv Hv'):TabG Hv l c q ps->TabG Hv' l c q ps
 | .nil h=>.nil h
 | .one c' o vs t h h1 h2 h3=>.one c' o vs t h (s _ _ h1) h2 h3
inductive TabOk(K:W.Frag)(mg:qa)(H Hv:Hp)(a:Addr)(x:Str)(l c:Nat)(q:Str):Prop
 | mk (ps:Array Value) (h1:H a=some (.tbl ps)) (h2:TabOf K mg x a) (h3:TabG Hv l c q ps)
inductive ExcOk(J:Rho)(mg:qa)(H:Hp)(a:Addr)(c:Str):Option Nat×Bool->Prop
 | no (f:Bool) (C:Addr) (h1:mg c=some (.ref C)) (h2:H a=some (XO a C none f)):ExcOk J mg H a c (none,f)
 | yes (f:Bool) (j:Nat) (C dx:Addr) (h1:mg c=some (.ref C)) (h2:J j=some dx) (h3:H a=some (XO a C (some dx) f)):ExcOk J mg H a c (some j,f)
def ExcOk.mono{J J':Rho}{mg:qa}{H H':Hp}{a:Addr}{c:Str}{j:Option Nat×Bool}(l:∀ i b,J i=some b->J' i=some b)(e:H' a=H a)(h:ExcOk J mg H a c j):ExcOk J' mg H' a c j:=by
 cases h with
 | no f C h1 h2=>exact .no f C h1 (by rw[e];exact h2)
 | yes f j C dx h1 h2 h3=>exact .yes f j C dx h1 (l _ _ h2) (by rw[e];exact h3)
def SOk(J:Rho)(S:qd)(K:W.Frag)(mg:qa)(H Hv:Hp)(a:Addr):SO->Prop
 | .ins c fs=>InsOk J S K mg H Hv a c fs
 | .lst ds=>∃ xs,H a=some (.lst xs)/\Reps J K Hv ds xs
 | .tab x l c q=>TabOk K mg H Hv a x l c q
 | .exc c j=>ExcOk J mg H a c j
 | .xd fs=>∃ vfs,H a=some (XDc a vfs)/\Flds J K Hv fs vfs
 | .dct kvs=>∃ vk:List (List Key×V),H a=some (.dT vk)/\vk.map (·.1)=kvs.map (fun p=>p.1.map Sum.inl)/\Reps J K Hv (kvs.map (·.2)) (vk.map (·.2))
inductive AtOk(J:Rho)(S:qd)(K:W.Frag)(mg:qa)(H Hv:Hp)(i:Nat)(so:SO):Prop
 | mk (a:Addr) (h1:J i=some a) (h2:S a=true) (h3:SOk J S K mg H Hv a so)
def TV(H Hv:Hp):Prop:=∀ b xs,H b=some (.tup xs)->Hv b=some (.tup xs)
def jlk{H Hv:Hp}{a:Addr}{o:HO}(t:TV H Hv)(ho:∀ xs,o≠.tup xs):TV (upd H a o) Hv:=fun b xs q=>by
 by_cases hb:b=a
 ·subst hb;rw[jam] at q;cases q;exact absurd rfl (ho xs)
 ·rw[jai hb] at q;exact t b xs q
def jxk{H Hv Hv':Hp}(t:TV H Hv)(v:Same Hv Hv'):TV H Hv':=fun b xs q=>v b _ (t b xs q)
def jEn{H H':Hp}{F:qd}(t:TV H (hid H F))(fr:∀ b,H b=none->F b=false)(e:Same H H'):TV H' (hid H' F):=fun b xs q=>by
 cases z:H b with
 | none=>exact hid_some.mpr ⟨fr b z,q⟩
 | some o =>
  have:=e b o z;rw[q] at this;cases this;exact jas e b _ (t b xs z)
structure StoOk(J:Rho)(S:qd)(K:W.Frag)(mg:qa)(H Hv:Hp)(Ω:Sto):Prop where
 ats:∀ (i:Nat) so,Ω[i]? = some so->AtOk J S K mg H Hv i so
 inj:∀ i j a,J i=some a->J j=some a->i=j
 top:∀ i,Ω.length<=i->J i=none
 fin:∀ b,S b=true->H b≠none
 tv:TV H Hv
abbrev nof:qd:=fun _=>false
def un(F S:qd):qd:=fun b=>F b || S b
def un_t{F S:qd}{b:Addr}:un F S b=true↔F b=true\/S b=true:=by unfold un;rw[Bool.or_eq_true]
def un_f{F S:qd}{b:Addr}:un F S b=false↔F b=false/\S b=false:=by unfold un;rw[Bool.or_eq_false_iff]
section
variable {J:Rho}{S:qd}{K:W.Frag}{mg:qa}{H H' Hv Hv':Hp}{Ω:Sto}
theorem SOk.mono{a:Addr}{so:SO}(hs:S a=true)(e:∀ b,S b=true->H' b=H b)(v:Same Hv Hv')(h:SOk J S K mg H Hv a so):SOk J S K mg H' Hv' a so:=by
 cases so with
 | ins c fs =>
  obtain⟨C,dx,vfs,q1,q2,q3,q4,q5⟩:=h;exact⟨C,dx,vfs,q1,by rw[e a hs];exact q2,by rw[e dx q4];exact q3,q4,q5.mono (RLe.refl _) v⟩
 | lst ds =>
  obtain⟨xs,q1,q2⟩:=h;exact⟨xs,by rw[e a hs];exact q1,q2.mono v⟩
 | tab x l c q =>
  obtain⟨ps,q1,q2,q3⟩:=h;exact⟨ps,by rw[e a hs];exact q1,q2,q3.mono v⟩
 | dct kvs =>
  obtain⟨vk,q1,q2,q3⟩:=h;exact⟨vk,by rw[e a hs];exact q1,q2,q3.mono v⟩
 | exc c j=>exact ExcOk.mono (fun _ _ z=>z) (e a hs) h
 | xd fs =>
  obtain⟨vfs,q1,q2⟩:=h;exact⟨vfs,by rw[e a hs];exact q1,q2.mono (RLe.refl _) v⟩
def StoOk.mono(h:StoOk J S K mg H Hv Ω)(e:∀ b,S b=true->H' b=H b)(v:Same Hv Hv')(t:TV H' Hv'):StoOk J S K mg H' Hv' Ω :=
 ⟨fun i so hi=>let ⟨a,q1,q2,q3⟩:=h.ats i so hi;⟨a,q1,q2,q3.mono q2 e v⟩,h.inj,h.top,fun b hb=>by rw[e b hb];exact h.fin b hb,t⟩
end
structure RM(Jz:Rho)(Sz:qd)(Hz:Hp)(F:qd)(K:W.Frag)(mg:qa)(O:List Nat)(J:Rho)(S:qd)(H:Hp)(Z:St)(Y:DSt)(Ω:Sto):Prop where
 rs:RS J K (hid H (fob nof Z O)) H (un F S) O Z Y
 rho:RLe Jz J
 same:∀ b o,Sz b=false->Hz b=some o->H b=some o
 old:∀ b,Sz b=true->S b=true
 new:∀ b,S b=true->Sz b=true\/Hz b=none
 own0:∀ i∈O,∀ a,Z[i]? = some (some (.ref a))->Hz a=none
 ff:∀ b,F b=true->S b=false
 sto:StoOk J S K mg H (hid H (fob (un F S) Z O)) Ω
section
variable {Jz J:Rho}{Sz S F:qd}{Hz H1 H H':Hp}{K:W.Frag}{mg:qa}{O O':List Nat}{Z:St}{Y:DSt}{Ω:Sto}
def RS.rebase(R:RS J K H1 H F O Z Y):RS J K (hid H (fob nof Z O)) H F O Z Y :=
 ⟨R.len,jao,R.fin,R.val,fun i hi=>by
  obtain⟨a,xs,ds,q1,q2,q3,q4,q5⟩:=R.own i hi;refine⟨a,xs,ds,q1,q2,q3,⟨?_,q4.2⟩,q5⟩;unfold hid;rw[if_pos (fob_t.mpr (.inr ⟨i,hi,q2⟩))],R.nd⟩
def RM.at_store(R:RM Jz Sz Hz F K mg O J S H Z Y Ω)(e:Same H H'):∀ b,S b=true->H' b=H b:=fun b hb=>by
 cases q:H b with
 | none=>exact absurd q (R.sto.fin b hb)
 | some o=>exact e b o q
def RM.mono(R:RM Jz Sz Hz F K mg O J S H Z Y Ω)(e:Same H H'):RM Jz Sz Hz F K mg O J S H' Z Y Ω :=
 ⟨(R.rs.mono e).rebase,R.rho,fun b o h1 h2=>e b o (R.same b o h1 h2),R.old,R.new,R.own0,R.ff,R.sto.mono (R.at_store e) (jas e) (jEn R.sto.tv (fun _ h=>R.rs.fresh h) e)⟩
def RM.thaw(R:RM Jz Sz Hz F K mg O J S H Z Y Ω)(h:∀ i∈O',i∈O):RM Jz Sz Hz F K mg O' J S H Z Y Ω :=
 ⟨(R.rs.thaw h).rebase,R.rho,R.same,R.old,R.new,fun i hi=>R.own0 i (h i hi),R.ff,R.sto.mono (fun _ _=>rfl) (jfj (jvh h)) (jxk R.sto.tv (jfj (jvh h)))⟩
def RM.fresh(R:RM Jz Sz Hz F K mg O J S H Z Y Ω){p:Addr}(h:H p=none):fob (un F S) Z O p=false:=R.rs.fresh h
def RM.fresh0(R:RM Jz Sz Hz F K mg O J S H Z Y Ω){p:Addr}(h:H p=none):Hz p=none\/Sz p=true:=by
 cases e:Sz p with
 | true=>exact .inr rfl
 | false =>
  cases e0:Hz p with
  | none=>exact .inl rfl
  | some o=>rw[R.same p o e e0] at h;cases h
def RM.noS(R:RM Jz Sz Hz F K mg O J S H Z Y Ω){p:Addr}(h:H p=none):S p=false:=by
 cases e:S p with
 | false=>rfl
 | true=>exact absurd h (R.sto.fin p e)
def RM.fresh00(R:RM Jz Sz Hz F K mg O J S H Z Y Ω){p:Addr}(h:H p=none):Hz p=none:=by
 rcases R.fresh0 h with q|q
 ·exact q
 ·have:=R.noS h;rw[R.old p q] at this;cases this
def RM.set(R:RM Jz Sz Hz F K mg O J S H Z Y Ω){i:Nat}{d:D}{v:V}(ho:i∉O)(hr:Rep J K (hid H (fob (un F S) Z O)) d v):RM Jz Sz Hz F K mg O J S H (Z.set i (some v)) (Y.set i (some d)) Ω:=by
 refine⟨(R.rs.set ho hr).rebase,R.rho,R.same,R.old,R.new,fun j hj a q=>?_,R.ff,by rw[jb8 ho];exact R.sto⟩;rw[zbw (by rintro rfl;exact ho hj)] at q;exact R.own0 j hj a q
def RM.write(R:RM Jz Sz Hz F K mg O J S H Z Y Ω){i:Nat}{a:Addr}{ds:List D}{xs:List V}(hi:i∈O)(ha:Z[i]? = some (some (.ref a)))(hr:Reps J K (hid H (fob (un F S) Z O)) ds xs) :
  RM Jz Sz Hz F K mg O J S (upd H a (.lst xs)) Z (Y.set i (some (.lst ds))) Ω:=by
 obtain⟨a',ys,es,q1,q2,q3,q4,q5⟩:=R.rs.own i hi;rw[ha] at q2;cases q2
 have hS:S a=false:=(un_f.mp q4.2).2;have h0:=R.own0 i hi a ha;have hh:hid (upd H a (.lst xs)) (fob (un F S) Z O)=hid H (fob (un F S) Z O):=je2 (fob_t.mpr (.inr ⟨i,hi,ha⟩));refine⟨(R.rs.write hi ha hr).rebase,R.rho,fun b o h1 h2=>?_,R.old,R.new,R.own0,R.ff,?_⟩
 ·rw[jai (ja6 h2 h0)];exact R.same b o h1 h2
 ·rw[hh];refine R.sto.mono (fun b hb=>?_) (Same.refl _) (jlk R.sto.tv fun _ z=>nomatch z);rw[jai];rintro rfl;rw[hS] at hb;cases hb
def RM.take(R:RM Jz Sz Hz F K mg O J S H Z Y Ω){i:Nat}{ds:List D}{p:Addr}{xs:List V}(ho:i∉O)(hi:i<Y.length)(hp:H p=none)(hr:Reps J K (hid H (fob (un F S) Z O)) ds xs) :
  RM Jz Sz Hz F K mg (i::O) J S (upd H p (.lst xs)) (Z.set i (some (.ref p))) (Y.set i (some (.lst ds))) Ω/\Same (hid H (fob (un F S) Z O)) (hid (upd H p (.lst xs)) (fob (un F S) (Z.set i (some (.ref p))) (i::O))):=by
 have lZ:i<Z.length:=by rw[R.rs.len];exact hi
 have pf:=R.fresh hp;have vs:Same (hid H (fob (un F S) Z O)) (hid (upd H p (.lst xs)) (fob (un F S) (Z.set i (some (.ref p))) (i::O))):=by
  intro b o q;obtain⟨q1,q2⟩:=hid_some.mp q;have hb:b≠p:=ja6 q2 hp;refine hid_some.mpr ⟨?_,by rw[jai hb];exact q2⟩
  cases z:fob (un F S) (Z.set i (some (.ref p))) (i::O) b with
  | false=>rfl
  | true =>
   rcases fob_t.mp z with z|⟨j,hj,z⟩
   ·rw[fob_t.mpr (.inl z)] at q1;cases q1
   ·rcases List.mem_cons.mp hj with rfl|hj
    ·rw[zcz lZ] at z;cases z;exact absurd rfl hb
    ·rw[zbw (by rintro rfl;exact ho hj)] at z;rw[fob_t.mpr (.inr ⟨j,hj,z⟩)] at q1;cases q1
 refine⟨⟨(R.rs.take ho hi (Same.refl H) hp hr).rebase,R.rho,fun b o h1 h2=>?_,R.old,R.new,fun j hj a q=>?_,R.ff,R.sto.mono (fun b hb=>?_) vs (jxk (jlk R.sto.tv fun _ z=>nomatch z) vs)⟩,vs⟩
 ·have h3:=R.same b o h1 h2;rw[jai (ja6 h3 hp)];exact h3
 ·rcases List.mem_cons.mp hj with rfl|hj
  ·rw[zcz lZ] at q;cases q;exact R.fresh00 hp
  ·rw[zbw (by rintro rfl;exact ho hj)] at q;exact R.own0 j hj a q
 ·rw[jai];rintro rfl;rw[R.noS hp] at hb;cases hb
end
inductive tE(K:W.Frag)(mg:qa)(O:List Nat)(f:DSt->MS D)(Z:St)(H:Hp)(Q:VK):Prop
 | mk (Jz:Rho) (Sz:qd) (Hz:Hp) (F:qd) (J:Rho) (S:qd) (Y:DSt) (Ω:Sto) (R:RM Jz Sz Hz F K mg O J S H Z Y Ω) (r:Except XD D) (Ω':Sto) (hf:f Y Ω=some (r,Ω')) (k:match (generalizing:=false) r with
  | .ok d=>∀ v J' S' H',RM Jz Sz Hz F K mg O J' S' H' Z Y Ω'->RLe J J'->Same (hid H (fob (un F S) Z O)) (hid H' (fob (un F S') Z O))->Rep J' K (hid H' (fob (un F S') Z O)) d v->Q v H'
  | .error _=>True)
def ME(X:Cx)(O:List Nat)(e:Expr)(f:DSt->MS D):Prop:=PE X e (tE X.K X.mg O f)
inductive tEB(K:W.Frag)(mg:qa)(O:List Nat)(f:DSt->MS Bool)(Z:St)(H:Hp)(Q:Bool->Hp->Prop):Prop
 | mk (Jz:Rho) (Sz:qd) (Hz:Hp) (F:qd) (J:Rho) (S:qd) (Y:DSt) (Ω:Sto) (R:RM Jz Sz Hz F K mg O J S H Z Y Ω) (r:Except XD Bool) (Ω':Sto) (hf:f Y Ω=some (r,Ω')) (k:match (generalizing:=false) r with
  | .ok d=>∀ J' S' H',RM Jz Sz Hz F K mg O J' S' H' Z Y Ω'->RLe J J'->Same (hid H (fob (un F S) Z O)) (hid H' (fob (un F S') Z O))->Q d H'
  | .error _=>True)
def MT(X:Cx)(O:List Nat)(e:Expr)(f:DSt->MS Bool):Prop:=PT X e (tEB X.K X.mg O f)
def MW(X:Cx)(O:List Nat)(e:Expr)(f:DSt->MS Bool):Prop:=PW X e (tEB X.K X.mg O f)
inductive tEL(K:W.Frag)(mg:qa)(O:List Nat)(f:DSt->MS (List D))(Z:St)(H:Hp)(Q:List V->Hp->Prop):Prop
 | mk (Jz:Rho) (Sz:qd) (Hz:Hp) (F:qd) (J:Rho) (S:qd) (Y:DSt) (Ω:Sto) (R:RM Jz Sz Hz F K mg O J S H Z Y Ω) (r:Except XD (List D)) (Ω':Sto) (hf:f Y Ω=some (r,Ω')) (k:match (generalizing:=false) r with
  | .ok ds=>∀ vs J' S' H',RM Jz Sz Hz F K mg O J' S' H' Z Y Ω'->RLe J J'->Same (hid H (fob (un F S) Z O)) (hid H' (fob (un F S') Z O))->Reps J' K (hid H' (fob (un F S') Z O)) ds vs->Q vs H'
  | .error _=>True)
def MA(X:Cx)(O:List Nat)(es:List Expr)(f:DSt->MS (List D)):Prop:=PA X es (tEL X.K X.mg O f)
def lF{α:Type}(f:DSt->M α):DSt->MS α:=fun Y=>MS.l (f Y)
def jfm(f:DSt->MS D)(g:DSt->MS (List D)):DSt->MS (List D):=fun Y=>(f Y).b fun x=>(g Y).b fun xs=>MS.p (x::xs)
def m2(g:D->D->Option D)(fa fb:DSt->MS D):DSt->MS D:=fun Y=>(fa Y).b fun x=>(fb Y).b fun y=>MS.o (g x y)
def m1(g:D->Option D)(fa:DSt->MS D):DSt->MS D:=fun Y=>(fa Y).b fun x=>MS.o (g x)
def mL(k:List D->Option D)(g:DSt->MS (List D)):DSt->MS D:=fun Y=>(g Y).b fun xs=>MS.o (k xs)
def mTru(fa:DSt->MS D):DSt->MS Bool:=fun Y=>(fa Y).b fun x=>MS.o (truD x)
def mNot(ta:DSt->MS Bool):DSt->MS Bool:=fun Y=>(ta Y).b fun x=>MS.p !x
def mOr(ta tb:DSt->MS Bool):DSt->MS Bool:=fun Y=>(ta Y).b fun x=>if x=true then MS.p true else tb Y
def getO(cs:List Str)(f:Str):D->MS D:=fun x Ω=>match x with
 | .obj i=>match Ω[i]? with
  | some (.ins c fs)=>if cs.contains c then (fs.lookup f).map fun d=>(.ok d,Ω) else none
  | _=>none
 | _=>none
def mGet(cs:List Str)(f:Str)(fa:DSt->MS D):DSt->MS D:=fun Y=>(fa Y).b fun x=>getO cs f x
section
variable {X:Cx}{O:List Nat}{a b c e:Expr}{es:List Expr}{fa fb:DSt->MS D}{fl:DSt->MS (List D)}{pos:Pos}{ta tb:DSt->MS Bool}
def jat{f:DSt->M D}(h:DE X O E0 e f):ME X O e (lF f):=by
 rintro U s Z H Q I ⟨Jz,Sz,Hz,F,J,S,Y,Ω,R,r,Ω',hf,k⟩;obtain⟨hg,rfl⟩:=MS.l_inv hf;refine h U s Z H Q I ⟨J,_,un F S,Y,r,R.rs,hg,?_⟩
 cases r with
 | ok d=>exact fun v H' s' rv=>k v J S H' (R.mono s') (RLe.refl _) (jas s') rv
 | error x=>exact fun c dx H' _ z=>z.elim
def jje{f:DSt->M Bool}(h:DT X O E0 e f):MT X O e (lF f):=by
 rintro U s Z H Q I ⟨Jz,Sz,Hz,F,J,S,Y,Ω,R,r,Ω',hf,k⟩;obtain⟨hg,rfl⟩:=MS.l_inv hf;refine h U s Z H Q I ⟨J,_,un F S,Y,r,R.rs,hg,?_⟩
 cases r with
 | ok d=>exact fun H' s'=>k J S H' (R.mono s') (RLe.refl _) (jas s')
 | error x=>exact fun c dx H' _ z=>z.elim
def jc7{f:DSt->M (List D)}(h:DA X O E0 es f):MA X O es (lF f):=by
 rintro p U s Z H Q I ⟨Jz,Sz,Hz,F,J,S,Y,Ω,R,r,Ω',hf,k⟩;obtain⟨hg,rfl⟩:=MS.l_inv hf;refine h p U s Z H Q I ⟨J,_,un F S,Y,r,R.rs,hg,?_⟩
 cases r with
 | ok d=>exact fun v H' s' rv=>k v J S H' (R.mono s') (RLe.refl _) (jas s') rv
 | error x=>exact fun c dx H' _ z=>z.elim
def je5(ha:ME X O e fa)(hr:MA X O es fl)(hs:zsE e es X.env:=by rfl):MA X O (e::es) (jfm fa fl):=by
 rintro p U s Z H Q I ⟨Jz,Sz,Hz,F,J,S,Y,Ω,R,r,Ω',hf,k⟩;refine jgc ha hr hs p U s Z H Q I ?_;rcases MS.b_inv hf with ⟨x,Ω1,e1,hf⟩|⟨x,e1,rfl⟩
 ·refine⟨Jz,Sz,Hz,F,J,S,Y,Ω,R,.ok x,Ω1,e1,fun u ρ1 S1 H1 R1 l1 v1 r1=>?_⟩;rcases MS.b_inv hf with ⟨xs,Ω2,e2,hf⟩|⟨y,e2,rfl⟩
  ·cases hf;exact⟨Jz,Sz,Hz,F,ρ1,S1,Y,Ω1,R1,.ok xs,_,e2,fun vs ρ2 S2 H2 R2 l2 v2 r2=>k (u::vs) ρ2 S2 H2 R2 (l1.trans l2) (v1.trans v2) (Reps.cons ((r1.rho l2).mono v2) r2)⟩
  ·exact⟨Jz,Sz,Hz,F,ρ1,S1,Y,Ω1,R1,.error y,_,e2,trivial⟩
 ·exact⟨Jz,Sz,Hz,F,J,S,Y,Ω,R,.error x,_,e1,trivial⟩
def jvt{g:D->D->Option D}{r:R2}{Z:St}{H:Hp}{Q:VK}(hg:OpD X.K g r)(h:tE X.K X.mg O (m2 g fa fb) Z H Q):tOp r (tE X.K X.mg O fa) (tE X.K X.mg O fb) Z H Q:=by
 obtain⟨Jz,Sz,Hz,F,J,S,Y,Ω,R,r,Ω',hf,k⟩:=h;rcases MS.b_inv hf with ⟨x,Ω1,e1,hf⟩|⟨x,e1,rfl⟩
 ·refine⟨Jz,Sz,Hz,F,J,S,Y,Ω,R,.ok x,Ω1,e1,fun u ρ1 S1 H1 R1 l1 v1 r1=>?_⟩;rcases MS.b_inv hf with ⟨y,Ω2,e2,hf⟩|⟨y,e2,rfl⟩
  ·refine⟨Jz,Sz,Hz,F,ρ1,S1,Y,Ω1,R1,.ok y,Ω2,e2,fun w ρ2 S2 H2 R2 l2 v2 r2=>?_⟩;obtain⟨d,hd,rfl,rfl⟩:=MS.o_inv hf;exact hg x y d hd ρ2 H2 _ u w Q (fun p hp=>R2.fresh hp) ((r1.rho l2).mono v2) r2 fun z H3 s3 r3=>k z ρ2 S2 H3 (R2.mono s3) (l1.trans l2) (v1.trans (v2.trans (jas s3))) r3
  ·exact⟨Jz,Sz,Hz,F,ρ1,S1,Y,Ω1,R1,.error y,_,e2,trivial⟩
 ·exact⟨Jz,Sz,Hz,F,J,S,Y,Ω,R,.error x,_,e1,trivial⟩
def jAp{op:CmpOp}{g:D->D->Option D}{r:R2}(ho:OpR X (compareOp op) r)(hg:OpD X.K g r)(ha:ME X O a fa)(hb:ME X O b fb)(hm:behindInMarks op b=false):ME X O (.Compare a [op] [b] pos) (m2 g fa fb) :=
 fun U s Z H Q I h=>jwh ho ha hb hm U s Z H Q I (jvt hg h)
def jBm(X:Cx)(cs:List Str)(f:Str):Prop:=∀ c∈cs,∀ C,X.mg c=some (.ref C)->Cls X.K C/\NoAttr X.K C f
def jya{cs:List Str}{f:Str}{x:D}{Ω Ω':Sto}{r:Except XD D}(h:getO cs f x Ω=some (r,Ω')):∃ i cl fs d,x=.obj i/\Ω[i]? = some (.ins cl fs)/\cs.contains cl=true/\fs.lookup f=some d/\r=.ok d/\Ω'=Ω:=by
 unfold getO at h
 cases x with
 | obj i =>
  dsimp only at h
  cases hi:Ω[i]? with
  | none=>rw[hi] at h;cases h
  | some so =>
   rw[hi] at h
   cases so with
   | lst _=>cases h
   | tab _ _ _ _=>cases h
   | dct _=>cases h
   | exc _ _=>cases h
   | xd _=>cases h
   | ins cl fs =>
    dsimp only at h
    by_cases hc:cs.contains cl=true
    ·rw[if_pos hc] at h
     cases hl:fs.lookup f with
     | none=>rw[hl] at h;cases h
     | some d=>rw[hl] at h;cases h;exact⟨i,cl,fs,d,rfl,hi,hc,hl,rfl,rfl⟩
    ·rw[if_neg hc] at h;cases h
 | _=>cases h
def jky{cs:List Str}{f:Str}(hc:jBm X cs f)(ha:ME X O e fa)(hb:attributeBase e f X.env (eval e X.env)=eval e X.env:=by rfl):ME X O (.Attribute e f pos) (mGet cs f fa):=by
 rintro U s Z H Q I ⟨Jz,Sz,Hz,F,J,S,Y,Ω,R,r,Ω',hf,k⟩;refine jGy ha hb U s Z H Q I ?_;rcases MS.b_inv hf with ⟨x,Ω1,e1,hf⟩|⟨x,e1,rfl⟩
 ·refine⟨Jz,Sz,Hz,F,J,S,Y,Ω,R,.ok x,Ω1,e1,fun u ρ1 S1 H1 R1 l1 v1 r1=>?_⟩;obtain⟨i,cl,fs,d,rfl,hi,hcl,hl,rfl,rfl⟩:=jya hf;obtain⟨ad,q1,q2⟩:=rep_obj.mp r1;obtain⟨ad',p1,p2,C,dx,vfs,p3,p4,p5,p6,p7⟩:=R1.sto.ats i _ hi;rw[q1] at p1;cases p1
  obtain⟨g1,g2⟩:=hc cl (zbc.mp hcl) C p3;obtain⟨w,w1,w2⟩:=p7.get hl;exact⟨ad,C,dx,vfs,w,q2,p4,g1,g2,w1,k w ρ1 S1 H1 R1 l1 v1 w2⟩
 ·exact⟨Jz,Sz,Hz,F,J,S,Y,Ω,R,.error x,_,e1,trivial⟩
def jo1(ha:ME X O a fa)(he:∀ whole,isTrue a X.env whole=(do let v <- whole;standAt a.pos;holding [v] (truthy v)):=by exact fun _=>rfl):MT X O a (mTru fa):=by
 rintro U s Z H Q I ⟨Jz,Sz,Hz,F,J,S,Y,Ω,R,r,Ω',hf,k⟩;refine jr6 ha he U s Z H Q I ?_;rcases MS.b_inv hf with ⟨x,Ω1,e1,hf⟩|⟨x,e1,rfl⟩
 ·refine⟨Jz,Sz,Hz,F,J,S,Y,Ω,R,.ok x,Ω1,e1,fun u ρ1 S1 H1 R1 l1 v1 r1=>?_⟩;obtain⟨z,hz,rfl,rfl⟩:=MS.o_inv hf;refine⟨z,?_,k ρ1 S1 H1 R1 l1 v1⟩
  cases x with
  | non=>cases hz;rw[rep_non.mp r1];rfl
  | bl y=>cases hz;rw[rep_bl.mp r1];rfl
  | int i=>cases hz;rw[rep_int.mp r1];rfl
  | str y =>
   by_cases hl:y.length<=sizeLine
   ·have e:truD (.str y)=some ((y.length:Int) != 0):=if_pos hl;rw[e] at hz;cases hz
    rw[rep_str.mp r1];exact⟨hl,rfl⟩
   ·have e:truD (.str y)=none:=if_neg hl;rw[e] at hz;cases hz
  | tup ds =>
   cases hz;obtain⟨q,xs,rfl,q2,q3⟩:=rep_tup.mp r1;exact .inr (.inl ⟨xs,jda jao q2,by rw[isE q3]⟩)
  | lst ds =>
   cases hz;obtain⟨q,xs,rfl,q2,q3⟩:=rep_lst.mp r1;exact .inl ⟨xs,jd3 jao q2,by rw[isE q3]⟩
  | ty n=>cases hz
  | obj n=>cases hz
 ·exact⟨Jz,Sz,Hz,F,J,S,Y,Ω,R,.error x,_,e1,trivial⟩
def jvz(ha:MT X O a ta):MT X O (.UnaryOp .Not a pos) (mNot ta):=by
 rintro U s Z H Q I ⟨Jz,Sz,Hz,F,J,S,Y,Ω,R,r,Ω',hf,k⟩;refine jA2 ha U s Z H Q I ?_;rcases MS.b_inv hf with ⟨x,Ω1,e1,hf⟩|⟨x,e1,rfl⟩
 ·cases hf;exact⟨Jz,Sz,Hz,F,J,S,Y,Ω,R,.ok x,_,e1,fun ρ1 S1 H1 R1 l1 v1=>k ρ1 S1 H1 R1 l1 v1⟩
 ·exact⟨Jz,Sz,Hz,F,J,S,Y,Ω,R,.error x,_,e1,trivial⟩
def MW.mt{f:DSt->MS Bool}(h:MW X O e f):MT X O e f:=PW.pt h
def jAu(ha:MT X O a ta):MW X O (.BoolOp .Or [a] pos) ta:=jA3 ha
def jGl{rest:List Expr}(ha:MT X O a ta)(hb:MW X O (.BoolOp .Or (b::rest) pos) tb):MW X O (.BoolOp .Or (a::b::rest) pos) (mOr ta tb):=by
 rintro wh U s Z H Q I ⟨Jz,Sz,Hz,F,J,S,Y,Ω,R,r,Ω',hf,k⟩;refine jHc ha hb wh U s Z H Q I ?_;rcases MS.b_inv hf with ⟨x,Ω1,e1,hf⟩|⟨x,e1,rfl⟩
 ·refine⟨Jz,Sz,Hz,F,J,S,Y,Ω,R,.ok x,Ω1,e1,fun ρ1 S1 H1 R1 l1 v1=>?_⟩
  cases x with
  | true=>cases hf;exact iteT (k ρ1 S1 H1 R1 l1 v1)
  | false =>
   refine iteF ⟨Jz,Sz,Hz,F,ρ1,S1,Y,Ω1,R1,r,Ω',hf,?_⟩
   cases r with
   | ok d=>exact fun ρ2 S2 H2 R2 l2 v2=>k ρ2 S2 H2 R2 (l1.trans l2) (v1.trans v2)
   | error y=>trivial
 ·exact⟨Jz,Sz,Hz,F,J,S,Y,Ω,R,.error x,_,e1,trivial⟩
end
structure RT(Jz:Rho)(Sz:qd)(Hz:Hp)(F:qd)(K:W.Frag)(mg:qa)(J:Rho)(S:qd)(H:Hp)(Ω:Sto):Prop where
 rho:RLe Jz J
 same:∀ b o,Sz b=false->Hz b=some o->H b=some o
 old:∀ b,Sz b=true->S b=true
 new:∀ b,S b=true->Sz b=true\/Hz b=none
 ff:∀ b,F b=true->S b=false
 sto:StoOk J S K mg H (hid H (un F S)) Ω
section
variable {Jz J:Rho}{Sz S F:qd}{Hz H H':Hp}{K:W.Frag}{mg:qa}{O O':List Nat}{Z Z':St}{Y Y':DSt}{Ω:Sto}
def jg1{Z:St}{O:List Nat}{F:qd}:∀ b,F b=true->fob F Z O b=true:=fun b h=>fob_t.mpr (.inl h)
def RM.rt(R:RM Jz Sz Hz F K mg O J S H Z Y Ω):RT Jz Sz Hz F K mg J S H Ω :=
 ⟨R.rho,R.same,R.old,R.new,R.ff,R.sto.mono (fun _ _=>rfl) (jfj jg1) (jxk R.sto.tv (jfj jg1))⟩
def RM.base_some(R:RM Jz Sz Hz F K mg O J S H Z Y Ω){b:Addr}{o:HO}(h:H b=some o)(hn:¬ ∃ i∈O,Z[i]? = some (some (.ref b))):hid H (fob nof Z O) b=some o :=
 hid_some.mpr ⟨by cases e:fob nof Z O b with
  | false=>rfl
  | true=>rcases fob_t.mp e with q|q;cases q;exact absurd q hn,h⟩
def RM.base_S(R:RM Jz Sz Hz F K mg O J S H Z Y Ω){b:Addr}(hb:S b=true):¬ ∃ i∈O,Z[i]? = some (some (.ref b)):=by
 rintro⟨i,hi,q⟩;obtain⟨a,xs,ds,q1,q2,q3,q4,q5⟩:=R.rs.own i hi;rw[q] at q2;cases q2
 rw[(un_f.mp q4.2).2] at hb;cases hb
def RM.base_0(R:RM Jz Sz Hz F K mg O J S H Z Y Ω){b:Addr}{o:HO}(hb:Hz b=some o):¬ ∃ i∈O,Z[i]? = some (some (.ref b)):=by
 rintro⟨i,hi,q⟩;rw[R.own0 i hi b q] at hb;cases hb
def RM.no_tup(R:RM Jz Sz Hz F K mg O J S H Z Y Ω)(s:Same (hid H (fob nof Z O)) H'){b:Addr}{xs:List V}(hb:un F S b=true):H' b≠some (.tup xs):=fun q=>by
 cases e:H b with
 | none=>exact R.rs.fin b hb e
 | some o =>
  have:=s b o (R.base_some e fun ⟨i,hi,y⟩=>by
   obtain⟨a,xs,ds,q1,q2,q3,q4,q5⟩:=R.rs.own i hi;rw[y] at q2;cases q2
   rw[q4.2] at hb;cases hb)
  rw[q] at this;cases this;have:=(hid_some.mp (R.sto.tv b xs e)).1;rw[jg1 b hb] at this;cases this
def RM.next(R:RM Jz Sz Hz F K mg O J S H Z Y Ω)(R':RS J K (hid H (fob nof Z O)) H' (un F S) O' Z' Y')(v:Same (hid H (fob (un F S) Z O)) (hid H' (fob (un F S) Z' O'))):RM Jz Sz Hz F K mg O' J S H' Z' Y' Ω:=by
 refine⟨R'.rebase,R.rho,fun b o h1 h2=>R'.same b o (R.base_some (R.same b o h1 h2) (R.base_0 h2)),R.old,R.new,fun i hi a q=>?_,R.ff,R.sto.mono (fun b hb=>?_) v fun b xs q=>hid_some.mpr ⟨?_,q⟩⟩
 ·obtain⟨a',xs,ds,q1,q2,q3,q4,q5⟩:=R'.own i hi;rw[q] at q2;cases q2
  have h0:=q4.1
  cases e:H a with
  | none=>exact R.fresh00 e
  | some o =>
   by_cases hn:∃ i∈O,Z[i]? = some (some (.ref a))
   ·obtain⟨j,hj,z⟩:=hn;exact R.own0 j hj a z
   ·rw[R.base_some e hn] at h0;cases h0
 ·cases e:H b with
  | none=>exact absurd e (R.sto.fin b hb)
  | some o=>exact R'.same b o (R.base_some e (R.base_S hb))
 ·cases z:fob (un F S) Z' O' b with
  | false=>rfl
  | true =>
   rcases fob_t.mp z with z|⟨i,hi,z⟩
   ·exact absurd q (R.no_tup R'.same z)
   ·obtain⟨a,xs,ds,q1,q2,q3,q4,q5⟩:=R'.own i hi;rw[z] at q2;cases q2
    rw[q3] at q;cases q
def RM.left(R:RM Jz Sz Hz F K mg O J S H Z Y Ω)(s:Same (hid H (fob nof Z O)) H'):RT Jz Sz Hz F K mg J S H' Ω:=by
 refine⟨R.rho,fun b o h1 h2=>s b o (R.base_some (R.same b o h1 h2) (R.base_0 h2)),R.old,R.new,R.ff,R.sto.mono (fun b hb=>?_) (fun b o q=>?_) fun b xs q=>hid_some.mpr ⟨?_,q⟩⟩
 ·cases e:H b with
  | none=>exact absurd e (R.sto.fin b hb)
  | some o=>exact s b o (R.base_some e (R.base_S hb))
 ·obtain⟨q1,q2⟩:=hid_some.mp q;refine hid_some.mpr ⟨?_,s b o (R.base_some q2 fun hn=>?_)⟩
  ·cases e:un F S b with
   | false=>rfl
   | true=>rw[jg1 b e] at q1;cases q1
  ·rw[fob_t.mpr (.inr hn)] at q1;cases q1
 ·cases z:un F S b with
  | false=>rfl
  | true=>exact absurd q (R.no_tup s z)
end
def OkE(K:W.Frag)(mg:qa)(O' B:List Nat)(Jz:Rho)(Sz:qd)(Hz:Hp)(F:qd)(J:Rho)(Hv:Hp)(Dn:Ends):Except XD Out->Sto->Prop
 | .ok (.nx Y'),Ω'=>∀ J' S' Z' H',RM Jz Sz Hz F K mg O' J' S' H' Z' Y' Ω'->RLe J J'->Same Hv (hid H' (fob (un F S') Z' O'))->Dn.nx Z' H'
 | .ok (.rt d),Ω'=>∀ v J' S' H',RT Jz Sz Hz F K mg J' S' H' Ω'->Rep J' K (hid H' (un F S')) d v->Dn.rt v H'
 | .ok (.bk Y'),Ω'=>∀ J' S' Z' H',RM Jz Sz Hz F K mg B J' S' H' Z' Y' Ω'->RLe J J'->Same Hv (hid H' (fob (un F S') Z' B))->Dn.bk Z' H'
 | .ok (.ct Y'),Ω'=>∀ J' S' Z' H',RM Jz Sz Hz F K mg B J' S' H' Z' Y' Ω'->RLe J J'->Same Hv (hid H' (fob (un F S') Z' B))->Dn.ct Z' H'
 | .error _,_=>True
def OkE.back{K:W.Frag}{mg:qa}{O' B:List Nat}{Jz J J':Rho}{Sz:qd}{Hz:Hp}{F:qd}{Hv Hv':Hp}{Dn:Ends}{r:Except XD Out}{Ω':Sto}(l:RLe J J')(e:Same Hv Hv')(h:OkE K mg O' B Jz Sz Hz F J Hv Dn r Ω') :
  OkE K mg O' B Jz Sz Hz F J' Hv' Dn r Ω':=by
 cases r with
 | error x=>trivial
 | ok o =>
  cases o with
  | nx Y'=>exact fun ρ1 S1 Z1 H1 R l1 v1=>h ρ1 S1 Z1 H1 R (l.trans l1) (e.trans v1)
  | bk Y'=>exact fun ρ1 S1 Z1 H1 R l1 v1=>h ρ1 S1 Z1 H1 R (l.trans l1) (e.trans v1)
  | ct Y'=>exact fun ρ1 S1 Z1 H1 R l1 v1=>h ρ1 S1 Z1 H1 R (l.trans l1) (e.trans v1)
  | rt d=>exact h
inductive sE(K:W.Frag)(mg:qa)(O O' B:List Nat)(g:DSt->MS Out)(Dn:Ends)(Z:St)(H:Hp):Prop
 | mk (Jz:Rho) (Sz:qd) (Hz:Hp) (F:qd) (J:Rho) (S:qd) (Y:DSt) (Ω:Sto) (R:RM Jz Sz Hz F K mg O J S H Z Y Ω) (r:Except XD Out) (Ω':Sto) (hf:g Y Ω=some (r,Ω')) (k:OkE K mg O' B Jz Sz Hz F J (hid H (fob (un F S) Z O)) Dn r Ω')
def MSt(X:Cx)(O O' B:List Nat)(st:Stmt)(g:DSt->MS Out):Prop:=PS X st (sE X.K X.mg O O' B g)
def MSs(X:Cx)(O O' B:List Nat)(st:List Stmt)(g:DSt->MS Out):Prop:=PSs X st (sE X.K X.mg O O' B g)
def eNx:DSt->MS Out:=fun Y=>MS.p (.nx Y)
def eSeq(g1 g2:DSt->MS Out):DSt->MS Out:=fun Y=>(g1 Y).b fun o=>match o with
 | .nx Y'=>g2 Y'
 | o=>MS.p o
def eSet(i:Nat)(f:DSt->MS D):DSt->MS Out:=fun Y=>(f Y).b fun d=>MS.p (.nx (Y.set i (some d)))
def eRet(f:DSt->MS D):DSt->MS Out:=fun Y=>(f Y).b fun d=>MS.p (.rt d)
def juu(f:DSt->MS D):DSt->MS Out:=fun Y=>(f Y).b fun _=>MS.p (.nx Y)
def eIf(t:DSt->MS Bool)(g1 g2:DSt->MS Out):DSt->MS Out:=fun Y=>(t Y).b fun b=>if b=true then g1 Y else g2 Y
def eApp(i:Nat)(f:DSt->MS D):DSt->MS Out:=fun Y=>(f Y).b fun d=>match (Y[i]?).join with
 | some (.lst ds)=>if ds.length<sizeLine then MS.p (.nx (Y.set i (some (.lst (ds++[d]))))) else fun _=>none
 | _=>fun _=>none
def ePop(i j:Nat):DSt->MS Out:=fun Y=>match (Y[j]?).join with
 | some (.lst ds)=>match ds[ds.length-1]? with
  | some d=>MS.p (.nx ((Y.set j (some (.lst ds.dropLast))).set i (some d)))
  | none=>fun _=>none
 | _=>fun _=>none
def putO(cs:List Str)(f:Str)(x d:D):MS Unit:=fun Ω=>match x with
 | .obj i=>match Ω[i]? with
  | some (.ins c fs)=>if (cs.contains c&&decide (fs.length<1000))=true then some (.ok (),Ω.set i (.ins c (putD f d fs))) else none
  | _=>none
 | _=>none
def ePut(cs:List Str)(f:Str)(fo fv:DSt->MS D):DSt->MS Out:=fun Y=>(fv Y).b fun d=>(fo Y).b fun x=>(putO cs f x d).b fun _=>MS.p (.nx Y)
def forE(g:DSt->MS Out)(tg:D->DSt->Option DSt):List D->DSt->MS Out
 | [],Y=>MS.p (.nx Y)
 | d::ds,Y=>match tg d Y with
  | none=>fun _=>none
  | some Y1=>(g Y1).b fun o=>match o with
   | .nx Y'=>forE g tg ds Y'
   | .ct Y'=>forE g tg ds Y'
   | .bk Y'=>MS.p (.nx Y')
   | .rt v=>MS.p (.rt v)
def eFor(fi:DSt->MS (List D))(tg:D->DSt->Option DSt)(g:DSt->MS Out):DSt->MS Out:=fun Y=>(fi Y).b fun ds=>forE g tg ds Y
section
variable {X:Cx}{O O' O'' B:List Nat}{c e:Expr}{es:List Expr}{fa:DSt->MS D}{fl:DSt->MS (List D)}{pos:Pos}{st:Stmt}{rest:List Stmt}{g g1 g2:DSt->MS Out}{tc:DSt->MS Bool}
def jcm{h:DSt->M Out}(hd:DS X O O' B E0 st h):MSt X O O' B st (lF h):=by
 rintro U s Z H Dn I ⟨Jz,Sz,Hz,F,J,S,Y,Ω,R,r,Ω',hf,k⟩;obtain⟨hg,rfl⟩:=MS.l_inv hf;refine hd U s Z H Dn I ⟨J,_,un F S,Y,r,R.rs,hg,?_⟩
 cases r with
 | error x=>exact fun c dx H' _ z=>z.elim
 | ok o =>
  cases o with
  | nx Y'=>exact fun Z' H' v R'=>k J S Z' H' (R.next R' v) (RLe.refl _) v
  | bk Y'=>exact fun Z' H' v R'=>k J S Z' H' (R.next R' v) (RLe.refl _) v
  | ct Y'=>exact fun Z' H' v R'=>k J S Z' H' (R.next R' v) (RLe.refl _) v
  | rt d=>exact fun v H' s' rv=>k v J S H' (R.left s') rv
def jk1:MSs X O O B [] eNx:=by
 rintro U s Z H Dn I ⟨Jz,Sz,Hz,F,J,S,Y,Ω,R,r,Ω',hf,k⟩;cases hf;exact jwo U s Z H Dn I (k J S Z H R (RLe.refl _) (Same.refl _))
def ja0(h1:MSt X O O' B st g1)(h2:MSs X O' O'' B rest g2):MSs X O O'' B (st::rest) (eSeq g1 g2):=by
 rintro U s Z H Dn I ⟨Jz,Sz,Hz,F,J,S,Y,Ω,R,r,Ω',hf,k⟩;refine jn1 h1 h2 U s Z H Dn I ?_;rcases MS.b_inv hf with ⟨o,Ω1,e1,hf⟩|⟨x,e1,rfl⟩
 ·refine⟨Jz,Sz,Hz,F,J,S,Y,Ω,R,.ok o,Ω1,e1,?_⟩
  cases o with
  | nx Y'=>exact fun ρ1 S1 Z1 H1 R1 l1 v1=>⟨Jz,Sz,Hz,F,ρ1,S1,Y',Ω1,R1,r,Ω',hf,k.back l1 v1⟩
  | rt d=>cases hf;exact k
  | bk Y'=>cases hf;exact k
  | ct Y'=>cases hf;exact k
 ·exact⟨Jz,Sz,Hz,F,J,S,Y,Ω,R,.error x,_,e1,trivial⟩
def jb0(h1:MSt X O O' B st g):MSs X O O' B [st] g:=fun U s Z H Dn I h=>jn2 h1 U s Z H Dn I h
def jqh{sts:List Stmt}(hO:∀ i∈O',i∈O)(h:MSs X O' O'' B sts g):MSs X O O'' B sts g:=by
 rintro U s Z H Dn I ⟨Jz,Sz,Hz,F,J,S,Y,Ω,R,r,Ω',hf,k⟩;exact h U s Z H Dn I ⟨Jz,Sz,Hz,F,J,S,Y,Ω,R.thaw hO,r,Ω',hf,k.back (RLe.refl _) (jfj (jvh hO))⟩
def jGf{i:Nat}{x:Str}{pos' pos2:Pos}(hN:X.N.Nodup)(h:MA X O es fl)(ho:O.contains i=false:=by rfl)(hi:X.N[i]? = some x:=by rfl)(hx:Loc X.env.scope x:=by first|exact Or.inl rfl|exact Or.inr rfl)(hs:swapsWith (.List es pos2) (some (.Name x pos')) pos.line X.env=pure false:=by rfl)
  (hf:X.fn x=true\/X.env.scope.names.lookup x=some .local:=by first|exact .inl rfl|exact .inr rfl|assumption):MSt X O (i::O) B (.Assign [.Name x pos'] (.List es pos2) pos) (eSet i (mL jaw fl)):=by
 rintro U s Z H Dn I ⟨Jz,Sz,Hz,F,J,S,Y,Ω,R,r,Ω',hg,k⟩;have ho':i∉O:=fun z=>by rw[zbc.mpr z] at ho;cases ho
 have hl:i<Y.length:=by rw[<- R.rs.len,I.len];exact (zbb.mp hi).1
 refine jpg hN hi hx (jr3 h) hs hf U s Z H Dn I ?_;rcases MS.b_inv hg with ⟨d,Ω1,e1,hg⟩|⟨x,e1,rfl⟩
 ·cases hg;rcases MS.b_inv e1 with ⟨ds,Ω2,e1,hd⟩|⟨x,e1,z⟩
  ·refine⟨Jz,Sz,Hz,F,J,S,Y,Ω,R,.ok ds,_,e1,fun vs ρ1 S1 H1 R1 l1 v1 r1=>?_⟩;obtain⟨d',hd',z,w⟩:=MS.o_inv hd;cases z;cases w;unfold jaw at hd'
   split at hd'
   ·rename_i hz;cases hd';refine⟨by rw[r1.length];exact hz,fun p hp=>?_⟩;obtain⟨t1,t2⟩:=R1.take ho' hl hp r1;exact k ρ1 S1 _ _ t1 l1 (v1.trans t2)
   ·cases hd'
  ·cases z
 ·rcases MS.b_inv e1 with ⟨ds,Ω2,e1,hd⟩|⟨y,e1,z⟩
  ·obtain⟨_,_,z,_⟩:=MS.o_inv hd;cases z
  ·cases z;exact⟨Jz,Sz,Hz,F,J,S,Y,Ω,R,.error _,_,e1,trivial⟩
def jmk(he:ME X O e fa):MSt X O O' B (.Return (some e) pos) (eRet fa):=by
 rintro U s Z H Dn I ⟨Jz,Sz,Hz,F,J,S,Y,Ω,R,r,Ω',hg,k⟩;refine jA1 he U s Z H Dn I ?_;rcases MS.b_inv hg with ⟨d,Ω1,e1,hg⟩|⟨x,e1,rfl⟩
 ·cases hg;exact⟨Jz,Sz,Hz,F,J,S,Y,Ω,R,.ok d,_,e1,fun v ρ1 S1 H1 R1 l1 v1 r1=>k v ρ1 S1 H1 R1.rt (r1.mono (jfj jg1))⟩
 ·exact⟨Jz,Sz,Hz,F,J,S,Y,Ω,R,.error x,_,e1,trivial⟩
def jqg(he:ME X O e fa)(hs:swapsWith e none pos.line X.env=pure false:=by rfl):MSt X O O B (.Expr e pos) (juu fa):=by
 rintro U s Z H Dn I ⟨Jz,Sz,Hz,F,J,S,Y,Ω,R,r,Ω',hg,k⟩;refine jqn he hs U s Z H Dn I ?_;rcases MS.b_inv hg with ⟨d,Ω1,e1,hg⟩|⟨x,e1,rfl⟩
 ·cases hg;exact⟨Jz,Sz,Hz,F,J,S,Y,Ω,R,.ok d,_,e1,fun v ρ1 S1 H1 R1 l1 v1 r1=>k ρ1 S1 Z H1 R1 l1 v1⟩
 ·exact⟨Jz,Sz,Hz,F,J,S,Y,Ω,R,.error x,_,e1,trivial⟩
def jnq{s1 s2:List Stmt}(hc:MT X O c tc)(h1:MSs X O O' B s1 g1)(h2:MSs X O O' B s2 g2):MSt X O O' B (.If c s1 s2 pos) (eIf tc g1 g2):=by
 rintro U s Z H Dn I ⟨Jz,Sz,Hz,F,J,S,Y,Ω,R,r,Ω',hg,k⟩;refine jDu hc h1 h2 U s Z H Dn I ?_;rcases MS.b_inv hg with ⟨z,Ω1,e1,hg⟩|⟨x,e1,rfl⟩
 ·refine⟨Jz,Sz,Hz,F,J,S,Y,Ω,R,.ok z,_,e1,fun ρ1 S1 H1 R1 l1 v1=>?_⟩
  cases z with
  | true=>exact iteT ⟨Jz,Sz,Hz,F,ρ1,S1,Y,Ω1,R1,r,Ω',hg,k.back l1 v1⟩
  | false=>exact iteF ⟨Jz,Sz,Hz,F,ρ1,S1,Y,Ω1,R1,r,Ω',hg,k.back l1 v1⟩
 ·exact⟨Jz,Sz,Hz,F,J,S,Y,Ω,R,.error x,_,e1,trivial⟩
def jGd{i:Nat}{x:Str}{p1 p2 p3:Pos}(ho:O.contains i=true)(he:ME X O e fa)(hi:X.N[i]? = some x:=by rfl)(hv:Vis X.env.scope x:=by first|exact Or.inl rfl|exact Or.inr (Or.inl rfl)|exact Or.inr (Or.inr rfl))
  (hd:(x == ("__debug__":Str))=false:=by decide) (hcd:(x == ("__classdict__":Str))=false:=by decide) (hbase:attributeBase (.Name x p1) "append" X.env (eval (.Name x p1) X.env)=eval (.Name x p1) X.env:=by rfl)
  (hfew:((backTo p3 (starEach [e] X.env)).all (fun x=>!x.1)&&(backToKw p3 (keywordEach [] X.env)).all (fun x=>x.1.isSome)
   && decide ([e].length+([]:List Keyword).length+(if ([]:List Keyword).isEmpty then 0 else 1)<30))=true:=by rfl)
  (hline:(p2.endLine == p3.line)=true:=by rfl) (hs:starEach [e] X.env=[(false,eval e X.env)]:=by rfl) (hsw:swapsWith (.Call (.Attribute (.Name x p1) "append" p2) [e] [] p3) none pos.line X.env=pure false:=by rfl) :
  MSt X O O B (.Expr (.Call (.Attribute (.Name x p1) "append" p2) [e] [] p3) pos) (eApp i fa):=by
 rintro U s Z H Dn I ⟨Jz,Sz,Hz,F,J,S,Y,Ω,R,r,Ω',hg,k⟩;have ho':i∈O:=zbc.mp ho;obtain⟨l,xs0,ds0,q1,q2,q3,q4,q5⟩:=R.rs.own i ho';refine jqn (jGw PySem.F.plainAttrs_list PySem.F.slot_list_append PySem.F.type_list_append jir (jmm hi hv hd hcd) (jgc he jml hs) hbase hfew hline hs rfl) hsw U s Z H Dn I ?_;refine⟨.ref l,q2,.inl ⟨rfl,_,SqL.of q3⟩,?_⟩;rcases MS.b_inv hg with ⟨d,Ω1,e1,hg⟩|⟨x,e1,rfl⟩
 ·refine⟨Jz,Sz,Hz,F,J,S,Y,Ω,R,.ok d,_,e1,fun v ρ1 S1 H1 R1 l1 v1 r1=>?_⟩;have hj:(Y[i]?).join=some (.lst ds0):=by rw[q1];rfl
  rw[hj] at hg;dsimp only at hg
  split at hg
  ·rename_i hz;cases hg;obtain⟨l',xs,ds,p1,p2,p3,p4,p5⟩:=R1.rs.own i ho';rw[q2] at p2;cases p2
   rw[q1] at p1;cases p1
   refine⟨l,xs,v,rfl,rfl,p3,by rw[p5.length];exact hz,?_⟩;refine k ρ1 S1 Z _ (R1.write ho' q2 (p5.append (Reps.cons r1 Reps.nil))) l1 ?_;rw[je2 (fob_t.mpr (.inr ⟨i,ho',q2⟩))];exact v1
  ·cases hg
 ·exact⟨Jz,Sz,Hz,F,J,S,Y,Ω,R,.error x,_,e1,trivial⟩
end
theorem Reps.dropLast{J:Rho}{K:W.Frag}{H:Hp}:∀ {ds:List D} {vs:List V},Reps J K H ds vs->Reps J K H ds.dropLast vs.dropLast
 | [],_,h=>by rw[reps_nil.mp h];exact Reps.nil
 | [d],_,h=>by
  obtain⟨v,r,rfl,_,t⟩:=reps_cons.mp h;rw[reps_nil.mp t];exact Reps.nil
 | d::e::ds,_,h=>by
  obtain⟨v,r,rfl,q,t⟩:=reps_cons.mp h;obtain⟨w,r2,rfl,q2,t2⟩:=reps_cons.mp t;exact Reps.cons q (Reps.dropLast (Reps.cons q2 t2))
section
variable {Jz J J':Rho}{Sz S S' F:qd}{Hz H H1 H':Hp}{K:W.Frag}{mg:qa}{O:List Nat}{Z:St}{Y:DSt}{Ω Ω':Sto}
def RS.updF{a:Addr}{o:HO}(R:RS J K H1 H F O Z Y)(h:F a=true):RS J K (hid (upd H a o) (fob nof Z O)) (upd H a o) F O Z Y:=by
 have hh:hid (upd H a o) (fob F Z O)=hid H (fob F Z O):=je2 (jg1 a h);refine⟨R.len,jao,fun b hb=>jg9 (R.fin b hb),fun i d hd hi=>by rw[hh];exact R.val i d hd hi,fun i hi=>?_,R.nd⟩;obtain⟨l,xs,ds,q1,q2,q3,q4,q5⟩:=R.own i hi;have hl:l≠a:=by rintro rfl;rw[q4.2] at h;cases h
 refine⟨l,xs,ds,q1,q2,by rw[jai hl];exact q3,⟨?_,q4.2⟩,by rw[hh];exact q5⟩;unfold hid;rw[if_pos (fob_t.mpr (.inr ⟨i,hi,q2⟩))]
def RM.put(R:RM Jz Sz Hz F K mg O J S H Z Y Ω){i:Nat}{c f:Str}{fs:List (Str×D)}{a C dx:Addr}{vfs:List (Str×V)}{d:D}{v:V}(hi:Ω[i]? = some (.ins c fs))(ha:J i=some a)(hS:S a=true)(hC:mg c=some (.ref C))(hH:H a=some (.ins C dx vfs))
  (hdx:H dx=some (.own a)) (hSd:S dx=true) (hfl:Flds J K (hid H (fob (un F S) Z O)) fs vfs) (hr:Rep J K (hid H (fob (un F S) Z O)) d v) :
  RM Jz Sz Hz F K mg O J S (upd H a (.ins C dx (putF f v vfs))) Z Y (Ω.set i (.ins c (putD f d fs)))/\hid (upd H a (.ins C dx (putF f v vfs))) (fob (un F S) Z O)=hid H (fob (un F S) Z O):=by
 have hF:un F S a=true:=un_t.mpr (.inr hS);have hh:hid (upd H a (.ins C dx (putF f v vfs))) (fob (un F S) Z O)=hid H (fob (un F S) Z O):=je2 (jg1 a hF);have il:i<Ω.length:=(zbb.mp hi).1;refine⟨⟨R.rs.updF hF,R.rho,fun b o h1 h2=>?_,R.old,R.new,R.own0,R.ff,?_⟩,hh⟩
 ·have hb:b≠a:=by
   rintro rfl;rcases R.new b hS with q|q
   ·rw[q] at h1;cases h1
   ·rw[q] at h2;cases h2
  rw[jai hb];exact R.same b o h1 h2
 ·rw[hh];refine⟨fun j so hj=>?_,R.sto.inj,fun j hj=>R.sto.top j (by simpa using hj),fun b hb=>jg9 (R.sto.fin b hb),jlk R.sto.tv fun _ z=>nomatch z⟩
  by_cases hji:j=i
  ·subst hji;rw[zcz il] at hj;cases hj;have nd:dx≠a:=jC9 hdx hH (fun z=>nomatch z);exact⟨a,ha,hS,C,dx,_,hC,jam,by rw[jai nd];exact hdx,hSd,hfl.put hr⟩
  ·rw[zbw (Ne.symm hji)] at hj;obtain⟨a',q1,q2,q3⟩:=R.sto.ats j so hj;have ne:a'≠a:=by
    rintro rfl;exact hji (R.sto.inj j i a' q1 ha)
   refine⟨a',q1,q2,?_⟩
   cases so with
   | ins c' fs' =>
    obtain⟨C',dx',vfs',p1,p2,p3,p4,p5⟩:=q3;have nd:dx'≠a:=jC9 p3 hH (fun z=>nomatch z);exact⟨C',dx',vfs',p1,by rw[jai ne];exact p2,by rw[jai nd];exact p3,p4,p5⟩
   | lst ds =>
    obtain⟨xs,p1,p2⟩:=q3;exact⟨xs,by rw[jai ne];exact p1,p2⟩
   | tab x l c q =>
    obtain⟨ps,p1,p2,p3⟩:=q3;exact⟨ps,by rw[jai ne];exact p1,p2,p3⟩
   | dct _ =>
    obtain⟨vk,p1,p2,p3⟩:=q3;exact⟨vk,by rw[jai ne];exact p1,p2,p3⟩
   | exc c j=>exact ExcOk.mono (fun _ _ z=>z) (jai ne) q3
   | xd fs =>
    obtain⟨vfs,p1,p2⟩:=q3;exact⟨vfs,by rw[jai ne];exact p1,p2⟩
def jfu:un (fob F Z O) S=fob (un F S) Z O:=by
 funext b
 unfold un fob;simp only;cases F b<;>cases S b<;>cases (ownA Z O).contains b<;>rfl
def RM.call(R:RM Jz Sz Hz F K mg O J S H Z Y Ω)(l:RLe J J')(sm:∀ b o,S b=false->H b=some o->H' b=some o)(old:∀ b,S b=true->S' b=true)(new:∀ b,S' b=true->S b=true\/H b=none)
  (ff:∀ b,fob F Z O b=true->S' b=false) (sto:StoOk J' S' K mg H' (hid H' (un (fob F Z O) S')) Ω') :
  RM Jz Sz Hz F K mg O J' S' H' Z Y Ω'/\Same (hid H (fob (un F S) Z O)) (hid H' (fob (un F S') Z O)):=by
 have keepS:∀ b o,S b=false->H b=some o->S' b=false:=fun b o h1 h2=>by
  cases e:S' b with
  | false=>rfl
  | true =>
   rcases new b e with q|q
   ·rw[q] at h1;cases h1
   ·rw[q] at h2;cases h2
 have vis:Same (hid H (fob (un F S) Z O)) (hid H' (fob (un F S') Z O)):=fun b o q=>by
  obtain⟨q1,q2⟩:=hid_some.mp q;have hu:un F S b=false:=by
   cases e:un F S b with
   | false=>rfl
   | true=>rw[jg1 b e] at q1;cases q1
  obtain⟨h1,h2⟩:=un_f.mp hu;refine hid_some.mpr ⟨?_,sm b o h2 q2⟩
  cases e:fob (un F S') Z O b with
  | false=>rfl
  | true =>
   rcases fob_t.mp e with z|z
   ·rcases un_t.mp z with z|z
    ·rw[h1] at z;cases z
    ·rw[keepS b o h2 q2] at z;cases z
   ·rw[fob_t.mpr (.inr z)] at q1;cases q1
 have rs:RS J' K (hid H' (fob nof Z O)) H' (un F S') O Z Y:=by
  refine⟨R.rs.len,jao,fun b hb=>?_,fun i d hd hi=>?_,fun i hi=>?_,R.rs.nd⟩
  ·rcases un_t.mp hb with q|q
   ·have h1:=R.rs.fin b (un_t.mpr (.inl q));intro z
    cases e:H b with
    | none=>exact h1 e
    | some o=>rw[sm b o (R.ff b q) e] at z;cases z
   ·exact sto.fin b q
  ·obtain⟨v,q1,q2⟩:=R.rs.val i d hd hi;exact⟨v,q1,(q2.rho l).mono vis⟩
  ·obtain⟨a,xs,ds,q1,q2,q3,q4,q5⟩:=R.rs.own i hi;have hS:=(un_f.mp q4.2).2;refine⟨a,xs,ds,q1,q2,sm a _ hS q3,⟨?_,un_f.mpr ⟨(un_f.mp q4.2).1,keepS a _ hS q3⟩⟩,(q5.rho l).mono vis⟩;unfold hid;rw[if_pos (fob_t.mpr (.inr ⟨i,hi,q2⟩))]
 refine⟨⟨rs,R.rho.trans l,fun b o h1 h2=>?_,fun b hb=>old b (R.old b hb),fun b hb=>?_,R.own0,fun b hb=>ff b (fob_t.mpr (.inl hb)),by rw[jfu] at sto;exact sto⟩,vis⟩
 ·have h3:=R.same b o h1 h2;refine sm b o ?_ h3
  cases e:S b with
  | false=>rfl
  | true =>
   rcases R.new b e with q|q
   ·rw[q] at h1;cases h1
   ·rw[q] at h2;cases h2
 ·rcases new b hb with q|q
  ·exact R.new b q
  ·exact .inr (R.fresh00 q)
def addR(J:Rho)(n:Nat)(x:Addr):Rho:=fun i=>if i=n then some x else J i
def addS(S:qd)(x dx:Addr):qd:=fun b=>S b || b == x || b == dx
def addS_t{S:qd}{x dx b:Addr}:addS S x dx b=true↔S b=true\/b=x\/b=dx:=by
 unfold addS;simp only[Bool.or_eq_true,beq_iff_eq,or_assoc]
def RM.make(R:RM Jz Sz Hz F K mg O J S H Z Y Ω){c:Str}{C x dx:Addr}(hC:mg c=some (.ref C))(hx:H x=none)(hdx:H dx=none)(ne:dx≠x) :
  RM Jz Sz Hz F K mg O (addR J Ω.length x) (addS S x dx) (upd (upd H dx (.own x)) x (.ins C dx [])) Z Y (Ω++[.ins c []])/\RLe J (addR J Ω.length x) /\
   Same (hid H (fob (un F S) Z O)) (hid (upd (upd H dx (.own x)) x (.ins C dx [])) (fob (un F (addS S x dx)) Z O)):=by
 have top:=R.sto.top Ω.length (zac _);have l:RLe J (addR J Ω.length x):=fun i a h=>by
  unfold addR
  by_cases e:i=Ω.length
  ·subst e;rw[top] at h;cases h
  ·rw[if_neg e];exact h
 have sm:Same H (upd (upd H dx (.own x)) x (.ins C dx [])):=(ja7 hdx).trans (ja7 (by rw[jai ne.symm];exact hx));have old:∀ b,S b=true->addS S x dx b=true:=fun b h=>addS_t.mpr (.inl h)
 have new:∀ b,addS S x dx b=true->S b=true\/H b=none:=fun b h=>by
  rcases addS_t.mp h with q|rfl|rfl
  ·exact .inl q
  ·exact .inr hx
  ·exact .inr hdx
 have ff:∀ b,fob F Z O b=true->addS S x dx b=false:=fun b h=>by
  have h2:fob (un F S) Z O b=true:=by rw[<- jfu];exact un_t.mpr (.inl h)
  cases e:addS S x dx b with
  | false=>rfl
  | true =>
   rcases addS_t.mp e with q|rfl|rfl
   ·rcases fob_t.mp h with z|z
    ·rw[R.ff b z] at q;cases q
    ·exact absurd z (R.base_S q)
   ·rw[R.fresh hx] at h2;cases h2
   ·rw[R.fresh hdx] at h2;cases h2
 have keep:∀ b,S b=true->(upd (upd H dx (.own x)) x (.ins C dx [])) b=H b:=R.at_store sm;have vis0:Same (hid H (fob (un F S) Z O)) (hid (upd (upd H dx (.own x)) x (.ins C dx [])) (un (fob F Z O) (addS S x dx))):=fun b o q=>by
  obtain⟨q1,q2⟩:=hid_some.mp q;refine hid_some.mpr ⟨?_,sm b o q2⟩
  cases e:un (fob F Z O) (addS S x dx) b with
  | false=>rfl
  | true =>
   rcases un_t.mp e with z|z
   ·have h2:fob (un F S) Z O b=true:=by rw[<- jfu];exact un_t.mpr (.inl z)
    rw[h2] at q1;cases q1
   ·rcases new b z with z|z
    ·have h2:fob (un F S) Z O b=true:=jg1 b (un_t.mpr (.inr z));rw[h2] at q1;cases q1
    ·rw[z] at q2;cases q2
 have sto:StoOk (addR J Ω.length x) (addS S x dx) K mg (upd (upd H dx (.own x)) x (.ins C dx [])) (hid (upd (upd H dx (.own x)) x (.ins C dx [])) (un (fob F Z O) (addS S x dx))) (Ω++[.ins c []]):=by
  refine⟨fun i so hi=>?_,fun i j a h1 h2=>?_,fun i hi=>?_,fun b hb=>?_,jxk (jlk (jlk R.sto.tv fun _ z=>nomatch z) fun _ z=>nomatch z) vis0⟩
  ·by_cases h:i<Ω.length
   ·rw[List.getElem?_append_left h] at hi;obtain⟨a,q1,q2,q3⟩:=R.sto.ats i so hi;refine⟨a,l i a q1,old a q2,?_⟩
    cases so with
    | ins c' fs' =>
     obtain⟨C',dx',vfs',p1,p2,p3,p4,p5⟩:=q3;exact⟨C',dx',vfs',p1,by rw[keep a q2];exact p2,by rw[keep dx' p4];exact p3,old _ p4,p5.mono l vis0⟩
    | lst ds =>
     obtain⟨xs,p1,p2⟩:=q3;exact⟨xs,by rw[keep a q2];exact p1,(p2.rho l).mono vis0⟩
    | tab _ _ _ _ =>
     obtain⟨ps,p1,p2,p3⟩:=q3;exact⟨ps,by rw[keep a q2];exact p1,p2,p3.mono vis0⟩
    | dct _ =>
     obtain⟨vk,p1,p2,p3⟩:=q3;exact⟨vk,by rw[keep a q2];exact p1,p2,(p3.rho l).mono vis0⟩
    | exc c j=>exact ExcOk.mono l (keep a q2) q3
    | xd fs =>
     obtain⟨vfs,p1,p2⟩:=q3;exact⟨vfs,by rw[keep a q2];exact p1,p2.mono l vis0⟩
   ·have e:i=Ω.length:=by
     have:=(zbb.mp hi).1;simp at this;omega
    subst e;rw[List.getElem?_append_right (zac _),Nat.sub_self] at hi;cases hi;exact⟨x,by unfold addR;rw[if_pos rfl],addS_t.mpr (.inr (.inl rfl)),C,dx,[],hC,jam,by rw[jai ne,jam],addS_t.mpr (.inr (.inr rfl)),rfl⟩
  ·have fresh:∀ i a,i≠Ω.length->J i=some a->a≠x:=fun i a hi h z=>by
    subst z;have il:i<Ω.length:=by
     by_cases q:i<Ω.length
     ·exact q
     ·rw[R.sto.top i (by omega)] at h;cases h
    obtain⟨a',q1,q2,_⟩:=R.sto.ats i _ (zax il);rw[h] at q1;cases q1
    exact R.sto.fin a q2 hx
   unfold addR at h1 h2
   by_cases e1:i=Ω.length
   ·by_cases e2:j=Ω.length
    ·rw[e1,e2]
    ·rw[if_pos e1] at h1;rw[if_neg e2] at h2
     cases h1;exact absurd rfl (fresh j _ e2 h2)
   ·by_cases e2:j=Ω.length
    ·rw[if_neg e1] at h1;rw[if_pos e2] at h2
     cases h2;exact absurd rfl (fresh i _ e1 h1)
    ·rw[if_neg e1] at h1;rw[if_neg e2] at h2
     exact R.sto.inj i j a h1 h2
  ·rw[zcc,List.length_singleton] at hi;unfold addR;rw[if_neg (by omega)];exact R.sto.top i (by omega)
  ·rcases addS_t.mp hb with q|rfl|rfl
   ·rw[keep b q];exact R.sto.fin b q
   ·rw[jam];exact fun z=>nomatch z
   ·rw[jai ne,jam];exact fun z=>nomatch z
 obtain⟨t1,t2⟩:=R.call l (fun b o _ h=>sm b o h) old new ff sto;exact⟨t1,l,t2⟩
end
inductive spE(K:W.Frag)(mg:qa)(n:Nat)(m:List D->MS D)(vs:List V)(H:Hp)(Q:VK)(E:XK):Prop
 | mk (hn:vs.length=n) (J:Rho) (S F:qd) (ds:List D) (Ω:Sto) (hF:∀ b,F b=true->H b≠none) (hS:∀ b,F b=true->S b=false) (hr:Reps J K (hid H (un F S)) ds vs) (hs:StoOk J S K mg H (hid H (un F S)) Ω) (r:Except XD D) (Ω':Sto) (hf:m ds Ω=some (r,Ω')) (k:match (generalizing:=false) r with
  | .ok d=>∀ v J' S' H',RLe J J'->(∀ b o,S b=false->H b=some o->H' b=some o)->(∀ b,S b=true->S' b=true)->(∀ b,S' b=true->S b=true\/H b=none)->(∀ b,F b=true->S' b=false)->StoOk J' S' K mg H' (hid H' (un F S')) Ω'->Rep J' K (hid H' (un F S')) d v->Q v H'
  | .error _=>True)
inductive MetX(P:Program)(w:World)(K:W.Frag)(mg:qa)(base:Heap)(k:Nat)(c x:Str)(n:Nat)(sp:Sp):Prop
 | mk (C f:Addr) (fd:FuncData) (ps:List Str) (h1:ps.length=n) (h2:mg c=some (.ref C)) (h3:Cls K C) (h4:Meth K C x f) (h5:Binds K fd ps []) (h6:FnOk P w K mg base CX0 k f fd ps sp)
inductive IniX(P:Program)(w:World)(K:W.Frag)(mg:qa)(base:Heap)(k:Nat)(c:Str)(n:Nat)(sp:Sp):Prop
 | mk (C f:Addr) (fd:FuncData) (ps:List Str) (h1:ps.length=n) (h2:mg c=some (.ref C)) (h3:Mk K C f) (h4:Binds K fd ps []) (h5:FnOk P w K mg base CX0 k f fd ps sp)
structure CalE(P:Program)(w:World)(K:W.Frag)(mg:qa)(base:Heap)(k:Nat)(x:Str)(n:Nat)(m:List D->MS D):Prop where
 ex:CalX P w K mg base k x n (spE K mg n m)
 ar:∀ ds Ω r,m ds Ω=some r->ds.length=n
structure MetE(P:Program)(w:World)(K:W.Frag)(mg:qa)(base:Heap)(k:Nat)(c x:Str)(n:Nat)(m:List D->MS D):Prop where
 ex:MetX P w K mg base k c x n (spE K mg n m)
 ar:∀ ds Ω r,m ds Ω=some r->ds.length=n
structure IniE(P:Program)(w:World)(K:W.Frag)(mg:qa)(base:Heap)(k:Nat)(c:Str)(n:Nat)(m:List D->MS D):Prop where
 ex:IniX P w K mg base k c n (spE K mg n m)
 ar:∀ ds Ω r,m ds Ω=some r->ds.length=n
def outE:Out->MS D
 | .rt d=>MS.p d
 | .nx _=>MS.p .non
 | _=>fun _=>none
def mirE(n N:Nat)(g:DSt->MS Out):List D->MS D:=fun ds=>if ds.length=n then (g (startD N ds)).b outE else fun _=>none
def jk0{n N:Nat}{g:DSt->MS Out}:∀ ds Ω r,mirE n N g ds Ω=some r->ds.length=n:=fun ds Ω r h=>by
 unfold mirE at h
 split at h
 ·assumption
 ·cases h
section
variable {P:Program}{w:World}{K:W.Frag}{mg:qa}{base:Heap}
def fn_E{x q:Str}{st:Stmt}{N ps:List Str}{k:Nat}{O':List Nat}{g:DSt->MS Out}{f:Addr}{fd:FuncData}(F:Fun K x q st f fd)(Sc:FnScope N ps (jaf st))
  (hbody:∀ (f:Addr) (cdv:Value) (A:Around) (outer:List Env) (s:Shared) (H:Hp) (E:XK),Room k (A.deeper (PyProof.Rows.envOfC q (jaf st) s.heap.objs.size f cdv)) ->
   MSs (cxOf CX0 P w K mg base N q (jaf st) f cdv A outer s H E).nox [] O' [] (ja1 st) g):FnOk P w K mg base CX0 (k+1) f fd ps (spE K mg ps.length (mirE ps.length N.length g)):=by
 refine F.ok Sc (fun vs H Q E h=>h.1) fun cdv A outer s H vs Q E hr h=>?_
 obtain⟨hl,J,S,F',ds,Ω,fin,ff,rp,sto,r,Ω',hmr,k0⟩:=h;refine⟨_,hbody f cdv A outer s H E hr,?_⟩;have hpl:ps.length<=N.length:=by have:=congrArg List.length Sc.pre;rw[List.length_take] at this;omega
 have hdl:ds.length=ps.length:=by rw[<- rp.length];exact hl
 unfold mirE at hmr;rw[if_pos hdl] at hmr;have R:RM J S H F' K mg [] J S H (L2.start N vs) (startD N.length ds) Ω:=by
  refine⟨⟨?_,jao,fun b hb=>?_,fun i d hd _=>?_,fun i hi=>absurd hi (by simp),fun i hi=>absurd hi (by simp)⟩,RLe.refl _,fun b o _ h=>h,fun b h=>h,fun b h=>.inl h,fun i hi=>absurd hi (by simp),ff,by rw[jc2];exact sto⟩
  ·simp[L2.start,startD,rp.length]
  ·rcases un_t.mp hb with z|z
   ·exact fin b z
   ·exact sto.fin b z
  ·obtain⟨v,e,rv⟩:=rp.get (jjk hd);exact⟨v,jlj e,by rw[jc2];exact rv⟩
 rcases MS.b_inv hmr with ⟨o,Ω1,e1,hmr⟩|⟨y,e1,rfl⟩
 ·refine⟨J,S,H,F',J,S,_,Ω,R,.ok o,Ω1,e1,?_⟩
  cases o with
  | rt d =>
   cases hmr;exact fun v J' S' H' T rv=>k0 v J' S' H' T.rho T.same T.old T.new T.ff T.sto rv
  | nx Y =>
   cases hmr;exact fun J' S' Z' H' R' _ _=>k0 .non J' S' H' R'.rt.rho R'.rt.same R'.rt.old R'.rt.new R'.rt.ff R'.rt.sto (rep_non.mpr rfl)
  | bk Y=>cases hmr
  | ct Y=>cases hmr
 ·exact⟨J,S,H,F',J,S,_,Ω,R,.error y,_,e1,trivial⟩
def jt1{x:Str}{st:Stmt}{N ps:List Str}{k:Nat}{O':List Nat}{g:DSt->MS Out}(hf:jcd K mg x st ps)(S:FnScope N ps (jaf st))
  (hbody:∀ (f:Addr) (cdv:Value) (A:Around) (outer:List Env) (s:Shared) (H:Hp) (E:XK),Room k (A.deeper (PyProof.Rows.envOfC x (jaf st) s.heap.objs.size f cdv)) ->
   MSs (cxOf CX0 P w K mg base N x (jaf st) f cdv A outer s H E).nox [] O' [] (ja1 st) g):CalE P w K mg base (k+1) x ps.length (mirE ps.length N.length g):=by
 obtain⟨f,fd,hm,F,hb⟩:=hf;exact⟨⟨f,fd,ps,rfl,hm,F.kp,hb,fn_E F S hbody⟩,jk0⟩
structure MetAt(K:W.Frag)(mg:qa)(c x q:Str)(st:Stmt)(ps:List Str):Prop where
 ex:∃ C f fd,mg c=some (.ref C)/\Cls K C/\Meth K C x f/\Fun K x q st f fd/\Binds K fd ps []
structure IniAt(K:W.Frag)(mg:qa)(c q:Str)(st:Stmt)(ps:List Str):Prop where
 ex:∃ C f fd,mg c=some (.ref C)/\Mk K C f/\Fun K "__init__" q st f fd/\Binds K fd ps []
def jqe{c x q:Str}{st:Stmt}{N ps:List Str}{k:Nat}{O':List Nat}{g:DSt->MS Out}(hf:MetAt K mg c x q st ps)(S:FnScope N ps (jaf st))
  (hbody:∀ (f:Addr) (cdv:Value) (A:Around) (outer:List Env) (s:Shared) (H:Hp) (E:XK),Room k (A.deeper (PyProof.Rows.envOfC q (jaf st) s.heap.objs.size f cdv)) ->
   MSs (cxOf CX0 P w K mg base N q (jaf st) f cdv A outer s H E).nox [] O' [] (ja1 st) g):MetE P w K mg base (k+1) c x ps.length (mirE ps.length N.length g):=by
 obtain⟨C,f,fd,hm,hc,hM,F,hb⟩:=hf.ex;exact⟨⟨C,f,fd,ps,rfl,hm,hc,hM,hb,fn_E F S hbody⟩,jk0⟩
def jCx{c q:Str}{st:Stmt}{N ps:List Str}{k:Nat}{O':List Nat}{g:DSt->MS Out}(hf:IniAt K mg c q st ps)(S:FnScope N ps (jaf st))
  (hbody:∀ (f:Addr) (cdv:Value) (A:Around) (outer:List Env) (s:Shared) (H:Hp) (E:XK),Room k (A.deeper (PyProof.Rows.envOfC q (jaf st) s.heap.objs.size f cdv)) ->
   MSs (cxOf CX0 P w K mg base N q (jaf st) f cdv A outer s H E).nox [] O' [] (ja1 st) g):IniE P w K mg base (k+1) c ps.length (mirE ps.length N.length g):=by
 obtain⟨C,f,fd,hm,hM,F,hb⟩:=hf.ex;exact⟨⟨C,f,fd,ps,rfl,hm,hM,hb,fn_E F S hbody⟩,jk0⟩
def jC0{m:List D->MS D}{H:Hp}{a:Addr}{ns:List Int}{Ω':Sto}(hS:SqL K H a (ns.map V.int))(h:m [.lst (ns.map .int)] []=some (.ok (.bl true),Ω')):spE K mg 1 m [.ref a] H (fun v _=>v=.bl true) fun _ _ _=>False:=by
 refine⟨rfl,fun _=>none,fun _=>false,fun _=>false,[.lst (ns.map .int)],[],(fun b hb=>by cases hb),(fun b hb=>by cases hb),Reps.cons (rep_lst.mpr ⟨a,_,rfl,?_,reps_ints.mpr rfl⟩) Reps.nil,⟨fun i so hi=>by simp at hi,fun i j a h=>(nomatch h),fun i _=>rfl,(fun b hb=>by cases hb),fun _ _ q=>q⟩,_,_,h,fun v J' S' H' _ _ _ _ _ _ r=>rep_bl.mp r⟩;have:hid H (un (fun _=>false) fun _=>false)=H:=by funext b;rfl
 rw[this];exact hS
end
def jh8(m:List D->MS D)(fl:DSt->MS (List D)):DSt->MS D:=fun Y=>(fl Y).b m
def jin(m:List D->M D)(fl:DSt->MS (List D)):DSt->MS D:=fun Y=>(fl Y).b fun ds=>MS.l (m ds)
def jnp(c x:Str)(m:List D->MS D)(i:Nat)(fl:DSt->MS (List D))(Y:DSt):MS D:=fun Ω=>match Ω[i]? with
 | some (.ins c' fs)=>if c'=c/\fs.lookup x=none then ((fl Y).b fun ds=>m (.obj i::ds)) Ω else none
 | _=>none
def jl2(c x:Str)(m:List D->MS D)(fo:DSt->MS D)(fl:DSt->MS (List D)):DSt->MS D:=fun Y=>(fo Y).b fun o=>match o with
 | .obj i=>jnp c x m i fl Y
 | _=>fun _=>none
def jsx(c:Str)(m:List D->MS D)(ds:List D):MS D:=fun Ω=>((m (.obj Ω.length::ds)).b fun d=>match d with
 | .non=>MS.p (.obj Ω.length)
 | _=>fun _=>none) (Ω++[.ins c []])
def joy(c:Str)(m:List D->MS D)(fl:DSt->MS (List D)):DSt->MS D:=fun Y=>(fl Y).b fun ds=>jsx c m ds
section
variable {X:Cx}{O:List Nat}{b o e:Expr}{es:List Expr}{fo:DSt->MS D}{fl:DSt->MS (List D)}{pos p apos:Pos}{x c:Str}{k n:Nat}
variable {Jz J:Rho}{Sz S F:qd}{Hz H:Hp}{Z:St}{Y:DSt}{Ω Ω':Sto}
def jlh{m:List D->MS D}{ds:List D}{vs:List V}{r:Except XD D}{Q:VK}{E:XK}(R:RM Jz Sz Hz F X.K X.mg O J S H Z Y Ω)(hl:ds.length=n)(hr:Reps J X.K (hid H (fob (un F S) Z O)) ds vs)(hm:m ds Ω=some (r,Ω'))
  (k:match (generalizing:=false) r with
   | .ok d=>∀ v J' S' H',RM Jz Sz Hz F X.K X.mg O J' S' H' Z Y Ω'->RLe J J'->Same (hid H (fob (un F S) Z O)) (hid H' (fob (un F S') Z O))->Rep J' X.K (hid H' (fob (un F S') Z O)) d v->Q v H'
   | .error _=>True):spE X.K X.mg n m vs H Q E:=by
 refine⟨by rw[hr.length];exact hl,J,S,fob F Z O,ds,Ω,fun b hb=>?_,fun b hb=>?_,by rw[jfu];exact hr,by rw[jfu];exact R.sto,r,Ω',hm,?_⟩
 ·intro z;have:=R.fresh z;rw[<- jfu,un_t.mpr (.inl hb)] at this;cases this
 ·rcases fob_t.mp hb with z|z
  ·exact R.ff b z
  ·cases e:S b with
   | false=>rfl
   | true=>exact absurd z (R.base_S e)
 ·cases r with
  | error x=>trivial
  | ok d =>
   intro v J' S' H' l sm old new ff sto rv;obtain⟨t1,t2⟩:=R.call l sm old new ff sto;rw[jfu] at rv;exact k v J' S' H' t1 l t2 rv
def jqb{m:List D->MS D}(C:CalE X.prog X.w X.K X.mg X.base k x n m)(hr:Room k X.A)(ha:MA X O (e::es) fl)(hg:Gl X x:=by rfl)(hdb:(x == ("__debug__":Str))=false:=by decide)(he:zsE e es X.env:=by rfl)
  (hpl:zbT pos es X.env:=by rfl):ME X O (.Call (.Name x p) (e::es) [] pos) (jh8 m fl):=by
 obtain⟨f,fd,ps,hl,hm,hk,hb,G⟩:=C.ex;rintro U s Z H Q I ⟨Jz,Sz,Hz,F,J,S,Y,Ω,R,r,Ω',hf,k⟩;refine jnx G hr hg hm hk hb .nil (fun _ _ _ _ _ _ _ z=>z.elim) ha hdb he hpl U s Z H Q I (E:=E0) ?_;rcases MS.b_inv hf with ⟨ds,Ω1,e1,hf⟩|⟨y,e1,rfl⟩
 ·refine⟨Jz,Sz,Hz,F,J,S,Y,Ω,R,.ok ds,Ω1,e1,fun vs ρ1 S1 H1 R1 l1 v1 r1=>?_⟩;show spE X.K X.mg n m (vs++[]) H1 Q E0;rw[List.append_nil];refine jlh R1 (C.ar ds Ω1 _ hf) r1 hf ?_
  cases r with
  | error y=>trivial
  | ok d=>exact fun v ρ2 S2 H2 R2 l2 v2 r2=>k v ρ2 S2 H2 R2 (l1.trans l2) (v1.trans v2) r2
 ·exact⟨Jz,Sz,Hz,F,J,S,Y,Ω,R,.error y,_,e1,trivial⟩
def jip{m:List D->M D}(C:Cal X.prog X.w X.K X.mg X.base k x n m)(hr:Room k X.A)(ha:MA X O (e::es) fl)(hg:Gl X x:=by rfl)(hdb:(x == ("__debug__":Str))=false:=by decide)(he:zsE e es X.env:=by rfl)
  (hpl:zbT pos es X.env:=by rfl):ME X O (.Call (.Name x p) (e::es) [] pos) (jin m fl):=by
 obtain⟨f,fd,ps,hl,hm,hk,hb,G⟩:=C.ex;rintro U s Z H Q I ⟨Jz,Sz,Hz,F,J,S,Y,Ω,R,r,Ω',hf,k⟩;refine jnx G hr hg hm hk hb .nil (fun _ _ _ _ _ _ _ z=>z.elim) ha hdb he hpl U s Z H Q I (E:=E0) ?_;rcases MS.b_inv hf with ⟨ds,Ω1,e1,hf⟩|⟨y,e1,rfl⟩
 ·refine⟨Jz,Sz,Hz,F,J,S,Y,Ω,R,.ok ds,Ω1,e1,fun vs ρ1 S1 H1 R1 l1 v1 r1=>?_⟩;show spD X.K n m (vs++[]) H1 Q E0;rw[List.append_nil];obtain⟨hg,rfl⟩:=MS.l_inv hf;refine⟨by rw[r1.length];exact C.ar ds r hg,ρ1,ds,r,fob (un F S1) Z O,fun b hb z=>?_,r1,hg,?_⟩
  ·rw[R1.fresh z] at hb;cases hb
  ·cases r with
   | ok d=>exact fun v H' s' rv=>k v ρ1 S1 H' (R1.mono s') l1 (v1.trans (jas s')) rv
   | error y=>exact fun c dx H' s' xr=>xr.elim
 ·exact⟨Jz,Sz,Hz,F,J,S,Y,Ω,R,.error y,_,e1,trivial⟩
def jr0{c x:Str}{m:List D->MS D}{fl:DSt->MS (List D)}{Y:DSt}{od:D}{Ω Ω':Sto}{r:Except XD D}(h:(match od with
   | .obj i=>jnp c x m i fl Y
   | _=>fun _=>none:MS D) Ω=some (r,Ω')):∃ i fs,od=.obj i/\Ω[i]? = some (.ins c fs)/\fs.lookup x=none/\((fl Y).b fun ds=>m (.obj i::ds)) Ω=some (r,Ω'):=by
 cases od with
 | obj i =>
  have h2:jnp c x m i fl Y Ω=some (r,Ω'):=h;unfold jnp at h2
  cases hi:Ω[i]? with
  | none=>rw[hi] at h2;cases h2
  | some so =>
   rw[hi] at h2
   cases so with
   | lst _=>cases h2
   | tab _ _ _ _=>cases h2
   | dct _=>cases h2
   | exc _ _=>cases h2
   | xd _=>cases h2
   | ins c' fs =>
    dsimp only at h2
    by_cases hc:c'=c/\fs.lookup x=none
    ·rw[if_pos hc] at h2;obtain⟨rfl,hn⟩:=hc;exact⟨i,fs,rfl,hi,hn,h2⟩
    ·rw[if_neg hc] at h2;cases h2
 | _=>cases h
def jqd{pl:Sem Bool}{m:List D->MS D}(C:MetE X.prog X.w X.K X.mg X.base k c x n m)(hr:Room k X.A)(ho:ME X O o fo)(ha:MA X O (e::es) fl)(hst:zsE e es X.env:=by rfl)(hpl:zbT pos es X.env:=by rfl)
  (ht:eval (.Call (.Attribute o x apos) (e::es) [] pos) X.env=(do
   let ov <- eval o X.env
   standAt apos.atName
   let (f,first) <- holding [ov] (getMethod ov x pl)
   callWith pos f first (backTo pos (starEach (e::es) X.env)) (backToKw pos (keywordEach [] X.env))):=by rfl):ME X O (.Call (.Attribute o x apos) (e::es) [] pos) (jl2 c x m fo fl):=by
 obtain⟨Ca,f,fd,ps,hl,hm,hc,hM,hb,G⟩:=C.ex;rintro U s Z H Q I ⟨Jz,Sz,Hz,F,J,S,Y,Ω,R,r,Ω',hf,k⟩;refine jDo ho hc hM G hr hb .nil (fun _ _ _ _ _ _ _ z=>z.elim) ha hst hpl ht U s Z H Q I (E:=E0) ?_;rcases MS.b_inv hf with ⟨od,Ω1,e1,hf⟩|⟨y,e1,rfl⟩
 ·refine⟨Jz,Sz,Hz,F,J,S,Y,Ω,R,.ok od,Ω1,e1,fun v ρ1 S1 H1 R1 l1 v1 r1=>?_⟩;obtain⟨i,fs,rfl,hi,hno,hf2⟩:=jr0 hf;obtain⟨ad,q1,q2⟩:=rep_obj.mp r1;obtain⟨ad',p1,p2,C',dx,vfs,p3,p4,p5,p6,p7⟩:=R1.sto.ats i _ hi;rw[q1] at p1;cases p1
  rw[hm] at p3;cases p3
  refine⟨ad,dx,vfs,q2,p4,p7.none hno,?_⟩;rcases MS.b_inv hf2 with ⟨ds,Ω2,e2,hf3⟩|⟨y,e2,rfl⟩
  ·refine⟨Jz,Sz,Hz,F,ρ1,S1,Y,Ω1,R1,.ok ds,Ω2,e2,fun vs ρ2 S2 H2 R2 l2 v2 r2=>?_⟩;show spE X.K X.mg n m (v::(vs++[])) H2 Q E0;rw[List.append_nil];refine jlh R2 (C.ar _ _ _ hf3) (Reps.cons ((r1.rho l2).mono v2) r2) hf3 ?_
   cases r with
   | error y=>trivial
   | ok d=>exact fun v' J3 S3 H3 R3 l3 v3 r3=>k v' J3 S3 H3 R3 (l1.trans (l2.trans l3)) (v1.trans (v2.trans v3)) r3
  ·exact⟨Jz,Sz,Hz,F,ρ1,S1,Y,Ω1,R1,.error y,_,e2,trivial⟩
 ·exact⟨Jz,Sz,Hz,F,J,S,Y,Ω,R,.error y,_,e1,trivial⟩
def jnn{pl:Sem Bool}{m:List D->MS D}(C:MetE X.prog X.w X.K X.mg X.base k c x n m)(hr:Room k X.A)(ho:ME X O o fo)
  (ht:eval (.Call (.Attribute o x apos) [] [] pos) X.env=(do
   let ov <- eval o X.env
   standAt apos.atName
   let (f,first) <- holding [ov] (getMethod ov x pl)
   callWith pos f first (backTo pos (starEach [] X.env)) (backToKw pos (keywordEach [] X.env))):=by rfl):ME X O (.Call (.Attribute o x apos) [] [] pos) (jl2 c x m fo (lF fNil)):=by
 obtain⟨Ca,f,fd,ps,hl,hm,hc,hM,hb,G⟩:=C.ex;rintro U s Z H Q I ⟨Jz,Sz,Hz,F,J,S,Y,Ω,R,r,Ω',hf,k⟩;refine jy3 ho hc hM G hr hb .nil (fun _ _ _ _ _ _ _ z=>z.elim) ht U s Z H Q I (E:=E0) ?_;rcases MS.b_inv hf with ⟨od,Ω1,e1,hf⟩|⟨y,e1,rfl⟩
 ·refine⟨Jz,Sz,Hz,F,J,S,Y,Ω,R,.ok od,Ω1,e1,fun v ρ1 S1 H1 R1 l1 v1 r1=>?_⟩;obtain⟨i,fs,rfl,hi,hno,hf2⟩:=jr0 hf;obtain⟨ad,q1,q2⟩:=rep_obj.mp r1;obtain⟨ad',p1,p2,C',dx,vfs,p3,p4,p5,p6,p7⟩:=R1.sto.ats i _ hi;rw[q1] at p1;cases p1
  rw[hm] at p3;cases p3
  refine⟨ad,dx,vfs,q2,p4,p7.none hno,?_⟩;have hf3:m [.obj i] Ω1=some (r,Ω'):=hf2;show spE X.K X.mg n m [v] H1 Q E0;refine jlh R1 (C.ar _ _ _ hf3) (Reps.cons r1 Reps.nil) hf3 ?_
  cases r with
  | error y=>trivial
  | ok d=>exact fun v' J3 S3 H3 R3 l3 v3 r3=>k v' J3 S3 H3 R3 (l1.trans l3) (v1.trans v3) r3
 ·exact⟨Jz,Sz,Hz,F,J,S,Y,Ω,R,.error y,_,e1,trivial⟩
def jC3{m:List D->MS D}{Ca f:Addr}{vs:List V}{ds:List D}{r:Except XD D}{Q:VK}(hm:X.mg c=some (.ref Ca))(ar:∀ ds Ω r,m ds Ω=some r->ds.length=n)(R:RM Jz Sz Hz F X.K X.mg O J S H Z Y Ω)(hr:Reps J X.K (hid H (fob (un F S) Z O)) ds vs)(hf:jsx c m ds Ω=some (r,Ω'))
  (k:match (generalizing:=false) r with
   | .ok d=>∀ v J' S' H',RM Jz Sz Hz F X.K X.mg O J' S' H' Z Y Ω'->RLe J J'->Same (hid H (fob (un F S) Z O)) (hid H' (fob (un F S') Z O))->Rep J' X.K (hid H' (fob (un F S') Z O)) d v->Q v H'
   | .error _=>True):∀ x dx,H x=none->H dx=none->dx≠x->spE X.K X.mg n m (.ref x::vs) (upd (upd H dx (.own x)) x (.ins Ca dx [])) (fun v H2=>v=.non/\Q (.ref x) H2) E0:=by
 intro x dx hx hdx ne;obtain⟨t1,t2,t3⟩:=R.make (c:=c) hm hx hdx ne;have hob:Rep (addR J Ω.length x) X.K (hid (upd (upd H dx (.own x)) x (.ins Ca dx [])) (fob (un F (addS S x dx)) Z O)) (.obj Ω.length) (.ref x):=rep_obj.mpr ⟨x,by unfold addR;rw[if_pos rfl],rfl⟩;unfold jsx at hf;rcases MS.b_inv hf with ⟨d,Ω1,e1,hf⟩|⟨y,e1,rfl⟩
 ·refine jlh t1 (ar _ _ _ e1) (Reps.cons hob ((hr.rho t2).mono t3)) e1 ?_;intro v ρ2 S2 H2 R2 l2 v2 r2
  cases d with
  | non =>
   cases hf;exact⟨rep_non.mp r2,k (.ref x) ρ2 S2 H2 R2 (t2.trans l2) (t3.trans v2) ((hob.rho l2).mono v2)⟩
  | _=>cases hf
 ·exact jlh t1 (ar _ _ _ e1) (Reps.cons hob ((hr.rho t2).mono t3)) e1 trivial
def jvu{m:List D->MS D}(C:IniE X.prog X.w X.K X.mg X.base k c n m)(hr:Room (k+1) X.A)(ha:MA X O (e::es) fl)(hg:Gl X c:=by rfl)(hdb:(c == ("__debug__":Str))=false:=by decide)(he:zsE e es X.env:=by rfl)
  (hpl:zbT pos es X.env:=by rfl):ME X O (.Call (.Name c p) (e::es) [] pos) (joy c m fl):=by
 obtain⟨Ca,f,fd,ps,hl,hm,hM,hb,G⟩:=C.ex;rintro U s Z H Q I ⟨Jz,Sz,Hz,F,J,S,Y,Ω,R,r,Ω',hf,k⟩;refine jDn hM G hr hg hm hb .nil (fun _ _ _ _ _ _ _ z=>z.elim) ha hdb he hpl U s Z H Q I (E:=E0) ?_;rcases MS.b_inv hf with ⟨ds,Ω1,e1,hf⟩|⟨y,e1,rfl⟩
 ·refine⟨Jz,Sz,Hz,F,J,S,Y,Ω,R,.ok ds,Ω1,e1,fun vs ρ1 S1 H1 R1 l1 v1 r1=>?_⟩
  try dsimp only
  rw[List.append_nil];refine jC3 (f:=f) hm C.ar R1 r1 hf ?_
  cases r with
  | error y=>trivial
  | ok d=>exact fun v ρ2 S2 H2 R2 l2 v2 r2=>k v ρ2 S2 H2 R2 (l1.trans l2) (v1.trans v2) r2
 ·exact⟨Jz,Sz,Hz,F,J,S,Y,Ω,R,.error y,_,e1,trivial⟩
end
inductive tEI(K:W.Frag)(mg:qa)(O:List Nat)(f:DSt->MS (List D))(Z:St)(H:Hp)(Rk:It->Hp->Prop):Prop
 | mk (Jz:Rho) (Sz:qd) (Hz:Hp) (F:qd) (J:Rho) (S:qd) (Y:DSt) (Ω:Sto) (R:RM Jz Sz Hz F K mg O J S H Z Y Ω) (r:Except XD (List D)) (Ω':Sto) (hf:f Y Ω=some (r,Ω')) (k:match (generalizing:=false) r with
  | .ok ds=>∀ Jq J' S' H',RM Jz Sz Hz F K mg O J' S' H' Z Y Ω'->RLe J J'->Same (hid H (fob (un F S) Z O)) (hid H' (fob (un F S') Z O))->ItD J' K Jq ds (hid H' (fob (un F S') Z O))->Rk Jq H'
  | .error _=>True)
def MI(X:Cx)(O:List Nat)(tg iter:Expr)(f:DSt->MS (List D)):Prop:=PI X tg iter (tEI X.K X.mg O f)
section
variable {X:Cx}{O B:List Nat}{b c e o iter tg:Expr}{fo fv:DSt->MS D}{fi:DSt->MS (List D)}{pos:Pos}{g:DSt->MS Out}{f:Str}{cs:List Str}
def jvw{f:DSt->M (List D)}(h:DI X O E0 tg iter f):MI X O tg iter (lF f):=by
 rintro U s Z H Q I ⟨Jz,Sz,Hz,F,J,S,Y,Ω,R,r,Ω',hf,k⟩;obtain⟨hg,rfl⟩:=MS.l_inv hf;refine h U s Z H Q I ⟨J,_,un F S,Y,r,R.rs,hg,?_⟩
 cases r with
 | ok d=>exact fun Jq H' s' it=>k Jq J S H' (R.mono s') (RLe.refl _) (jas s') it
 | error x=>exact fun c dx H' _ z=>z.elim
def jxy{cs:List Str}{f:Str}{x d:D}{Y:DSt}{Ω Ω':Sto}{r:Except XD Out}(h:((putO cs f x d).b fun _=>MS.p (.nx Y)) Ω=some (r,Ω')):∃ i cl fs,x=.obj i/\Ω[i]? = some (.ins cl fs)/\cs.contains cl=true/\fs.length<1000/\r=.ok (.nx Y)/\Ω'=Ω.set i (.ins cl (putD f d fs)):=by
 unfold MS.b putO at h
 cases x with
 | obj i =>
  dsimp only at h
  cases hi:Ω[i]? with
  | none=>rw[hi] at h;cases h
  | some so =>
   rw[hi] at h
   cases so with
   | lst _=>cases h
   | tab _ _ _ _=>cases h
   | dct _=>cases h
   | exc _ _=>cases h
   | xd _=>cases h
   | ins cl fs =>
    dsimp only at h
    by_cases hcl:(cs.contains cl&&decide (fs.length<1000))=true
    ·rw[if_pos hcl] at h;cases h;rw[Bool.and_eq_true,decide_eq_true_eq] at hcl;exact⟨i,cl,fs,rfl,hi,hcl.1,hcl.2,rfl,rfl⟩
    ·rw[if_neg hcl] at h;cases h
 | _=>cases h
def jhs{pos':Pos}(hc:jBm X cs f)(ho:ME X O o fo)(hv:ME X O e fv)(hs:swapsWith e (some (.Attribute o f pos')) pos.line X.env=pure false:=by rfl):MSt X O O B (.Assign [.Attribute o f pos'] e pos) (ePut cs f fo fv):=by
 rintro U s Z H Dn I ⟨Jz,Sz,Hz,F,J,S,Y,Ω,R,r,Ω',hf,k⟩;refine jG9 ho hv hs U s Z H Dn I ?_;rcases MS.b_inv hf with ⟨d,Ω1,e1,hf⟩|⟨x,e1,rfl⟩
 ·refine⟨Jz,Sz,Hz,F,J,S,Y,Ω,R,.ok d,Ω1,e1,fun v ρ1 S1 H1 R1 l1 v1 r1=>?_⟩;rcases MS.b_inv hf with ⟨x,Ω2,e2,hf⟩|⟨x,e2,rfl⟩
  ·refine⟨Jz,Sz,Hz,F,ρ1,S1,Y,Ω1,R1,.ok x,Ω2,e2,fun u ρ2 S2 H2 R2 l2 v2 r2=>?_⟩;obtain⟨i,cl,fs,rfl,hi,hcl,hlt,rfl,rfl⟩:=jxy hf;obtain⟨ad,q1,q2⟩:=rep_obj.mp r2;obtain⟨ad',p1,p2,C,dx,vfs,p3,p4,p5,p6,p7⟩:=R2.sto.ats i _ hi;rw[q1] at p1;cases p1
   obtain⟨g1,g2⟩:=hc cl (zbc.mp hcl) C p3;have r1':=(r1.rho l2).mono v2;obtain⟨t1,t2⟩:=R2.put (f:=f) hi q1 p2 p3 p4 p5 p6 p7 r1';exact⟨ad,C,dx,vfs,q2,p4,g1,g2,by rw[p7.length];exact hlt,k ρ2 S2 Z _ t1 (l1.trans l2) (by rw[t2];exact v1.trans v2)⟩
  ·exact⟨Jz,Sz,Hz,F,ρ1,S1,Y,Ω1,R1,.error x,_,e2,trivial⟩
 ·exact⟨Jz,Sz,Hz,F,J,S,Y,Ω,R,.error x,_,e1,trivial⟩
def jGg{i j:Nat}{x y:Str}{p1 p2 p3 pos':Pos}(hN:X.N.Nodup)(ho:O.contains j=true)(hoi:O.contains i=false:=by rfl)(hi:X.N[i]? = some x:=by rfl)(hj:X.N[j]? = some y:=by rfl)(hx:Loc X.env.scope x:=by first|exact Or.inl rfl|exact Or.inr rfl)
  (hv:Vis X.env.scope y:=by first|exact Or.inl rfl|exact Or.inr (Or.inl rfl)|exact Or.inr (Or.inr rfl))
  (hd:(y == ("__debug__":Str))=false:=by decide) (hcd:(y == ("__classdict__":Str))=false:=by decide) (hbase:attributeBase (.Name y p1) "pop" X.env (eval (.Name y p1) X.env)=eval (.Name y p1) X.env:=by rfl) (hline:(p2.endLine == p3.line)=true:=by rfl)
  (hs:swapsWith (.Call (.Attribute (.Name y p1) "pop" p2) [] [] p3) (some (.Name x pos')) pos.line X.env=pure false:=by rfl) (hf:X.fn x=true\/X.env.scope.names.lookup x=some .local:=by first|exact .inl rfl|exact .inr rfl|assumption) :
  MSt X O O B (.Assign [.Name x pos'] (.Call (.Attribute (.Name y p1) "pop" p2) [] [] p3) pos) (ePop i j):=by
 rintro U s Z H Dn I ⟨Jz,Sz,Hz,F,J,S,Y,Ω,R,r,Ω',hg,k⟩;have ho':j∈O:=zbc.mp ho;have hoi':i∉O:=fun z=>by rw[zbc.mpr z] at hoi;cases hoi
 obtain⟨l,xs,ds,q1,q2,q3,q4,q5⟩:=R.rs.own j ho';refine jpg hN hi hx (jGx PySem.F.plainAttrs_list PySem.F.slot_list_pop PySem.F.type_list_pop jGj (jmm hj hv hd hcd) hbase hline) hs hf U s Z H Dn I ?_;refine⟨.ref l,q2,.inl ⟨rfl,_,SqL.of q3⟩,?_⟩;unfold ePop at hg;have hjj:(Y[j]?).join=some (.lst ds):=by rw[q1];rfl
 rw[hjj] at hg;dsimp only at hg
 cases hl:ds[ds.length-1]? with
 | none=>rw[hl] at hg;cases hg
 | some d =>
  rw[hl] at hg;cases hg;obtain⟨v,w1,w2⟩:=q5.get hl;have hR:=R.write ho' q2 q5.dropLast;have hh:hid (upd H l (.lst xs.dropLast)) (fob (un F S) Z O)=hid H (fob (un F S) Z O):=je2 (fob_t.mpr (.inr ⟨j,ho',q2⟩));refine⟨l,xs,v,rfl,rfl,q3,by rw[q5.length];exact w1,?_⟩;refine k J S _ _ (hR.set hoi' (by rw[hh];exact w2)) (RLe.refl _) ?_;rw[jb8 hoi',hh];exact Same.refl _
def jGe{body:List Stmt}{h:D->DSt->Option DSt}(hp:PassesOwn (model X.prog X.w) X.A X.env X.xe)(hc:X.calm=true)(hi:MI X O tg iter fi)(hg:DG X O tg h)(hb:MSs X O O O body g)
  (hs:∀ x,foldedSetIterable iter X.env x=pure x:=by intro _;rfl):MSt X O O B (.For tg iter body [] pos) (eFor fi h g):=by
 rintro U s Z H Dn I ⟨Jz,Sz,Hz,F,J,S,Y,Ω,R,r,Ω',hgf,k⟩;refine jwn hp hc hi hg hb hs U s Z H Dn I ?_;rcases MS.b_inv hgf with ⟨ds,Ω1,e1,hgf⟩|⟨y,e1,rfl⟩
 ·refine⟨Jz,Sz,Hz,F,J,S,Y,Ω,R,.ok ds,Ω1,e1,fun Jq ρ1 S1 H1 R1 l1 v1 it=>?_⟩;refine⟨fun i m Z' H'=>m=ds.length-i/\i<=ds.length/\∃ J' S' Y' Ω2,RM Jz Sz Hz F X.K X.mg O J' S' H' Z' Y' Ω2/\RLe ρ1 J'/\Same (hid H1 (fob (un F S1) Z O)) (hid H' (fob (un F S') Z' O))/\forE g h (ds.drop i) Y' Ω2=some (r,Ω'),
   ⟨ds.length,by simp,Nat.zero_le _,ρ1,S1,Y,Ω1,R1,RLe.refl _,Same.refl _,hgf⟩,?_⟩
  rintro i m Z' H' ⟨rfl,hil,J',S',Y',Ω2,R',l',f',hr⟩;obtain⟨j1,j2⟩:=it H' (fob (un F S') Z' O) i f' (fun p hp=>R'.fresh hp)
  by_cases hlt:i<ds.length
  ·obtain⟨go,yld⟩:=j1 hlt;refine .inr ⟨go,fun Z2 H2=>∃ ρ2 S2 Y2 Ω3,RM Jz Sz Hz F X.K X.mg O ρ2 S2 H2 Z2 Y2 Ω3/\RLe ρ1 ρ2/\Same (hid H1 (fob (un F S1) Z O)) (hid H2 (fob (un F S2) Z2 O))/\forE g h (ds.drop (i+1)) Y2 Ω3=some (r,Ω'),fun Z2 H2 ⟨ρ2,S2,Y2,Ω3,a1,a2,a3,a4⟩=>⟨ds.length-(i+1),by omega,rfl,hlt,ρ2,S2,Y2,Ω3,a1,a2,a3,a4⟩,fun x H2 y=>?_⟩;obtain⟨s2,d,hd,rd⟩:=yld x H2 y;have hdr:ds.drop i=d::ds.drop (i+1):=by
    rw[List.drop_eq_getElem_cons hlt];have:ds[i]=d:=by rw[zax hlt] at hd;exact zby hd
    rw[this]
   rw[hdr] at hr;unfold forE at hr
   cases e2:h d Y' with
   | none=>rw[e2] at hr;cases hr
   | some Y1 =>
    rw[e2] at hr;dsimp only at hr;have R2:=R'.mono s2;have f2:Same (hid H1 (fob (un F S1) Z O)) (hid H2 (fob (un F S') Z' O)):=f'.trans (jas s2);refine⟨J',_,un F S',Y',d,Y1,R2.rs,rd.rho l',e2,fun Z3 ef R3=>?_⟩;have R3':RM Jz Sz Hz F X.K X.mg O J' S' H2 Z3 Y1 Ω2:=R2.next R3 (by rw[ef];exact Same.refl _);rcases MS.b_inv hr with ⟨o,Ω3,e3,hr⟩|⟨y,e3,rfl⟩
    ·refine⟨Jz,Sz,Hz,F,J',S',Y1,Ω2,R3',.ok o,Ω3,e3,?_⟩;rw[ef]
     cases o with
     | nx Y4=>exact fun J4 S4 Z4 H4 R4 l4 v4=>⟨J4,S4,Y4,Ω3,R4,l'.trans l4,f2.trans v4,hr⟩
     | ct Y4=>exact fun J4 S4 Z4 H4 R4 l4 v4=>⟨J4,S4,Y4,Ω3,R4,l'.trans l4,f2.trans v4,hr⟩
     | bk Y4=>cases hr;exact fun J4 S4 Z4 H4 R4 l4 v4=>k J4 S4 Z4 H4 R4 (l1.trans (l'.trans l4)) (v1.trans (f2.trans v4))
     | rt v=>cases hr;exact k
    ·exact⟨Jz,Sz,Hz,F,J',S',Y1,Ω2,R3',.error y,_,e3,trivial⟩
  ·have ei:i=ds.length:=by omega
   subst ei;rw[List.drop_length] at hr;cases hr;exact .inl ⟨j2 rfl,k J' S' Z' H' R' (l1.trans l') (v1.trans f')⟩
 ·exact⟨Jz,Sz,Hz,F,J,S,Y,Ω,R,.error y,_,e1,trivial⟩
end
def jkj(st:Stmt)(j:Nat):Stmt:=match st with
 | .ClassDef _ _ _ b _ _ _ _ _ _ _=>b.getD j (.Pass ⟨0,0,0,0⟩)
 | _=>.Pass ⟨0,0,0,0⟩
structure ClsAt(K:W.Frag)(mg:qa)(c:Str)(fs:List Str):Prop where
 ok:∀ C,mg c=some (.ref C)->Cls K C/\∀ f∈fs,NoAttr K C f
section
variable {K:W.Frag}{mg:qa}{h:Heap}{c x q:Str}{st:Stmt}{ps:List Str}{C f:Addr}{oc:Value}{od an:Option Addr}{osl:qe}{kV doc pm cdv ct:Value}
def jj8{fs:List Str}(X:K.In h)(G:h.Ns mainGlobals mg)(a:W.nsIn K mainGlobals c=some (some (.ref C)))(p1:W.plainGet K C Str.empty=true)(p2:W.hasDictIn K C=true)(p3:W.plainOver K C=true)
  (p4:W.findIn K (.ref C) "__setattr__"=some (some (.builtin "object.__setattr__"))) (n:∀ f∈fs,W.findIn K (.ref C) f=some none):ClsAt K mg c fs :=
 ⟨fun C' hC=>by rw[W.mg_of X G a] at hC;cases hC;exact⟨⟨p1,p2,p3,p4⟩,n⟩⟩
def ClsAt.is{X:Cx}{fs:List Str}(T:ClsAt X.K X.mg c fs){f:Str}(hf:f∈fs):jBm X [c] f:=fun c' hc C hC=>by
 rw[zdx] at hc;subst hc;exact⟨(T.ok C hC).1,(T.ok C hC).2 f hf⟩
def jno{fs:List Str}(X:K.In h)(G:h.Ns mainGlobals mg)(T:ClsAt K mg c fs)
  (hb:∀ (kV doc pm:Value) (an:Option Addr) (cdv ct:Value) (us:List Value),us.length=ps.length->bindArgs (W.fnOf x q (jbw st) (ja1 st) (jaf st) .none kV doc pm an cdv ct) ⟨us,[]⟩=pure (ps.zip us))
  (a:W.nsIn K mainGlobals c=some (some (.ref C))) (m1:W.findIn K (.ref C) x=some (some (.ref f))) (m2:W.isFn K (.ref f)=true)
  (l:K.lookup f=some ⟨oc,od,.func (W.fnOf x q (jbw st) (ja1 st) (jaf st) .none kV doc pm an cdv ct),osl⟩)
  (cd:W.codeIn K cdv q=true) (k:W.keepIn K (.ref f)=true):MetAt K mg c x q st ps:=by
 have F:=jrr (st:=st) l cd k;have hm:=W.mg_of X G a;exact⟨C,f,_,hm,(T.ok C hm).1,⟨m1,m2,k⟩,F,F.binds hb⟩
def jyg(X:K.In h)(G:h.Ns mainGlobals mg)
  (hb:∀ (kV doc pm:Value) (an:Option Addr) (cdv ct:Value) (us:List Value),us.length=ps.length->bindArgs (W.fnOf "__init__" q (jbw st) (ja1 st) (jaf st) .none kV doc pm an cdv ct) ⟨us,[]⟩=pure (ps.zip us))
  (a:W.nsIn K mainGlobals c=some (some (.ref C))) (i1:W.makesIn K C=true) (i2:W.findIn K (.ref C) "__init__"=some (some (.ref f))) (i3:W.isFn K (.ref f)=true) (i4:W.keepIn K (.ref C)=true)
  (l:K.lookup f=some ⟨oc,od,.func (W.fnOf "__init__" q (jbw st) (ja1 st) (jaf st) .none kV doc pm an cdv ct),osl⟩)
  (cd:W.codeIn K cdv q=true) (k:W.keepIn K (.ref f)=true):IniAt K mg c q st ps:=by
 have F:=jrr (st:=st) l cd k;exact⟨C,f,_,W.mg_of X G a,⟨i1,i2,i3,i4⟩,F,F.binds hb⟩
end
def mB(f:DSt->MS D):DSt->MS Bool:=fun Y=>(f Y).b fun d=>match d with
 | .bl k=>MS.p k
 | _=>fun _=>none
section
variable {X:Cx}{O:List Nat}{a b:Expr}{fa fb:DSt->MS D}{pos:Pos}
def jGi{op:CmpOp}{g:D->D->Option D}{r:R2}(ho:OpR X (compareOp op) r)(hg:OpD X.K g r)(ha:ME X O a fa)(hb:ME X O b fb)(hm:behindInMarks op b=false):MT X O (.Compare a [op] [b] pos) (mB (m2 g fa fb)):=by
 rintro U s Z H Q I ⟨Jz,Sz,Hz,F,J,S,Y,Ω,R,rr,Ω',hf,k⟩;refine jwp ho ha hb hm U s Z H Q I (jvt (r:=r) hg ?_);rcases MS.b_inv hf with ⟨x,Ω1,e1,hf⟩|⟨x,e1,rfl⟩
 ·cases x with
  | bl kk=>cases hf;exact⟨Jz,Sz,Hz,F,J,S,Y,Ω,R,.ok (.bl kk),_,e1,fun v J' S' H' R' l sm rv=>⟨kk,rep_bl.mp rv,k J' S' H' R' l sm⟩⟩
  | _=>cases hf
 ·exact⟨Jz,Sz,Hz,F,J,S,Y,Ω,R,.error x,Ω',e1,k⟩
end
def spA(K:W.Frag)(n:Nat)(m:List D->MS D):Sp:=fun vs H Q E=>∀ mg,spE K mg n m vs H Q E
def FUEL:Nat:=Classical.choose (⟨100000,rfl⟩:∃ n:Nat,n=100000)
def jtr:FUEL=100000:=Classical.choose_spec (⟨100000,rfl⟩:∃ n:Nat,n=100000)
section
variable {Y:DSt}{fa fb:DSt->M D}{fl:DSt->M (List D)}{g:D->D->Option D}{u:D->Option D}{k:List D->Option D}{ta tb:DSt->M Bool}{g1 g2:DSt->M Out}{m:List D->M D}{ki:List D->Option (List D)}{fi:DSt->M (List D)}{tg:D->DSt->Option DSt}
@[simp] theorem jFq(i:Nat):vR i Y=M.o (Y[i]?).join:=rfl
@[simp] theorem e_C(d:D):fC d Y=M.p d:=rfl
@[simp] theorem e_2:f2 g fa fb Y=(fa Y).b fun x=>(fb Y).b fun y=>M.o (g x y):=rfl
@[simp] theorem e_1:f1 u fa Y=(fa Y).b fun x=>M.o (u x):=rfl
def asB:Option D->M Bool
 | some (.bl b)=>M.p b
 | _=>none
@[simp] theorem jE1(b:Bool):asB (some (.bl b))=M.p b:=rfl
@[simp] theorem e_t2:t2 g fa fb Y=(fa Y).b fun x=>(fb Y).b fun y=>asB (g x y):=rfl
@[simp] theorem jFl:fNil Y=M.p []:=rfl
@[simp] theorem jAc:jac fa fl Y=(fa Y).b fun x=>(fl Y).b fun xs=>M.p (x::xs):=rfl
@[simp] theorem e_L:fL k fl Y=(fl Y).b fun xs=>M.o (k xs):=rfl
@[simp] theorem juv:jay m fl Y=(fl Y).b m:=rfl
@[simp] theorem jI1:gNot (.bl b)=some (.bl !b):=rfl
@[simp] theorem jFo:tNot ta Y=(ta Y).b fun x=>M.p !x:=rfl
@[simp] theorem jFn:tAnd ta tb Y=(ta Y).b fun x=>if x=true then tb Y else M.p false:=rfl
@[simp] theorem jI2:tOr ta tb Y=(ta Y).b fun x=>if x=true then M.p true else tb Y:=rfl
@[simp] theorem e_if:fIf ta fa fb Y=(ta Y).b fun x=>if x=true then fa Y else fb Y:=rfl
def andB(b:D)(r:M D):M D:=match b with
 | .bl true=>r
 | .bl false=>M.p (.bl false)
 | _=>none
def orB(b:D)(r:M D):M D:=match b with
 | .bl true=>M.p (.bl true)
 | .bl false=>r
 | _=>none
@[simp] theorem jz5(r:M D):andB (.bl true) r=r:=rfl
@[simp] theorem andB_f(r:M D):andB (.bl false) r=M.p (.bl false):=rfl
@[simp] theorem jJo(r:M D):orB (.bl true) r=M.p (.bl true):=rfl
@[simp] theorem jGu(r:M D):orB (.bl false) r=r:=rfl
@[simp] theorem jCg:fAnd fa fb Y=(fa Y).b fun x=>andB x (fb Y):=rfl
@[simp] theorem e_or:fOr fa fb Y=(fa Y).b fun x=>orB x (fb Y):=rfl
@[simp] theorem jFp:tTru fa Y=(fa Y).b fun x=>M.o (truD x):=rfl
@[simp] theorem jH6(b:Bool):truD (.bl b)=some b:=rfl
@[simp] theorem jKb:truD .non=some false:=rfl
@[simp] theorem e_nx:gNx Y=M.p (.nx Y):=rfl
def seqO(g2:DSt->M Out):Out->M Out
 | .nx Y'=>g2 Y'
 | o=>M.p o
@[simp] theorem jw7(Y':DSt):seqO g2 (.nx Y')=g2 Y':=rfl
@[simp] theorem jw8(d:D):seqO g2 (.rt d)=M.p (.rt d):=rfl
@[simp] theorem jJy(Y':DSt):seqO g2 (.bk Y')=M.p (.bk Y'):=rfl
@[simp] theorem jJz(Y':DSt):seqO g2 (.ct Y')=M.p (.ct Y'):=rfl
@[simp] theorem jor:gSeq g1 g2 Y=(g1 Y).b (seqO g2):=by
 show (g1 Y).b _=_;congr 1
@[simp] theorem juw(i:Nat):gSet i fa Y=(fa Y).b fun d=>M.p (.nx (Y.set i (some d))):=rfl
@[simp] theorem jx1:gRet fa Y=(fa Y).b fun d=>M.p (.rt d):=rfl
@[simp] theorem e_drop:jI4 fa Y=(fa Y).b fun _=>M.p (.nx Y):=rfl
@[simp] theorem jCk:gIf ta g1 g2 Y=(ta Y).b fun b=>if b=true then g1 Y else g2 Y:=rfl
@[simp] theorem e_brk:gBrk Y=M.p (.bk Y):=rfl
@[simp] theorem e_cnt:gCnt Y=M.p (.ct Y):=rfl
def appO(i:Nat)(Y:DSt)(d:D):Option D->M Out
 | some (.lst ds)=>if ds.length<sizeLine then M.p (.nx (Y.set i (some (.lst (ds++[d]))))) else none
 | _=>none
def jq4{i:Nat}{Y:DSt}{d:D}{ds:List D}(h:ds.length<sizeLine):appO i Y d (some (.lst ds))=M.p (.nx (Y.set i (some (.lst (ds++[d]))))):=if_pos h
@[simp] theorem jCh(i:Nat):gApp i fa Y=(fa Y).b fun d=>appO i Y d (Y[i]?).join:=rfl
@[simp] theorem jCj:gFor fi tg g1 Y=(fi Y).b fun ds=>forD g1 tg ds Y:=rfl
@[simp] theorem jCl:jf6 ki fl Y=(fl Y).b fun ds=>M.o (ki ds):=rfl
@[simp] theorem jAd:jil fa Y=(fa Y).b fun d=>M.o (seqD d):=rfl
@[simp] theorem e_yes:tYes Y=M.p true:=rfl
@[simp] theorem jx0(d:D):outD (.rt d)=M.p d:=rfl
@[simp] theorem jIq(Y:DSt):outD (.nx Y)=M.p .non:=rfl
def jhr(N:Nat)(x0:D):mir 1 N g1 [x0]=(g1 (some x0::List.replicate (N-1) none)).b outD:=rfl
def jfg(N:Nat)(x0 x1:D):mir 2 N g1 [x0,x1]=(g1 (some x0::some x1::List.replicate (N-2) none)).b outD:=rfl
def jkm(N:Nat)(x0 x1 x2:D):mir 3 N g1 [x0,x1,x2]=(g1 (some x0::some x1::some x2::List.replicate (N-3) none)).b outD:=rfl
def jAe(N:Nat)(x0 x1 x2 x3:D):mir 4 N g1 [x0,x1,x2,x3]=(g1 (some x0::some x1::some x2::some x3::List.replicate (N-4) none)).b outD:=rfl
@[simp] theorem b_none{α β:Type}(f:α->M β):M.b none f=none:=rfl
@[simp] theorem jBt{α β γ:Type}(m:M α)(f:α->M β)(h:β->M γ):(m.b f).b h=m.b fun a=>(f a).b h:=by
 cases m with
 | none=>rfl
 | some e=>cases e<;>rfl
@[simp] theorem jFk{own:Nat}{caps:qf}{tc:DSt->M Bool}:jgx own caps fi tg tc fa Y=(fi Y).b fun ds=>M.o ((jcy tg tc fa ds (jed own caps Y)).bind jaw):=rfl
end
@[simp] theorem lt_int(i j:Int):gLt (.int i) (.int j)=some (.bl (decide (i<j))):=rfl
@[simp] theorem le_int(i j:Int):gLe (.int i) (.int j)=some (.bl (decide (i<=j))):=rfl
@[simp] theorem gt_int(i j:Int):gGt (.int i) (.int j)=some (.bl (decide (j<i))):=rfl
@[simp] theorem jFv(i j:Int):gGe (.int i) (.int j)=some (.bl (decide (j<=i))):=rfl
@[simp] theorem add_int(i j:Int):gAdd (.int i) (.int j)=some (.int (i+j)):=rfl
@[simp] theorem sub_int(i j:Int):gSub (.int i) (.int j)=some (.int (i-j)):=rfl
@[simp] theorem neg_int(i:Int):gNeg (.int i)=some (.int (-i)):=rfl
def jbz{i j:Int}(h:0<j):gMod (.int i) (.int j)=some (.int (i % j)):=if_pos h
def Bt(k:Nat)(i:Int):Prop:=i.natAbs<2 ^ k
def Bt.mono{a b:Nat}{i:Int}(h:Bt a i)(hab:a<=b):Bt b i:=zcx h (Nat.pow_le_pow_right (by decide) hab)
def Bt.mul{a b:Nat}{i j:Int}(h:Bt a i)(k:Bt b j):Bt (a+b) (i*j):=by
 unfold Bt at *;rw[Int.natAbs_mul,Nat.pow_add];exact Nat.mul_lt_mul'' h k
def Bt.add{a:Nat}{i j:Int}(h:Bt a i)(k:Bt a j):Bt (a+1) (i+j):=by
 unfold Bt at *;rw[Nat.pow_succ];omega
def Bt.neg{a:Nat}{i:Int}(h:Bt a i):Bt a (-i):=by unfold Bt at *;omega
def Bt.big{k:Nat}{i:Int}(h:Bt k i)(hk:k<=100000):jhm i=true:=by
 have h':=zcx h (Nat.pow_le_pow_right (by decide:2 > 0) hk);rw[<- jtp] at h';unfold jhm BIG;rw[Bool.and_eq_true,decide_eq_true_eq,decide_eq_true_eq];omega
def jGk{a b:Nat}{i j:Int}(h:Bt a i)(k:Bt b j)(ha:a<=100000:=by decide)(hb:b<=100000:=by decide):gMul (.int i) (.int j)=some (.int (i*j)):=by
 have:(jhm i&&jhm j)=true:=by rw[h.big ha,k.big hb];rfl
 exact if_pos this
def jce{i j:Int}(h:0<j)(h2:j<2 ^ 200):jdf (.int i) (.int j)=some (.int (i / j)):=by
 refine if_pos ⟨h,?_⟩;unfold DIVB;have:(2 ^ 200:Nat)<=2 ^ 9000:=Nat.pow_le_pow_right (by decide) (by decide);rw[<- jtq] at this;omega
def jDs{i:Int}{j:Int}(h:0<=j/\j<=1000/\-(2 ^ 60)<i/\i<2 ^ 60):gPow (.int i) (.int j)=some (.int (i ^ j.toNat)):=if_pos h
def atI_get{α:Type}{xs:List α}{j:Nat}{v:α}(h:xs[j]? = some v):atI xs (j:Int)=some v:=by
 have hj:=(zbb.mp h).1;unfold atI ixN;rw[if_pos (by omega),if_pos (by omega)];simpa using h
@[simp] theorem ix_t(ds:List D)(i:Int):gIx (.tup ds) (.int i)=atI ds i:=rfl
@[simp] theorem ix_l(ds:List D)(i:Int):gIx (.lst ds) (.int i)=atI ds i:=rfl
@[simp] theorem at0{α:Type}(x:α)(xs:List α):atI (x::xs) 0=some x:=by
 have:=atI_get (xs:=x::xs) (j:=0) (v:=x) rfl;simpa using this
@[simp] theorem at1{α:Type}(x y:α)(xs:List α):atI (x::y::xs) 1=some y:=by
 have:=atI_get (xs:=x::y::xs) (j:=1) (v:=y) rfl;simpa using this
@[simp] theorem at2{α:Type}(x y z:α)(xs:List α):atI (x::y::z::xs) 2=some z:=by
 have:=atI_get (xs:=x::y::z::xs) (j:=2) (v:=z) rfl;simpa using this
@[simp] theorem at3{α:Type}(x y z w:α)(xs:List α):atI (x::y::z::w::xs) 3=some w:=by
 have:=atI_get (xs:=x::y::z::w::xs) (j:=3) (v:=w) rfl;simpa using this
@[simp] theorem jnj(ds:List D):kLen [.lst ds]=some (.int ds.length):=rfl
@[simp] theorem jJd(ds:List D):kLen [.tup ds]=some (.int ds.length):=rfl
@[simp] theorem jEm(ds:List D):kTuple [.lst ds]=some (.tup ds):=rfl
@[simp] theorem jF8(ds:List D):kList [.lst ds]=some (.lst ds):=rfl
@[simp] theorem range1(j:Int):jb1 [.int j]=some (jcc 0 j.toNat):=rfl
@[simp] theorem jHf(i j:Int):jb1 [.int i,.int j]=some (jcc i (j-i).toNat):=rfl
@[simp] theorem enum_l(xs:List D):jx2 [.lst xs]=some (jCn 0 xs):=rfl
@[simp] theorem jD9(ds:List D):seqD (.lst ds)=some ds:=rfl
@[simp] theorem jJ0(ds:List D):seqD (.tup ds)=some ds:=rfl
@[simp] theorem kmin(i j:Int):kMin [.int i,.int j]=some (.int (if j<i then j else i)):=rfl
@[simp] theorem jI8(b:Bool):kInt [.bl b]=some (.int (if b then 1 else 0)):=rfl
@[simp] theorem jKc(x y:D):jb2 [x,y]=some (.tup [x,y]):=rfl
@[simp] theorem jKd(x y z:D):jb2 [x,y,z]=some (.tup [x,y,z]):=rfl
@[simp] theorem tupD4(x y z w:D):jb2 [x,y,z,w]=some (.tup [x,y,z,w]):=rfl
@[simp] theorem jJh:jaw []=some (.lst []):=rfl
@[simp] theorem jJi(x:D):jaw [x]=some (.lst [x]):=rfl
@[simp] theorem jJj(x y:D):jaw [x,y]=some (.lst [x,y]):=rfl
@[simp] theorem jJk(x y z:D):jaw [x,y,z]=some (.lst [x,y,z]):=rfl
def jvo{ds:List D}(h:ds.length<=sizeLine):jaw ds=some (.lst ds):=if_pos h
@[simp] theorem jAg(i j:Int):gEq (.int i) (.int j)=some (.bl (i == j)):=rfl
@[simp] theorem jAv(i j:Int):gNe (.int i) (.int j)=some (.bl !(i == j)):=rfl
def jzt(ns:List Int):kSum [.lst (ns.map .int)]=some (.int ns.sum):=by
 show (match seqD (.lst (ns.map D.int)) with|some ds=>(jl0 ds).map fun (ns:List Int)=>D.int ns.sum|none=>none)=_;rw[jD9];dsimp only;rw[ju9];rfl
@[simp] theorem jku(i:Int):kIsi [.int i,.ty "int"]=some (.bl true):=rfl
@[simp] theorem jjs(i:Int):kIsi [.int i,.ty "bool"]=some (.bl false):=rfl
@[simp] theorem jni(i:List D):kIsi [.tup i,.ty "tuple"]=some (.bl true):=rfl
theorem jFa{c:DSt}{fe:DSt->M D}{F:D->D}:∀ (ds:List D) (x:Option D),(∀ d∈ds,fe (some d::c)=some (.ok (F d)))->jcy (gName 0) tYes fe ds (x::c)=some (ds.map F)
 | [],_,_=>rfl
 | d::ds,x,h=>by
  unfold jcy;have e1:gName 0 d (x::c)=some (some d::c):=rfl;rw[e1];dsimp only [tYes,M.p];rw[h d zaa];dsimp only;rw[jFa ds (some d) fun e he=>h e (zaw _ he)];rfl
theorem jxq:∀ (xs ys:List D),zipD xs ys=(xs.zip ys).map fun p=>.tup [p.1,p.2]
 | [],_=>by simp[zipD]
 | _::_,[]=>by simp[zipD]
 | x::xs,y::ys=>by simp[zipD,jxq xs ys]
theorem juy{g:DSt->M Out}{tg:D->DSt->Option DSt}(I:List D->DSt->Prop)(h:∀ d ds Y,I (d::ds) Y->∃ Y1,tg d Y=some Y1/\∃ Y2,(g Y1=some (.ok (.nx Y2))\/g Y1=some (.ok (.ct Y2)))/\I ds Y2) :
  ∀ (ds:List D) (Y:DSt),I ds Y->∃ Y',forD g tg ds Y=some (.ok (.nx Y'))/\I [] Y'
 | [],Y,hi=>⟨Y,rfl,hi⟩
 | d::ds,Y,hi=>by
  obtain⟨Y1,e1,Y2,e2,i2⟩:=h d ds Y hi;obtain⟨Y',e3,i3⟩:=juy I h ds Y2 i2;refine⟨Y',?_,i3⟩;unfold forD;rw[e1];dsimp only;rcases e2 with e2|e2<;>(rw[e2];exact e3)
@[simp] theorem jIr(i:Nat)(d:D)(Y:DSt):gName i d Y=some (Y.set i (some d)):=rfl
@[simp] theorem jIs(i j:Nat)(x y:D)(Y:DSt):jf1 i j (.tup [x,y]) Y=some ((Y.set i (some x)).set j (some y)):=rfl
def getI:M D->Int
 | some (.ok (.int i))=>i
 | _=>0
def ju1{m:M D}{i:Int}(h:m=some (.ok (.int i))):m=some (.ok (.int (getI m))):=by rw[h];rfl
def jkp{g:DSt->M Out}{tg:D->DSt->Option DSt}(ds:List D)(I:Nat->DSt->Prop)
  (h:∀ (j:Nat) (hj:j<ds.length) (Y:DSt),I j Y->∃ Y1,tg ds[j] Y=some Y1/\∃ Y2,(g Y1=some (.ok (.nx Y2))\/g Y1=some (.ok (.ct Y2)))/\I (j+1) Y2) (Y:DSt) (h0:I 0 Y) :
  ∃ Y',forD g tg ds Y=some (.ok (.nx Y'))/\I ds.length Y':=by
 obtain⟨Y',e,j,hd,hj,hi⟩:=juy (g:=g) (tg:=tg) (fun rem Y=>∃ j,rem=ds.drop j/\j<=ds.length/\I j Y) (fun d rem Y ⟨j,hr,hj,hi⟩=>by
  have hlt:j<ds.length:=by
   by_cases q:j<ds.length
   ·exact q
   ·rw[List.drop_eq_nil_of_le (by omega)] at hr;cases hr
  rw[List.drop_eq_getElem_cons hlt] at hr;obtain⟨rfl,rfl⟩:=List.cons.inj hr;obtain⟨Y1,e1,Y2,e2,i2⟩:=h j hlt Y hi;exact⟨Y1,e1,Y2,e2,j+1,rfl,hlt,i2⟩) ds Y ⟨0,rfl,Nat.zero_le _,h0⟩
 refine⟨Y',e,?_⟩;have:j=ds.length:=by
  have:=congrArg List.length hd;simp at this;omega
 rw[<- this];exact hi
@[simp] theorem jjh(lo:Int)(n:Nat):(jcc lo n).length=n:=by simp[jcc]
@[simp] theorem jjg(lo:Int)(n j:Nat)(h:j<(jcc lo n).length):(jcc lo n)[j]=.int (lo+j):=by simp[jcc]
def js7(n:Nat)(F:D->D):(jcc 0 n).map F=(List.range n).map fun j=>F (.int (j:Nat)):=by
 unfold jcc;rw[List.map_map];apply List.map_congr_left;intro a _;simp
def js1{lo:Int}{n:Nat}{d:D}(h:d∈jcc lo n):∃ j:Nat,j<n/\d=.int (lo+j):=by
 unfold jcc at h;obtain⟨j,hj,rfl⟩:=zcv.mp h;exact⟨j,List.mem_range.mp hj,rfl⟩
def jIx{c:DSt}{fe:DSt->M D}{F:Nat->D}(n:Nat)(x:Option D)(h:∀ j:Nat,j<n->fe (some (.int (j:Nat))::c)=some (.ok (F j))):jcy (gName 0) tYes fe (jcc 0 n) (x::c)=some ((List.range n).map F):=by
 have:=jFa (c:=c) (fe:=fe) (F:=fun d=>match d with|.int i=>F i.toNat|_=>.non) (jcc 0 n) x (fun d hd=>by
  obtain⟨j,hj,rfl⟩:=js1 hd;have e:(0:Int)+(j:Nat)=(j:Nat):=Int.zero_add _;rw[e,h j hj];rfl)
 rw[this,js7];rfl
section
variable {Y:DSt}{fa fb:DSt->M D}{fl:DSt->M (List D)}{g:D->D->Option D}{k:List D->Option D}
@[simp] theorem jI0(i:Nat):gAug i g fa Y=(M.o (Y[i]?).join).b fun x=>(fa Y).b fun y=>(M.o (g x y)).b fun d=>M.p (.nx (Y.set i (some d))):=rfl
@[simp] theorem jB3(i j:Int):gCat (.int i) (.int j)=some (.int (i+j)):=rfl
def jB5{x y:Str}(h:x.length+y.length<=sizeLine):gCat (.str x) (.str y)=some (.str (x++y)):=if_pos h
def jB4{x y:List D}(h:x.length+y.length<=sizeLine):gCat (.lst x) (.lst y)=some (.lst (x++y)):=if_pos h
def je6{a b:Nat}{i j:Int}(h:Bt a i)(k:Bt b j)(ha:a<=100000:=by decide)(hb:b<=100000:=by decide):jdt (.int i) (.int j)=some (.int (i*j)):=jGk h k ha hb
theorem jn3{α:Type}(x:α):∀ n:Nat,(List.replicate n [x]).flatten=List.replicate n x
 | 0=>rfl
 | n+1=>by rw[List.replicate_succ,List.flatten_cons,jn3 x n];rfl
def jyr{x:D}{n:Nat}(h1:1<=n)(h2:n<=1000):jdt (.tup [x]) (.int n)=some (.tup (List.replicate n x)):=by
 have:jdt (.tup [x]) (.int n)=some (.tup (List.replicate (n:Int).toNat [x]).flatten):=if_pos ⟨by simp,by omega,by omega,by simp;omega⟩;rw[this,jn3];simp
def jFm(x:D)(n:Nat)(hl:fl Y=M.p [x])(hb:fb Y=M.p (.int n))(hn:n<=1000):fRep fl fb Y=M.p (.lst (List.replicate n x)):=by
 unfold fRep;rw[hl,hb];have h1:([x]:List D).length<=sizeLine:=by show 1<=sizeLine;decide
 have h3:1000<=sizeLine:=by decide
 have h2:-(2 ^ 63)<=(n:Int)/\(n:Int)<2 ^ 63/\([x]:List D).length*(n:Int).toNat<=sizeLine:=⟨by omega,by omega,by simp;omega⟩
 rw[M.b_p,if_pos h1,M.b_p];dsimp only;rw[if_pos h2,jn3];rfl
@[simp] theorem jCi(h:D->DSt->Option DSt):gAsg h fa Y=(fa Y).b fun d=>match h d Y with
 | some Y'=>M.p (.nx Y')
 | none=>none:=rfl
@[simp] theorem e_tup3(i j l:Nat)(x y z:D):jst i j l (.tup [x,y,z]) Y=some (((Y.set i (some x)).set j (some y)).set l (some z)):=rfl
@[simp] theorem ju8(b:Bool):kIntT [.bl b]=some (.int (if b then 1 else 0)):=rfl
theorem jty:∀ bs:List Bool,blsD (bs.map .bl)=some bs
 | []=>rfl
 | b::bs=>by rw[List.map_cons];unfold blsD;rw[jty bs];rfl
def jBp(bs:List Bool):kAll [.lst (bs.map .bl)]=some (.bl (bs.all id)):=by
 show (blsD (bs.map D.bl)).map (fun ns=>D.bl (ns.all id))=_;rw[jty];rfl
def joo{c:DSt}{fe:DSt->M D}{α:Type}{K:α->D×D}{F:α->D}(ps:List α)(x y:Option D)(h:∀ p∈ps,fe (some (K p).1::some (K p).2::c)=some (.ok (F p))):jcy (jf1 0 1) tYes fe (ps.map fun p=>.tup [(K p).1,(K p).2]) (x::y::c)=some (ps.map F):=by
 induction ps generalizing x y with
 | nil=>rfl
 | cons p ps ih =>
  rw[List.map_cons];unfold jcy;have e1:jf1 0 1 (.tup [(K p).1,(K p).2]) (x::y::c)=some (some (K p).1::some (K p).2::c):=rfl;rw[e1];dsimp only [tYes,M.p];rw[h p zaa];dsimp only;rw[ih (some (K p).1) (some (K p).2) fun e he=>h e (zaw _ he)];rfl
def jie{c:DSt}{fe:DSt->M D}{α:Type}{K:α->D}{F:α->D}(ps:List α)(x:Option D)(h:∀ p∈ps,fe (some (K p)::c)=some (.ok (F p))):jcy (gName 0) tYes fe (ps.map K) (x::c)=some (ps.map F):=by
 induction ps generalizing x with
 | nil=>rfl
 | cons p ps ih =>
  rw[List.map_cons];unfold jcy;have e1:gName 0 (K p) (x::c)=some (some (K p)::c):=rfl;rw[e1];dsimp only [tYes,M.p];rw[h p zaa];dsimp only;rw[ih (some (K p)) fun e he=>h e (zaw _ he)];rfl
def jxr(as bs:List Int):zipD (as.map .int) (bs.map .int)=(as.zip bs).map fun p=>.tup [.int p.1,.int p.2]:=by
 rw[jxq,List.zip_map,List.map_map];rfl
end
def jBw{α β:Type}(r:Option (Except XD α×Sto))(f:α->MS β):Option (Except XD β×Sto):=match r with
 | none=>none
 | some (.error x,Ω')=>some (.error x,Ω')
 | some (.ok a,Ω')=>f a Ω'
section
variable {α β:Type}{Ω Ω':Sto}{Y:DSt}{fa fb fo:DSt->MS D}{fl:DSt->MS (List D)}{ta:DSt->MS Bool}{g1 g2:DSt->MS Out}{g:D->D->Option D}
@[simp] theorem s_b(m:MS α)(f:α->MS β):(m.b f) Ω=jBw (m Ω) f:=by
 unfold MS.b jBw
 cases m Ω with
 | none=>rfl
 | some p=>obtain⟨q,Ω1⟩:=p;cases q<;>rfl
@[simp] theorem jho(a:α)(f:α->MS β):jBw (some (.ok a,Ω')) f=f a Ω':=rfl
@[simp] theorem s_p(a:α):MS.p a Ω=some (.ok a,Ω):=rfl
@[simp] theorem s_lp(a:α):MS.l (M.p a) Ω=some (.ok a,Ω):=rfl
@[simp] theorem jJu(a:α):MS.l (some (.ok a):M α) Ω=some (.ok a,Ω):=rfl
@[simp] theorem s_o(a:α):MS.o (some a) Ω=some (.ok a,Ω):=rfl
@[simp] theorem s_lF(f:DSt->M α):lF f Y=MS.l (f Y):=rfl
@[simp] theorem jJt(cs:List Str)(f:Str):mGet cs f fa Y=(fa Y).b fun x=>getO cs f x:=rfl
@[simp] theorem jBa:jfm fa fl Y=(fa Y).b fun x=>(fl Y).b fun xs=>MS.p (x::xs):=rfl
@[simp] theorem s_2:m2 g fa fb Y=(fa Y).b fun x=>(fb Y).b fun y=>MS.o (g x y):=rfl
@[simp] theorem s_L(k:List D->Option D):mL k fl Y=(fl Y).b fun xs=>MS.o (k xs):=rfl
@[simp] theorem jqu(m:List D->M D):jin m fl Y=(fl Y).b fun ds=>MS.l (m ds):=rfl
@[simp] theorem jHj(m:List D->MS D):jh8 m fl Y=(fl Y).b m:=rfl
@[simp] theorem jHp(i:Nat):eSet i fa Y=(fa Y).b fun d=>MS.p (.nx (Y.set i (some d))):=rfl
@[simp] theorem jHo:eRet fa Y=(fa Y).b fun d=>MS.p (.rt d):=rfl
@[simp] theorem jHk:juu fa Y=(fa Y).b fun _=>MS.p (.nx Y):=rfl
@[simp] theorem jJw(cs:List Str)(f:Str):ePut cs f fo fa Y=(fa Y).b fun d=>(fo Y).b fun x=>(putO cs f x d).b fun _=>MS.p (.nx Y):=rfl
@[simp] theorem s_if:eIf ta g1 g2 Y=(ta Y).b fun b=>if b=true then g1 Y else g2 Y:=rfl
@[simp] theorem s_nx:eNx Y=MS.p (.nx Y):=rfl
@[simp] theorem jJv:mNot ta Y=(ta Y).b fun x=>MS.p !x:=rfl
@[simp] theorem jJx:mTru fa Y=(fa Y).b fun x=>MS.o (truD x):=rfl
def asBS:D->MS Bool
 | .bl k=>MS.p k
 | _=>fun _=>none
@[simp] theorem jBs(k:Bool):asBS (.bl k)=MS.p k:=rfl
@[simp] theorem s_B:mB fa Y=(fa Y).b asBS:=by
 show (fa Y).b _=_;congr 1
def seqS(g2:DSt->MS Out):Out->MS Out
 | .nx Y'=>g2 Y'
 | o=>MS.p o
@[simp] theorem jqx(Y':DSt):seqS g2 (.nx Y')=g2 Y':=rfl
@[simp] theorem jD8(d:D):seqS g2 (.rt d)=MS.p (.rt d):=rfl
@[simp] theorem jD6:eSeq g1 g2 Y=(g1 Y).b (seqS g2):=by
 show (g1 Y).b _=_;congr 1
@[simp] theorem jzl(d:D):outE (.rt d)=MS.p d:=rfl
@[simp] theorem jzk(Y:DSt):outE (.nx Y)=MS.p .non:=rfl
def jHm(N:Nat)(x0:D):mirE 1 N g1 [x0]=(g1 (some x0::List.replicate (N-1) none)).b outE:=rfl
def jw3(N:Nat)(x0 x1:D):mirE 2 N g1 [x0,x1]=(g1 (some x0::some x1::List.replicate (N-2) none)).b outE:=rfl
def jHn(N:Nat)(x0 x1 x2:D):mirE 3 N g1 [x0,x1,x2]=(g1 (some x0::some x1::some x2::List.replicate (N-3) none)).b outE:=rfl
@[simp] theorem jBb(c x:Str)(m:List D->MS D):jl2 c x m fo fl Y=(fo Y).b fun o=>match o with
 | .obj i=>jnp c x m i fl Y
 | _=>fun _=>none:=rfl
@[simp] theorem jw2(c:Str)(m:List D->MS D):joy c m fl Y=(fl Y).b fun ds=>jsx c m ds:=rfl
@[simp] theorem jHl(fi:DSt->MS (List D))(tg:D->DSt->Option DSt):eFor fi tg g1 Y=(fi Y).b fun ds=>forE g1 tg ds Y:=rfl
end
section
variable {X:Cx}{O:List Nat}{E:XK}{b:Expr}{fb:DSt->M D}{pos:Pos}
def jui(i:Nat){x:Str}{p:Pos}(ho:O.contains i=true)(hb:DE X O E b fb)(hN:X.N[i]? = some x:=by rfl)(hv:Vis X.env.scope x:=by first|exact Or.inl rfl|exact Or.inr (Or.inl rfl)|exact Or.inr (Or.inr rfl))
  (hd:(x == ("__debug__":Str))=false:=by decide) (hcd:(x == ("__classdict__":Str))=false:=by decide) (hs:jpz b:=by exact fun _ _=>rfl):DE X O E (.Subscript (.Name x p) b pos) (f2 gIx (vR i) fb):=by
 rintro U s Z H Q I ⟨J,Hz,F,Y,r,R,hf,k⟩;have ho':i∈O:=zbc.mp ho;obtain⟨l,xs,ds,q1,q2,q3,q4,q5⟩:=R.own i ho';refine jG0 jap (jmm hN hv hd hcd) hb hs U s Z H Q I ⟨.ref l,q2,?_⟩;have e0:vR i Y=some (.ok (.lst ds)):=by unfold vR;rw[q1];rfl
 rcases M.b_inv hf with ⟨x,e1,hf⟩|⟨x,e1,rfl⟩
 ·rw[e0] at e1;cases e1;rcases M.b_inv hf with ⟨y,e2,hf⟩|⟨y,e2,rfl⟩
  ·refine⟨J,Hz,F,Y,.ok y,R,e2,fun v H2 s2 r2=>?_⟩;obtain⟨d,hd,rfl⟩:=M.o_inv hf;unfold gIx at hd
   split at hd
   ·rename_i z;cases z
    obtain⟨w,e,r⟩:=jqq q5 hd;exact .inl ⟨l,xs,_,w,rfl,rep_int.mp r2,SqL.of (s2 _ _ q3),e,k w H2 s2 (r.mono (jas s2))⟩
   ·rename_i z;cases z
   ·rename_i z;cases z
   ·cases hd
  ·exact⟨J,Hz,F,Y,.error y,R,e2,k⟩
 ·rw[e0] at e1;cases e1
end
def jD0(own:Nat)(caps:qf)(Y:DSt):jed own caps Y=List.replicate own none++caps.map fun p=>(Y[p.2]?).join:=rfl
def zip_tt(xs ys:List D):jgp [.tup xs,.tup ys]=some (zipD xs ys):=rfl
def jIp(xs ys:List D):jgp [.tup xs,.lst ys]=some (zipD xs ys):=rfl
def jIo(xs ys:List D):jgp [.lst xs,.tup ys]=some (zipD xs ys):=rfl
def jIn(xs ys:List D):jgp [.lst xs,.lst ys]=some (zipD xs ys):=rfl
def w_if{t:DSt->M Bool}{g1 g2:DSt->M Out}{Y:DSt}{b:Bool}(h:t Y=some (.ok b)):gIf t g1 g2 Y=if b=true then g1 Y else g2 Y:=by rw[jCk,h,M.b_ok]
def jlm{t:DSt->M Bool}{g1:DSt->M Out}{Y:DSt}(h:t Y=some (.ok false)):gIf t g1 gNx Y=some (.ok (.nx Y)):=by rw[w_if h,if_neg (by decide)];rfl
def jq1{fa:DSt->M D}{Y:DSt}{d:D}(i:Nat)(hd:fa Y=some (.ok d)):gSet i fa Y=some (.ok (.nx (Y.set i (some d)))):=by rw[juw,hd,M.b_ok];rfl
def jKg{fi:DSt->M (List D)}{tg:D->DSt->Option DSt}{g:DSt->M Out}{Y:DSt}{ds:List D}(h:fi Y=some (.ok ds)):gFor fi tg g Y=forD g tg ds Y:=by rw[jCj,h,M.b_ok]
def jIc{fa:DSt->M D}{Y:DSt}{d:D}{ds:List D}(i:Nat)(hd:fa Y=some (.ok d))(hi:Y[i]? = some (some (.lst ds)))(hl:ds.length<=100000):gApp i fa Y=some (.ok (.nx (Y.set i (some (.lst (ds++[d])))))):=by
 rw[jCh,hd,M.b_ok,hi];exact jq4 (by have:=sizeLine_eq;omega)
def jx7{g:DSt->M Out}{tg:D->DSt->Option DSt}{d:D}{ds:List D}{Y Y1 Y2:DSt}(h1:tg d Y=some Y1)(h2:g Y1=some (.ok (.nx Y2))):forD g tg (d::ds) Y=forD g tg ds Y2:=by
 conv=>lhs;unfold forD
 rw[h1];dsimp only;rw[h2];rfl
def lst_le{ds:List D}(h:ds.length<=1000):jaw ds=some (.lst ds):=jvo (zdy h (by decide))
def stp:=And.intro (@if_true.{1}) <| And.intro (@if_false.{1}) <| And.intro (@Bool.false_eq_true) <| And.intro (@jor) <| And.intro (@juw) <| And.intro (@e_2) <| And.intro (@e_1) <| And.intro (@e_t2) <| And.intro (@jx1) <| And.intro (@jCk) <| And.intro (@jCj) <| And.intro (@jCl) <| And.intro (@jAd) <| And.intro (@jFk) <| And.intro (@juv) <| And.intro (@jAc) <| And.intro (@jFq) <| And.intro (@jFl) <| And.intro (@e_C) <| And.intro (@e_L) <| And.intro (@e_if) <| And.intro (@jFp) <| And.intro (@jFn) <| And.intro (@jI2) <| And.intro (@jFo) <| And.intro (@jI1) <| And.intro (@e_nx) <| And.intro (@jI0) <| And.intro (@jCh) <| And.intro (@jCg) <| And.intro (@e_or) <| And.intro (@M.o_some) <| And.intro (@M.b_p) <| And.intro (@M.b_ok) <| And.intro (@jBt) <| And.intro (@jw7) <| And.intro (@jw8) <| And.intro (@jx0) <| And.intro (@ix_t) <| And.intro (@ix_l) <| And.intro (@at0) <| And.intro (@at1) <| And.intro (@at2) <| And.intro (@at3) <| And.intro (@jD9) <| And.intro (@jJ0) <| And.intro (@jEm) <| And.intro (@jF8) <| And.intro (@jnj) <| And.intro (@jJd) <| And.intro (@jKc) <| And.intro (@jKd) <| And.intro (@jJh) <| And.intro (@jJi) <| And.intro (@jJj) <| And.intro (@jJk) <| And.intro (@jB3) <| And.intro (@sub_int) <| And.intro (@neg_int) <| And.intro (@jAg) <| And.intro (@jAv) <| And.intro (@lt_int) <| And.intro (@le_int) <| And.intro (@gt_int) <| And.intro (@jFv) <| And.intro (@jE1) <| And.intro (@jH6) <| And.intro (@range1) <| And.intro (@jHf) <| And.intro (@Int.toNat_natCast) <| And.intro (@jxr) <| And.intro (@jD0) <| And.intro (@zip_tt) <| And.intro (@jIp) <| And.intro (@jIo) <| And.intro (@jIn) <| And.intro (@jku) <| And.intro (@jjs) <| And.intro (@ju8) <| And.intro (@List.replicate_succ.{0}) <| And.intro (@List.replicate_zero.{0}) <| And.intro (@List.set_cons_succ.{0}) <| And.intro (@List.set_cons_zero.{0}) <| And.intro (@List.getElem?_cons_zero.{0}) <| And.intro (@List.getElem?_cons_succ.{0}) <| And.intro (@Option.join_some.{0}) <| And.intro (@List.map_nil.{0,0}) <| And.intro (@List.map_cons.{0,0}) <| And.intro (@List.append_nil.{0}) <| And.intro (@List.cons_append.{0}) <| And.intro (@List.nil_append.{0}) <| And.intro (@Option.bind_some.{0,0}) <| True.intro
def jEe{α:Type}(xs:List α)(f:α->Int):kSum [.lst (xs.map fun x=>.int (f x))]=some (.int (xs.map f).sum):=by
 have:(xs.map fun x=>D.int (f x))=(xs.map f).map .int:=by rw[List.map_map];rfl
 rw[this,jzt]
end DL
namespace L2
open PyProof.Rows
section
end
end L2
namespace DL
open L2
section
end
section
variable {Jz J J':Rho}{Sz S S' F:qd}{Hz H:Hp}{K:W.Frag}{mg:qa}{O:List Nat}{Z:St}{Y:DSt}{Ω:Sto}
def SOk.no_tup{J:Rho}{S:qd}{K:W.Frag}{mg:qa}{H Hv:Hp}{a:Addr}{so:SO}(h:SOk J S K mg H Hv a so)(xs:List V):H a≠some (.tup xs):=fun q=>by
 cases so with
 | ins c fs =>
  obtain⟨_,_,_,_,p,_⟩:=h;rw[q] at p;cases p
 | lst ds =>
  obtain⟨_,p,_⟩:=h;rw[q] at p;cases p
 | tab _ _ _ _ =>
  obtain⟨_,p,_⟩:=h;rw[q] at p;cases p
 | dct _ =>
  obtain⟨_,p,_⟩:=h;rw[q] at p;cases p
 | exc c j =>
  cases h with
  | no f C h1 h2=>rw[q] at h2;exact jIm (zby h2).symm
  | yes f j C dx h1 h2 h3=>rw[q] at h3;exact jIm (zby h3).symm
 | xd fs =>
  obtain⟨_,p,_⟩:=h;rw[q] at p;exact jKj (zby p).symm
def RM.putS(R:RM Jz Sz Hz F K mg O J S H Z Y Ω){i:Nat}{a:Addr}{so0 so':SO}{o0 o':HO}(hi:Ω[i]? = some so0)(ha:J i=some a)(hS:S a=true)(hH:H a=some o0)(hno:∀ y,HO.own y≠o0)(hr:SOk J S K mg (upd H a o') (hid H (fob (un F S) Z O)) a so') :
  RM Jz Sz Hz F K mg O J S (upd H a o') Z Y (Ω.set i so')/\hid (upd H a o') (fob (un F S) Z O)=hid H (fob (un F S) Z O):=by
 have hF:un F S a=true:=un_t.mpr (.inr hS);have hh:hid (upd H a o') (fob (un F S) Z O)=hid H (fob (un F S) Z O):=je2 (jg1 a hF);have il:i<Ω.length:=(zbb.mp hi).1;refine⟨⟨R.rs.updF hF,R.rho,fun b o h1 h2=>?_,R.old,R.new,R.own0,R.ff,?_⟩,hh⟩
 ·have hb:b≠a:=by
   rintro rfl;rcases R.new b hS with q|q
   ·rw[q] at h1;cases h1
   ·rw[q] at h2;cases h2
  rw[jai hb];exact R.same b o h1 h2
 ·rw[hh];refine⟨fun j so hj=>?_,R.sto.inj,fun j hj=>R.sto.top j (by simpa using hj),fun b hb=>jg9 (R.sto.fin b hb),jlk R.sto.tv fun xs z=>hr.no_tup xs (by rw[jam,z])⟩
  by_cases hji:j=i
  ·subst hji;rw[zcz il] at hj;cases hj;exact⟨a,ha,hS,hr⟩
  ·rw[zbw (Ne.symm hji)] at hj;obtain⟨a',q1,q2,q3⟩:=R.sto.ats j so hj;have ne:a'≠a:=by
    rintro rfl;exact hji (R.sto.inj j i a' q1 ha)
   refine⟨a',q1,q2,?_⟩
   cases so with
   | ins c' fs' =>
    obtain⟨C',dx',vfs',p1,p2,p3,p4,p5⟩:=q3;have nd:dx'≠a:=jC9 p3 hH (hno _);exact⟨C',dx',vfs',p1,by rw[jai ne];exact p2,by rw[jai nd];exact p3,p4,p5⟩
   | lst ds0 =>
    obtain⟨xs0,p1,p2⟩:=q3;exact⟨xs0,by rw[jai ne];exact p1,p2⟩
   | tab _ _ _ _ =>
    obtain⟨ps,p1,p2,p3⟩:=q3;exact⟨ps,by rw[jai ne];exact p1,p2,p3⟩
   | dct _ =>
    obtain⟨vk,p1,p2,p3⟩:=q3;exact⟨vk,by rw[jai ne];exact p1,p2,p3⟩
   | exc c j=>exact ExcOk.mono (fun _ _ z=>z) (jai ne) q3
   | xd fs =>
    obtain⟨vfs,p1,p2⟩:=q3;exact⟨vfs,by rw[jai ne];exact p1,p2⟩
def RM.newS(R:RM Jz Sz Hz F K mg O J S H Z Y Ω){x:Addr}{nso:SO}{no:HO}(hx:H x=none)(hr:∀ J' S' Hv',RLe J J'->Same (hid H (fob (un F S) Z O)) Hv'->SOk J' S' K mg (upd H x no) Hv' x nso) :
  RM Jz Sz Hz F K mg O (addR J Ω.length x) (addS S x x) (upd H x no) Z Y (Ω++[nso])/\RLe J (addR J Ω.length x) /\
   Same (hid H (fob (un F S) Z O)) (hid (upd H x no) (fob (un F (addS S x x)) Z O)):=by
 have top:=R.sto.top Ω.length (zac _);have l:RLe J (addR J Ω.length x):=fun i a h=>by
  unfold addR
  by_cases e:i=Ω.length
  ·subst e;rw[top] at h;cases h
  ·rw[if_neg e];exact h
 have sm:Same H (upd H x no):=ja7 hx;have old:∀ b,S b=true->addS S x x b=true:=fun b h=>addS_t.mpr (.inl h)
 have new:∀ b,addS S x x b=true->S b=true\/H b=none:=fun b h=>by
  rcases addS_t.mp h with q|rfl|rfl
  ·exact .inl q
  ·exact .inr hx
  ·exact .inr hx
 have ff:∀ b,fob F Z O b=true->addS S x x b=false:=fun b h=>by
  have h2:fob (un F S) Z O b=true:=by rw[<- jfu];exact un_t.mpr (.inl h)
  cases e:addS S x x b with
  | false=>rfl
  | true =>
   rcases addS_t.mp e with q|rfl|rfl
   ·rcases fob_t.mp h with z|z
    ·rw[R.ff b z] at q;cases q
    ·exact absurd z (R.base_S q)
   ·rw[R.fresh hx] at h2;cases h2
   ·rw[R.fresh hx] at h2;cases h2
 have keep:∀ b,S b=true->(upd H x no) b=H b:=R.at_store sm;have vis0:Same (hid H (fob (un F S) Z O)) (hid (upd H x no) (un (fob F Z O) (addS S x x))):=fun b o q=>by
  obtain⟨q1,q2⟩:=hid_some.mp q;refine hid_some.mpr ⟨?_,sm b o q2⟩
  cases e:un (fob F Z O) (addS S x x) b with
  | false=>rfl
  | true =>
   rcases un_t.mp e with z|z
   ·have h2:fob (un F S) Z O b=true:=by rw[<- jfu];exact un_t.mpr (.inl z)
    rw[h2] at q1;cases q1
   ·rcases new b z with z|z
    ·have h2:fob (un F S) Z O b=true:=jg1 b (un_t.mpr (.inr z));rw[h2] at q1;cases q1
    ·rw[z] at q2;cases q2
 have sto:StoOk (addR J Ω.length x) (addS S x x) K mg (upd H x no) (hid (upd H x no) (un (fob F Z O) (addS S x x))) (Ω++[nso]):=by
  refine⟨fun i so hi=>?_,fun i j a h1 h2=>?_,fun i hi=>?_,fun b hb=>?_,jxk (jlk R.sto.tv fun xs z=>(hr J S _ (RLe.refl _) (Same.refl _)).no_tup xs (by rw[jam,z])) vis0⟩
  ·by_cases h:i<Ω.length
   ·rw[List.getElem?_append_left h] at hi;obtain⟨a,q1,q2,q3⟩:=R.sto.ats i so hi;refine⟨a,l i a q1,old a q2,?_⟩
    cases so with
    | ins c' fs' =>
     obtain⟨C',dx',vfs',p1,p2,p3,p4,p5⟩:=q3;exact⟨C',dx',vfs',p1,by rw[keep a q2];exact p2,by rw[keep dx' p4];exact p3,old _ p4,p5.mono l vis0⟩
    | lst ds =>
     obtain⟨xs,p1,p2⟩:=q3;exact⟨xs,by rw[keep a q2];exact p1,(p2.rho l).mono vis0⟩
    | tab _ _ _ _ =>
     obtain⟨ps,p1,p2,p3⟩:=q3;exact⟨ps,by rw[keep a q2];exact p1,p2,p3.mono vis0⟩
    | dct _ =>
     obtain⟨vk,p1,p2,p3⟩:=q3;exact⟨vk,by rw[keep a q2];exact p1,p2,(p3.rho l).mono vis0⟩
    | exc c j=>exact ExcOk.mono l (keep a q2) q3
    | xd fs =>
     obtain⟨vfs,p1,p2⟩:=q3;exact⟨vfs,by rw[keep a q2];exact p1,p2.mono l vis0⟩
   ·have e:i=Ω.length:=by
     have:=(zbb.mp hi).1;simp at this;omega
    subst e;rw[List.getElem?_append_right (zac _),Nat.sub_self] at hi;cases hi;exact⟨x,by unfold addR;rw[if_pos rfl],addS_t.mpr (.inr (.inl rfl)),hr _ _ _ l vis0⟩
  ·have fresh:∀ i a,i≠Ω.length->J i=some a->a≠x:=fun i a hi h z=>by
    subst z;have il:i<Ω.length:=by
     by_cases q:i<Ω.length
     ·exact q
     ·rw[R.sto.top i (by omega)] at h;cases h
    obtain⟨a',q1,q2,_⟩:=R.sto.ats i _ (zax il);rw[h] at q1;cases q1
    exact R.sto.fin a q2 hx
   unfold addR at h1 h2
   by_cases e1:i=Ω.length
   ·by_cases e2:j=Ω.length
    ·rw[e1,e2]
    ·rw[if_pos e1] at h1;rw[if_neg e2] at h2
     cases h1;exact absurd rfl (fresh j _ e2 h2)
   ·by_cases e2:j=Ω.length
    ·rw[if_neg e1] at h1;rw[if_pos e2] at h2
     cases h2;exact absurd rfl (fresh i _ e1 h1)
    ·rw[if_neg e1] at h1;rw[if_neg e2] at h2
     exact R.sto.inj i j a h1 h2
  ·rw[zcc,List.length_singleton] at hi;unfold addR;rw[if_neg (by omega)];exact R.sto.top i (by omega)
  ·rcases addS_t.mp hb with q|rfl|rfl
   ·rw[keep b q];exact R.sto.fin b q
   ·rw[jam];exact fun z=>nomatch z
   ·rw[jam];exact fun z=>nomatch z
 obtain⟨t1,t2⟩:=R.call l (fun b o _ h=>sm b o h) old new ff sto;exact⟨t1,l,t2⟩
end
section
variable {es:List Expr}
inductive AtLI(x y:D)(Ω Ω':Sto)(r:Except XD D):Prop
 | mk (i:Nat) (j:Int) (ds:List D) (d:D) (hx:x=.obj i) (hy:y=.int j) (hi:Ω[i]? = some (.lst ds)) (ha:L2.atI ds j=some d) (hr:r=.ok d) (ho:Ω'=Ω)
inductive ChkI(x:D)(Ω Ω':Sto)(r:Except XD D):Prop
 | mk (i:Nat) (ds:List D) (hx:x=.obj i) (hi:Ω[i]? = some (.lst ds)) (hr:r=.ok x) (ho:Ω'=Ω)
inductive PutI(g:List D->Option (List D))(x:D)(Ω Ω':Sto)(r:Except XD D):Prop
 | mk (i:Nat) (ds es:List D) (hx:x=.obj i) (hi:Ω[i]? = some (.lst ds)) (hg:g ds=some es) (hr:r=.ok .non) (ho:Ω'=Ω.set i (.lst es))
end
def forL(k:Nat->D->D)(g:DSt->MS Out)(h:D->DSt->Option DSt)(n:Nat):Nat->Nat->DSt->MS Out
 | 0,_,_=>fun _=>none
 | f+1,i,Y=>fun Ω=>match Ω[n]? with
  | some (.lst ds)=>match ds[i]? with
   | none=>some (.ok (.nx Y),Ω)
   | some d=>match h (k i d) Y with
    | none=>none
    | some Y1=>((g Y1).b fun o=>match o with
     | .nx Y2=>forL k g h n f (i+1) Y2
     | .ct Y2=>forL k g h n f (i+1) Y2
     | .bk Y2=>MS.p (.nx Y2)
     | .rt v=>MS.p (.rt v)) Ω
  | _=>none
inductive ForLI(k:Nat->D->D)(g:DSt->MS Out)(h:D->DSt->Option DSt)(n f i:Nat)(Y:DSt)(Ω Ω':Sto)(r:Except XD Out):Prop
 | stop (ds:List D) (hn:Ω[n]? = some (.lst ds)) (hi:ds[i]? = none) (hr:r=.ok (.nx Y)) (ho:Ω'=Ω)
 | turn (ds:List D) (d:D) (Y1:DSt) (hn:Ω[n]? = some (.lst ds)) (hi:ds[i]? = some d) (hh:h (k i d) Y=some Y1) (hg:((g Y1).b fun o=>match o with
     | .nx Y2=>forL k g h n f (i+1) Y2
     | .ct Y2=>forL k g h n f (i+1) Y2
     | .bk Y2=>MS.p (.nx Y2)
     | .rt v=>MS.p (.rt v)) Ω=some (r,Ω'))
inductive FLInv(X:Cx)(O:List Nat)(Jz:Rho)(Sz:qd)(Hz:Hp)(F:qd)(ρ1:Rho)(H1:Hp)(m:DSt->MS Out)(r:Except XD Out)(Ω':Sto)(Z:St)(H:Hp):Prop
 | mk (J:Rho) (S:qd) (Y:DSt) (Ω:Sto) (hR:RM Jz Sz Hz F X.K X.mg O J S H Z Y Ω) (hl:RLe ρ1 J) (hs:Same H1 (hid H (fob (un F S) Z O))) (hf:m Y Ω=some (r,Ω'))
section
end
def jI6(done:List D):Except XD (List D)->Except XD (List D)
 | .ok rest=>.ok (done++rest)
 | .error y=>.error y
inductive CEI(X:Cx)(ρ1:Rho)(S1:qd)(H1 Hv:Hp)(G:qd)(Dd:Addr)(T:Except XD (List D))(Ωe:Sto)(cd:DSt->MS (List D))(i:Nat)(Z:St)(H:Hp):Prop
 | mk (J:Rho) (S:qd) (Y:DSt) (Ω:Sto) (done:List D) (zs:List V) (rr:Except XD (List D)) (hR:RM J S H G X.K X.mg [] J S H Z Y Ω) (hD:H Dd=some (.lst zs)) (hz:Reps J X.K (hid H (un G S)) done zs) (hlen:zs.length=i)
  (hc:cd Y Ω=some (rr,Ωe)) (hT:T=jI6 done rr) (hv:Same Hv (hid H (un G S))) (hl:RLe ρ1 J) (hsm:∀ b o,S1 b=false->H1 b=some o->H b=some o) (hold:∀ b,S1 b=true->S b=true) (hnew:∀ b,S b=true->S1 b=true\/H1 b=none)
section
end
section
end
end DL
namespace L2
open PyProof.Rows
section
variable {κ:Type}[DecidableEq κ]
end
section
end
section
end
section
end
section
end
section
end
structure M1(X:Cx)(o:Expr)(m:Str)(apos:Pos)(e:Expr)(cpos:Pos):Prop where
 base:attributeBase o m X.env (eval o X.env)=eval o X.env
 few:((backTo cpos (starEach [e] X.env)).all (fun x=>!x.1)&&(backToKw cpos (keywordEach [] X.env)).all (fun x=>x.1.isSome)
  && decide (([e]:List Expr).length+([]:List Keyword).length+(if ([]:List Keyword).isEmpty then 0 else 1)<30))=true
 line:(apos.endLine == cpos.line)=true
 trees:backTo cpos (starEach [e] X.env)=[(false,eval e X.env)]
structure M2(X:Cx)(o:Expr)(m:Str)(apos:Pos)(e f:Expr)(cpos:Pos):Prop where
 base:attributeBase o m X.env (eval o X.env)=eval o X.env
 few:((backTo cpos (starEach [e,f] X.env)).all (fun x=>!x.1)&&(backToKw cpos (keywordEach [] X.env)).all (fun x=>x.1.isSome)
  && decide (([e,f]:List Expr).length+([]:List Keyword).length+(if ([]:List Keyword).isEmpty then 0 else 1)<30))=true
 line:(apos.endLine == cpos.line)=true
 trees:backTo cpos (starEach [e,f] X.env)=[(false,eval e X.env),(false,eval f X.env)]
section
end
section
end
section
end
section
end
end L2
namespace Att
open PySem PySem.W PySem.Calls PyProof.Rows
end Att
namespace L2
open PyProof.Rows
section
variable {κ:Type}[DecidableEq κ]
end
section
variable {prog:Program}{w:World}{κ:Type}[DecidableEq κ]{knd:HeapKind prog w κ}{A:Around}{E:qc}{s:Shared}{d a:Addr}{xs:List (κ×Addr×Value)}{k:κ}
end
section
end
section
end
end L2
namespace DL
open L2
inductive LookV(J:Rho)(K:W.Frag)(H:Hp)(o:Option D)(v:Option V):Prop
 | none (h1:o=none) (h2:v=none)
 | some (d:D) (u:V) (h1:o=some d) (h2:v=some u) (h3:Rep J K H d u)
inductive ChkDI(x:D)(Ω Ω':Sto)(r:Except XD D):Prop
 | mk (n:Nat) (kvs:List (List Int×D)) (h1:x=.obj n) (h2:Ω[n]? = some (.dct kvs)) (h3:r=.ok (.obj n)) (h4:Ω'=Ω)
inductive AtDI(g:List (List Int×D)->List Int->Option (D×List (List Int×D)))(x:D)(ks:List D)(Ω Ω':Sto)(r:Except XD D):Prop
 | mk (n:Nat) (i j:Int) (kvs kvs':List (List Int×D)) (d:D) (h1:x=.obj n) (h2:ks=[.int i,.int j]) (h3:Ω[n]? = some (.dct kvs)) (h4:g kvs [i,j]=some (d,kvs')) (h5:r=.ok d) (h6:Ω'=Ω.set n (.dct kvs'))
section
end
end DL
namespace L2
open PyProof.Rows
section
variable {X:Cx}
def jt9{elt tg iter:Expr}{ifs:List Expr}{scope:Scope}{pos p0:Pos}{own:List Str}{caps:qf}{wi:TI}{g:TG}{tc:TT}{te:TE}{use:Option (Value->Sem Unit)}{QS:qc}(hc:X.calm=true)(ck:CapsOk X scope caps)
  (hi:PI X tg iter wi) (hg:∀ C s0 H0 ex,PG (jb5 X scope (own++caps.map (·.1)) C s0 H0 ex) tg g) (ht:∀ C s0 H0 ex,PC0 (jb5 X scope (own++caps.map (·.1)) C s0 H0 ex) ifs tc)
  (he:∀ C s0 H0 ex,PE (jb5 X scope (own++caps.map (·.1)) C s0 H0 ex) elt te) (hs:∀ x,foldedSetIterable iter X.env x=pure x)
  {U:qb} {s:Shared} {Z:St} {H:Hp} {Q:VK} (I:Inv X U Z H s) (h:jxg own.length caps wi g tc te Z H Q)
  (fin:∀ D H5 C s6 r,Inv X U Z H5 s6->FpOk X U H5 C->(∃ m,s6.heap.Ns C m)->Q (.ref D) H5->compPost (model X.prog X.w) X.A X.xe use QS (.ref D) C (.ok r) s6) :
  wpAny (model X.prog X.w) X.A (comprehension (.ListComp elt [⟨tg,iter,ifs,0⟩] scope pos) scope X.env p0 (newList []) false (eval iter X.env) use) QS X.xe s:=by
 have hcl:closureFor scope X.env=pure (clOf X.env.cells scope.names []):=jl8 fun p hp hf=>I.ok.has p.1 (ck.fre p hp hf)
 refine wpAny_comprehension_free rfl hs hcl ck.kind ck.loc (thn (hi U s Z H _ I h) fun v s1 h1=>thn h1 fun itv s2 h2=>?_);obtain⟨it,fp,tn,Jq,H2,e,I2,T,st2,f2,hw⟩:=h2;subst e;obtain⟨W,⟨m0,w0⟩,turn⟩:=hw s2.heap.objs.size (I2.hok.fresh (zac _));refine wpAny_newObj_type ?_;have hD:=I2.hok.fresh (zac s2.heap.objs.size);have I3:Inv X U Z (upd H2 s2.heap.objs.size (.lst [])) { s2 with heap:=s2.heap.push { cls:=.type "list",data:=.seq ([]:List Value).toArray } } :=
  I2.laid (t':=s2.toks) (fun b u e=>zaz _ e) (zac _) ⟨Nat.zero_le _,[],0,.nil,zbz _ rfl⟩
 have hlt:∀ b∈fp,b<s2.heap.objs.size:=fun b hb=>by obtain⟨o,e,_⟩:=T.obj _ _ st2 b hb;exact zbv e
 have f3:∀ b∈fp,FpOk X U (upd H2 s2.heap.objs.size (.lst [])) b:=fun b hb=>⟨by rw[jai (zcw (hlt b hb))];exact (f2 b hb).1,(f2 b hb).2⟩
 have hlt3:∀ b∈fp,b<(s2.heap.push { cls:=.type "list",data:=.seq ([]:List Value).toArray }).objs.size:=fun b hb=>by rw[Heap.size_push];exact Nat.lt_succ_of_lt (hlt b hb)
 refine wpAny_newFunctionEnv ck.nocell (by intro y hy;simp at hy) (fun h' hns hsb=>?_) ck.kind;generalize hS3:({ s2 with heap:=s2.heap.push { cls:=.type "list",data:=.seq ([]:List Value).toArray } }:Shared)=S3 at I3 hns hsb |-
 have hlt3':∀ b∈fp,b<S3.heap.objs.size:=by rw[<- hS3];exact hlt3
 have I4:=jrw (own:=own) (t':=S3.toks+([]:List (Str×Value)).length) I3 ck f3 hlt3' hns hsb;have st4:tn 0 h':=T.keep _ _ _ st2 fun b hb o e=>hsb.extBut b o (zcw (hlt3' b hb)) (zaz _ (by rw[<- hS3];exact zaz _ e))
 have hsz:s2.heap.objs.size<S3.heap.objs.size:=by rw[<- hS3];show _<(Heap.push _ _).objs.size;rw[Heap.size_push];exact Nat.lt_succ_self _
 generalize hCC:S3.heap.objs.size=C at I4 hsb hns hsz;have loop:codeAny (model X.prog X.w) X.A (.compLoop (.ListComp elt [⟨tg,iter,ifs,0⟩] scope pos) 0 (.ref it) (.ref s2.heap.objs.size) (compEnvC scope (clOf X.env.cells scope.names []) C X.env))
   (compPost (model X.prog X.w) X.A X.xe use QS (.ref s2.heap.objs.size) C) { S3 with heap:=h',toks:=S3.toks+([]:List (Str×Value)).length }:=by
  have xf:∀ {H':Hp},(∀ b∈fp,H' b=none)->∀ b∈fp,FpOk (jb5 X scope (own++caps.map (·.1)) C S3 (upd H2 s2.heap.objs.size (.lst [])) fp) [] H' b:=fun hn b hb=>by
   refine⟨hn b hb,?_,?_,.inl hb,fun x c e=>(I4.ok.exf b hb).2 x c e,fun p hp=>absurd (show p∈([]:qb) from hp) (by simp)⟩
   ·exact (I4.ok.exf b hb).1
   ·exact I4.ok.exfs b hb
  refine jjn (fun n s'=>∃ i Z' H',Inv (jb5 X scope (own++caps.map (·.1)) C S3 (upd H2 s2.heap.objs.size (.lst [])) fp) [] Z' H' s'/\tn i s'.heap/\(∀ b∈fp,H' b=none)/\W i n Z' H') ?_ m0
   ⟨0,_,_,I4,st4,fun b hb=>(f3 b hb).1,w0⟩
  rintro n s5 ⟨i,Z5,H5,I5,st5,fr5,w5⟩;rcases turn i n Z5 H5 w5 with ⟨stop,qn⟩|⟨go,N,hN,step⟩
  ·refine thn (T.done (jb5 X scope (own++caps.map (·.1)) C S3 (upd H2 s2.heap.objs.size (.lst [])) fp) rfl rfl rfl hc i [] s5 Z5 H5 NoX I5 (xf fr5) st5 stop) fun r s6 hzz=>?_
   obtain⟨hr,I6⟩:=hzz;subst hr;obtain⟨m6,n6,_⟩:=id I6.loc;have C3:S3.heap.objs.size<=C:=Nat.le_of_eq hCC;have I7:Inv X U Z H5 s6:=I3.call' (s':=s6) (ch:=fp) I6.os (jBh I6.base C3 (Heap.SameBut.refl _ _)) I6.hok I6.bare fun b hb=>by
    obtain⟨_,q1,_,q3,q4,q5⟩:=f3 b hb;exact⟨q3,q1,q4,q5⟩
   exact fin _ _ _ _ _ I7 (I3.fpOk C3 I6.free) ⟨m6,n6⟩ qn
  ·refine thn (T.item (jb5 X scope (own++caps.map (·.1)) C S3 (upd H2 s2.heap.objs.size (.lst [])) fp) rfl rfl rfl hc i [] s5 Z5 H5 NoX I5 (xf fr5) st5 go) fun r s6 hzz=>?_
   obtain⟨u,hr,h6⟩:=hzz;subst hr;refine thn h6 fun _ s7 hzz=>?_
   obtain⟨x,H7,I7,r7,y7,st7,fr7⟩:=hzz;have I7':=I7.pinned (xf fr7) (T.obj _ _ st7);refine thn (hg _ _ _ _ _ s7 Z5 H7 x u _ I7' r7 (step x H7 y7)) fun _ s8 hzz=>?_
   obtain⟨Z8,H8,I8,q8⟩:=hzz;refine thn (ht _ _ _ _ _ s8 Z8 H8 _ I8 q8) fun ok s9 hzz=>?_
   obtain⟨H9,I9,q9⟩:=hzz;have again:∀ {s':Shared} {Z':St} {H':Hp},Inv (jb5 X scope (own++caps.map (·.1)) C S3 (upd H2 s2.heap.objs.size (.lst [])) fp) ([]++jmn fp s7.heap) Z' H' s'->N Z' H'->∃ m,m<n/\∃ i Z' H',Inv (jb5 X scope (own++caps.map (·.1)) C S3 (upd H2 s2.heap.objs.size (.lst [])) fp) [] Z' H' s'/\tn i s'.heap/\(∀ b∈fp,H' b=none)/\W i m Z' H':=fun {s' Z' H'} Ia na=>by
    obtain⟨m',hm,wa⟩:=hN Z' H' na;refine⟨m',hm,i+1,Z',H',Ia.unpinned,T.keep _ _ _ st7 fun b hb o e=>(Ia.pin (b,o) (zcy _ (zcy _ (jeu hb e)))).1,fun b hb=>?_,wa⟩;obtain⟨o,e,d⟩:=T.obj _ _ st7 b hb;exact (Ia.pin (b,o) (zcy _ (zcy _ (jeu hb e)))).2.1
   cases ok with
   | false =>
    rw[if_neg (by decide)] at q9 |-
    exact again I9 q9
   | true =>
    rw[if_pos rfl] at q9 |-
    refine thn (he _ _ _ _ _ s9 Z8 H9 _ I9 q9) fun y s10 hzz=>?_
    obtain⟨vy,H10,I10,r10,ys,hys,hlen,q10⟩:=hzz;refine thn (jir _ s10 Z8 H10 (.ref s2.heap.objs.size) [vy] (.ref s2.heap.objs.size) [y] (fun _ H'=>N Z8 H') I10 rfl (.cons r10 .nil) ⟨_,ys,vy,rfl,rfl,hys,hlen,q10⟩) fun _ s11 hzz=>?_
    obtain⟨_,H11,I11,_,q11⟩:=hzz;exact again I11 q11
 exact codeAny_compStart_list loop (T.self _ 0 _ _ _ st4 loop)
def jDv{elt tg iter:Expr}{ifs:List Expr}{scope:Scope}{pos pos' cpos:Pos}{own:List Str}{caps:qf}{wi:TI}{g:TG}{tc:TT}{te:TE}{i:Nat}{x:Str}(hc:X.calm=true)(ck:CapsOk X scope caps)
  (hi:PI X tg iter wi) (hg:∀ C s0 H0 ex,PG (jb5 X scope (own++caps.map (·.1)) C s0 H0 ex) tg g) (ht:∀ C s0 H0 ex,PC0 (jb5 X scope (own++caps.map (·.1)) C s0 H0 ex) ifs tc)
  (he:∀ C s0 H0 ex,PE (jb5 X scope (own++caps.map (·.1)) C s0 H0 ex) elt te) (hN:X.N.Nodup) (hix:X.N[i]? = some x) (hx:Loc X.env.scope x) (hsw:swapsWith (.ListComp elt [⟨tg,iter,ifs,0⟩] scope cpos) (some (.Name x pos')) pos.line X.env=pure true)
  (hf:X.fn x=true\/X.env.scope.names.lookup x=some .local) (hs:∀ x,foldedSetIterable iter X.env x=pure x) :
  PS X (.Assign [.Name x pos'] (.ListComp elt [⟨tg,iter,ifs,0⟩] scope cpos) pos) (fun Dn Z H=>jxg own.length caps wi g tc te Z H fun v H'=>Dn.nx (Z.set i (some v)) H'):=by
 intro U s Z H Dn I h;rw[exec_Assign_Name_used _ _ _ _ hsw];refine zay (wpAny_standAt (zay ?_))
 show wpAny _ X.A (do let _ <- comprehension (.ListComp elt [⟨tg,iter,ifs,0⟩] scope cpos) scope X.env _ (newList []) false (eval iter X.env) (some (assign (.Name x pos') X.env))) _ _ s;refine zay (thn (jt9 (use:=some (assign (.Name x pos') X.env)) (QS:=fun _ s'=>SP X U Dn .next s') hc ck hi hg ht he hs I h ?_) fun _ s' hq=>zab (zab hq));intro D H5 C s6 r I6 fc ⟨m6,n6⟩ qn;obtain⟨f1,f2,f3,f4,f5,f6⟩:=fc;show wpAny (model X.prog X.w) X.A (assign (.Name x pos') X.env (.ref D)) (fun _ s''=>∃ m,s''.heap.Ns C m/\∀ h',Heap.SameBut C s''.heap h'->SP X U Dn .next { s'' with heap:=h' }) X.xe s6;refine wpAny_assign_Name (jpv I6 hN hix hx (v:=.ref D) rfl (fun s7 I7 hzz=>?_) hf);obtain⟨a,sba,ha⟩:=hzz;have hCa:C≠a:=by
  rcases ha with ha|ha
  ·rw[ha];exact f2
  ·exact fun z=>f5 x a ha z.symm
 refine⟨m6,n6.sameBut sba hCa,fun h8 sb8=>⟨_,H5,I7.turned (fun b o hb e=>(sb8.2 b hb).trans e) f1 f2 f4 f5 f6,qn⟩⟩
end
end L2
namespace DL
open L2
def jB6{K:W.Frag}{O:List Nat}{E:XK}{own:Nat}{caps:qf}{fi:DSt->M (List D)}{h:D->DSt->Option DSt}{tc:DSt->M Bool}{fe:DSt->M D}{Z:St}{H:Hp}{Q:VK}(hcf:jj7 O caps=true)
  (hh:tD K O E (jgx own caps fi h tc fe) Z H Q):jxg own caps (tI K O E fi) (tG K [] h) (tB K [] E0 tc) (tD K [] E0 fe) Z H Q:=by
 obtain⟨J,Hz,F,Y,r,R,hf,k⟩:=hh;rcases M.b_inv hf with ⟨ds,e1,hf⟩|⟨y,e1,rfl⟩
 ·refine⟨J,Hz,F,Y,.ok ds,R,e1,fun Jq H1 s1 it Dd hD=>?_⟩;obtain⟨dd,hd,rfl⟩:=M.o_inv hf
  cases hcd:jcy h tc fe ds (jed own caps Y) with
  | none=>rw[hcd] at hd;cases hd
  | some tot =>
   rw[hcd] at hd;have hd':jaw tot=some dd:=hd;unfold jaw at hd'
   split at hd'
   ·rename_i hz;cases hd';have R1:=R.mono s1;have pf:=R1.fresh hD
    let F':qd:=fun b=>fob F Z O b || b == Dd
    have F't:∀ b,F' b=true↔fob F Z O b=true\/b=Dd:=fun b=>by show (_ || _)=true↔_;rw[Bool.or_eq_true,beq_iff_eq]
    have vis:∀ {H2:Hp},Same H1 H2->Same (hid H1 (fob F Z O)) (hid H2 F'):=fun {H2} e b o q=>by
     obtain⟨q1,q2⟩:=hid_some.mp q;refine hid_some.mpr ⟨?_,e b o q2⟩
     cases z:F' b with
     | false=>rfl
     | true =>
      rcases (F't b).mp z with z|z
      ·rw[q1] at z;cases z
      ·rw[z,hD] at q2;cases q2
    have R0:RS J K H1 (upd H1 Dd (.lst [])) F' [] (jdv own caps Z) (jed own caps Y):=by
     refine⟨by simp[jdv,jed],ja7 hD,fun b hb=>?_,fun i d hd _=>?_,fun i hi=>absurd hi (by simp),fun i hi=>absurd hi (by simp)⟩
     ·rcases (F't b).mp hb with z|z
      ·refine jg9 fun q=>?_
       rw[R1.fresh q] at z;cases z
      ·rw[z,jam];exact fun q=>nomatch q
     ·obtain⟨p,p1,p2,p3⟩:=jjb hd;have hO:p.2∉O:=fun z=>by
       have:=List.all_eq_true.mp hcf p (List.mem_of_getElem? p1);rw[zbc.mpr z] at this;cases this
      obtain⟨v,q1,q2⟩:=R1.val p.2 d p3 hO;exact⟨v,jks p1 p2 q1,by rw[jc2];exact q2.mono (vis (ja7 hD))⟩
    refine⟨fun i m Z' H'=>m=ds.length-i/\i<=ds.length/\∃ Y' done zs rest,RS J K H1 H' F' [] Z' Y'/\H' Dd=some (.lst zs)/\Reps J K (hid H' F') done zs/\jcy h tc fe (ds.drop i) Y'=some rest/\done++rest=tot,
     ⟨ds.length,by simp,Nat.zero_le _,_,[],[],tot,R0,jam,Reps.nil,hcd,rfl⟩,?_⟩
    rintro i m Z' H' ⟨rfl,hil,Y',done,zs,rest,R',hDd,rz,hr,htot⟩;have fv:Same (hid H1 (fob F Z O)) (hid H' (fob F' Z' [])):=by rw[jc2];exact vis R'.same
    obtain⟨j1,j2⟩:=it H' (fob F' Z' []) i fv fun p hp=>R'.fresh hp
    by_cases hlt:i<ds.length
    ·obtain⟨go,yld⟩:=j1 hlt;refine .inr ⟨go,fun Z2 H2=>∃ Y2 done zs rest,RS J K H1 H2 F' [] Z2 Y2/\H2 Dd=some (.lst zs)/\Reps J K (hid H2 F') done zs/\jcy h tc fe (ds.drop (i+1)) Y2=some rest/\done++rest=tot,
      fun Z2 H2 q=>⟨ds.length-(i+1),by omega,rfl,hlt,q⟩,fun x H2 y=>?_⟩
     obtain⟨s2,d,hd,rd⟩:=yld x H2 y;have hdr:ds.drop i=d::ds.drop (i+1):=by
      rw[List.drop_eq_getElem_cons hlt];have:ds[i]=d:=by rw[zax hlt] at hd;exact zby hd
      rw[this]
     rw[hdr] at hr;unfold jcy at hr
     cases e2:h d Y' with
     | none=>rw[e2] at hr;cases hr
     | some Y1 =>
      rw[e2] at hr;dsimp only at hr;refine⟨J,H1,F',Y',d,Y1,R'.mono s2,rd,e2,fun Z3 ef R3=>?_⟩;have keepD:∀ {H5:Hp},Same H2 H5->H5 Dd=some (.lst zs)/\Reps J K (hid H5 F') done zs:=fun {H5} e=>⟨e _ _ (s2 _ _ hDd),rz.mono (jas (s2.trans e))⟩
      split at hr
      ·rename_i e3;refine⟨J,H1,F',Y1,.ok true,R3,e3,fun H4 s4=>iteT ?_⟩
       split at hr
       ·rename_i yv e4;refine⟨J,H1,F',Y1,.ok yv,R3.mono s4,e4,fun v H5 s5 r5=>?_⟩;rw[jc2] at r5;obtain⟨k1,k2⟩:=keepD (s4.trans s5)
        cases e5:jcy h tc fe (ds.drop (i+1)) Y1 with
        | none=>rw[e5] at hr;cases hr
        | some rest' =>
         rw[e5] at hr;have hr':yv::rest'=rest:=zby hr;have hFD:F' Dd=true:=(F't Dd).mpr (.inr rfl);have hh:hid (upd H5 Dd (.lst (zs++[v]))) F'=hid H5 F':=je2 hFD;refine⟨zs,k1,?_,Y1,done++[yv],zs++[v],rest',?_,jam,?_,e5,by rw[List.append_assoc,<- htot,<- hr'];rfl⟩
         ·have l1:=k2.length;have l2:=congrArg List.length htot;rw[zcc,<- hr',List.length_cons] at l2;omega
         ·have R5:=R3.mono (s4.trans s5);refine⟨R5.len,jg7 R5.same hD,fun b hb=>jg9 (R5.fin b hb),fun j d' hj hO=>?_,fun j hj=>absurd hj (by simp),fun j hj=>absurd hj (by simp)⟩;obtain⟨v',w1,w2⟩:=R5.val j d' hj hO;refine⟨v',w1,?_⟩;rw[jc2] at w2 |-
          rw[hh];exact w2
         ·rw[hh];exact k2.append (Reps.cons r5 Reps.nil)
       ·cases hr
      ·rename_i e3;refine⟨J,H1,F',Y1,.ok false,R3,e3,fun H4 s4=>iteF ?_⟩;obtain⟨k1,k2⟩:=keepD s4;exact⟨Y1,done,zs,rest,R3.mono s4,k1,k2,hr,htot⟩
      ·cases hr
    ·have ei:i=ds.length:=by omega
     subst ei;rw[List.drop_length] at hr;cases hr;rw[List.append_nil] at htot;subst htot;refine .inl ⟨j2 rfl,k _ H' (s1.trans R'.same) ?_⟩;exact rep_lst.mpr ⟨Dd,zs,rfl,SqL.of (hid_some.mpr ⟨pf,hDd⟩),rz.mono (jfj fun b q=>(F't b).mpr (.inl q))⟩
   ·cases hd'
 ·exact⟨J,Hz,F,Y,.error y,R,e1,k⟩
section
end
end DL
namespace DL
open L2 PyProof.Rows
section
def jI7:List D->Option D
 | [.lst [.int i,.int j]]=>some (.int (if j<i then j else i))
 | _=>none
@[simp] theorem kmin1(i j:Int):jI7 [.lst [.int i,.int j]]=some (.int (if j<i then j else i)):=rfl
end
end DL
namespace L2
open PyProof.Rows
section
variable {s:Shared}
inductive RgEnd(s:Shared)(n:Nat)(q:Result)(s':Shared):Prop
 | mk (h':Heap) (tk:Nat) (acc:Array Value) (c:Nat) (e1:q=.ok (.ret (.ref s.heap.objs.size))) (e2:s'={ s with heap:=h',toks:=tk }) (k:∀ b o,s.heap.get? b=some o->h'.get? b=some o)
   (at':h'.get? s.heap.objs.size=some { cls:=.type "list",dict:=none,data:=.seq acc c,slots:=#[] }) (got:ItemsOf (fun i v=>∃ t,v=Value.int ((0:Int)+i*1) t) acc n)
end
open Att
def jAm{α:Type}(c:Nat->Nat->Bool):W.KasT α->α
 | .ret a=>a
 | .ask i j k=>jAm c (k (c i j))
def jyj{α:Type}(n:Nat):W.KasT α->Bool
 | .ret _=>true
 | .ask i j k=>decide (i<n)&&decide (j<n)&&jyj n (k true)&&jyj n (k false)
def jta(keys:List Int)(n:Nat):List Nat:=(jAm (fun i j=>decide (keys.getD i 0<keys.getD j 0)) (W.kas_sort n)).toList
section
variable {L:Addr}{m:qa}{h:Heap}
structure Lk(L:Addr)(m:qa)(h h':Heap):Prop where
 k:∀ b o,b≠L->h.get? b=some o->h'.get? b=some o
 ns:h'.Ns L m
end
section
variable {P:Program}{w:World}{H:Hp}{h:Heap}{a:Addr}{o:HO}
def ObjOk.here(x:ObjOk P w H h a o):∃ ob,h.get? a=some ob:=by
 cases o with
 | lst xs=>obtain⟨_,_,_,_,e⟩:=x;exact⟨_,e⟩
 | tup xs=>obtain⟨_,_,_,o,e,_⟩:=x;exact⟨_,e⟩
 | dK kvs=>obtain⟨_,_,_,_,o,_,_,e,_⟩:=x;exact⟨_,e⟩
 | dT kvs=>obtain⟨_,_,_,_,o,_,_,e,_⟩:=x;exact⟨_,e⟩
 | ins C dx fs=>obtain⟨_,_,_,e,_⟩:=x;exact⟨_,e⟩
 | own y=>exact x
 | xd fs=>obtain⟨_,⟨_,_,_,e,_⟩,_⟩:=x;exact⟨_,e⟩
 | rng lo hi=>obtain⟨_,_,_,e⟩:=x;exact⟨_,e⟩
 | frz ob u=>obtain⟨e,_⟩:=x;exact⟨_,e⟩
 | tbl ps=>exact⟨_,x⟩
 | met f y=>exact⟨_,x⟩
 | ext φ=>exact x.2.1
end
section
end
end L2
namespace DL
open L2
section
end
inductive CdOf(K:W.Frag)(mg:qa)(x:Str)(cdv:Value):Prop
 | mk (f:Addr) (oc:Value) (od:Option Addr) (fd:FuncData) (osl:qe) (h1:mg x=some (.ref f)) (h2:K.lookup f=some ⟨oc,od,.func fd,osl⟩) (h3:fd.code=cdv)
def ordD(n:Int)(rs:List D):Option (List D):=match jl0 rs with
 | some ks=>if 2<=n/\n<64/\(ks.length:Int)=n/\jyj n.toNat (W.kas_sort n.toNat)=true/\(jta (ks.map fun k=>-k) n.toNat).all (fun i=>decide (i<n.toNat))=true/\(jta (ks.map fun k=>-k) n.toNat).length<=64 then
   some ((jta (ks.map fun k=>-k) n.toNat).map fun i=>.int (Int.ofNat i)) else none
 | none=>none
inductive SortI(x:Str)(l c:Nat)(q:Str)(ir:Nat)(Y:DSt)(ds:List D)(Ω Ω':Sto)(r:Except XD D):Prop
 | mk (n:Int) (rs es:List D) (h1:ds=[.int n]) (h2:Y[ir]? = some (some (.lst rs))) (h3:Ω[0]? = some (.tab x l c q)) (h4:ordD n rs=some es) (h5:r=.ok (.lst es)) (h6:Ω'=Ω)
inductive OrdI(n:Int)(rs es:List D):Prop
 | mk (N:Nat) (ks:List Int) (h1:n=N) (h2:rs=ks.map .int) (h3:2<=N) (h4:N<64) (h5:ks.length=N) (h6:jyj N (W.kas_sort N)=true) (h7:∀ i∈jta (ks.map fun k=>-k) N,i<N) (h8:(jta (ks.map fun k=>-k) N).length<=64) (h9:es=(jta (ks.map fun k=>-k) N).map fun i=>.int (Int.ofNat i))
end DL
namespace DL
open PyProof.Rows L2
section
end
section
end
def jCc(T:Addr)(K:W.Frag):W.Frag:=K.filter fun p=>!(p.1 == T)
section
variable {K:W.Frag}{T:Addr}
variable (hT:K.lookup T=some ⟨.none,none,.fields #[],#[]⟩)
include hT
end
inductive LawT(P:Program)(w:World)(K:W.Frag)(mg:qa)(n k:Nat)(x:Str)(fa:Addr):Prop
 | mk (T c:Addr) (fd:FuncData) (sp:Sp) (h1:K.lookup T=some ⟨.none,none,.fields #[],#[]⟩) (h2:W.codeHdIn K c T=true) (h3:∀ (s:Shared) (u:Value),BindsTo s fd ⟨[u],[]⟩ [(x,u)])
   (h4:∀ base:Heap,(jCc T K).In base->base.Ns mainGlobals mg->FnOk P w (jCc T K) mg base CX0 k fa fd [x] sp)
   (h5:∀ (H:Hp) (a:Addr) (ns:List Int),ns.length<=n->H T=some (.tbl #[])->SqL (jCc T K) H a (ns.map V.int)->sp [.ref a] H (fun v _=>v=.bl true) fun _ _ _=>False)
def jxw{J:Rho}{K:W.Frag}{O:List Nat}{E:XK}{own:Nat}{caps:qf}{fi:DSt->M (List D)}{h:D->DSt->Option DSt}{tc:DSt->M Bool}{fe:DSt->M D}{Z:L2.St}{Hz H:Hp}{F:qd}{Y:DSt}{Q:VK}{d:D}(hcf:jj7 O caps=true)
  (R:RS J K Hz H F O Z Y) (hf:jgx own caps fi h tc fe Y=some (.ok d))
  (k:∀ tot,d=.lst tot->∀ (Dd:Addr) zs H1 H',Same H H1->H1 Dd=none->Same H1 H'->H' Dd=some (.lst zs)->Reps J K (hid H' fun b=>fob F Z O b || b == Dd) tot zs->Q (.ref Dd) H'):jxg own caps (tI K O E fi) (tG K [] h) (tB K [] E0 tc) (tD K [] E0 fe) Z H Q:=by
 rcases M.b_inv hf with ⟨ds,e1,hf⟩|⟨y,e1,z⟩
 ·refine⟨J,Hz,F,Y,.ok ds,R,e1,fun Jq H1 s1 it Dd hD=>?_⟩;obtain⟨dd,hd,ee⟩:=M.o_inv hf;cases ee
  cases hcd:jcy h tc fe ds (jed own caps Y) with
  | none=>rw[hcd] at hd;cases hd
  | some tot =>
   rw[hcd] at hd;have hd':jaw tot=some d:=hd;unfold jaw at hd'
   split at hd'
   ·rename_i hz;cases hd';have R1:=R.mono s1;have pf:=R1.fresh hD
    let F':qd:=fun b=>fob F Z O b || b == Dd
    have F't:∀ b,F' b=true↔fob F Z O b=true\/b=Dd:=fun b=>by show (_ || _)=true↔_;rw[Bool.or_eq_true,beq_iff_eq]
    have vis:∀ {H2:Hp},Same H1 H2->Same (hid H1 (fob F Z O)) (hid H2 F'):=fun {H2} e b o q=>by
     obtain⟨q1,q2⟩:=hid_some.mp q;refine hid_some.mpr ⟨?_,e b o q2⟩
     cases z:F' b with
     | false=>rfl
     | true =>
      rcases (F't b).mp z with z|z
      ·rw[q1] at z;cases z
      ·rw[z,hD] at q2;cases q2
    have R0:RS J K H1 (upd H1 Dd (.lst [])) F' [] (jdv own caps Z) (jed own caps Y):=by
     refine⟨by simp[jdv,jed],ja7 hD,fun b hb=>?_,fun i d hd _=>?_,fun i hi=>absurd hi (by simp),fun i hi=>absurd hi (by simp)⟩
     ·rcases (F't b).mp hb with z|z
      ·refine jg9 fun q=>?_
       rw[R1.fresh q] at z;cases z
      ·rw[z,jam];exact fun q=>nomatch q
     ·obtain⟨p,p1,p2,p3⟩:=jjb hd;have hO:p.2∉O:=fun z=>by
       have:=List.all_eq_true.mp hcf p (List.mem_of_getElem? p1);rw[zbc.mpr z] at this;cases this
      obtain⟨v,q1,q2⟩:=R1.val p.2 d p3 hO;exact⟨v,jks p1 p2 q1,by rw[jc2];exact q2.mono (vis (ja7 hD))⟩
    refine⟨fun i m Z' H'=>m=ds.length-i/\i<=ds.length/\∃ Y' done zs rest,RS J K H1 H' F' [] Z' Y'/\H' Dd=some (.lst zs)/\Reps J K (hid H' F') done zs/\jcy h tc fe (ds.drop i) Y'=some rest/\done++rest=tot,
     ⟨ds.length,by simp,Nat.zero_le _,_,[],[],tot,R0,jam,Reps.nil,hcd,rfl⟩,?_⟩
    rintro i m Z' H' ⟨rfl,hil,Y',done,zs,rest,R',hDd,rz,hr,htot⟩;have fv:Same (hid H1 (fob F Z O)) (hid H' (fob F' Z' [])):=by rw[jc2];exact vis R'.same
    obtain⟨j1,j2⟩:=it H' (fob F' Z' []) i fv fun p hp=>R'.fresh hp
    by_cases hlt:i<ds.length
    ·obtain⟨go,yld⟩:=j1 hlt;refine .inr ⟨go,fun Z2 H2=>∃ Y2 done zs rest,RS J K H1 H2 F' [] Z2 Y2/\H2 Dd=some (.lst zs)/\Reps J K (hid H2 F') done zs/\jcy h tc fe (ds.drop (i+1)) Y2=some rest/\done++rest=tot,
      fun Z2 H2 q=>⟨ds.length-(i+1),by omega,rfl,hlt,q⟩,fun x H2 y=>?_⟩
     obtain⟨s2,d,hd,rd⟩:=yld x H2 y;have hdr:ds.drop i=d::ds.drop (i+1):=by
      rw[List.drop_eq_getElem_cons hlt];have:ds[i]=d:=by rw[zax hlt] at hd;exact zby hd
      rw[this]
     rw[hdr] at hr;unfold jcy at hr
     cases e2:h d Y' with
     | none=>rw[e2] at hr;cases hr
     | some Y1 =>
      rw[e2] at hr;dsimp only at hr;refine⟨J,H1,F',Y',d,Y1,R'.mono s2,rd,e2,fun Z3 ef R3=>?_⟩;have keepD:∀ {H5:Hp},Same H2 H5->H5 Dd=some (.lst zs)/\Reps J K (hid H5 F') done zs:=fun {H5} e=>⟨e _ _ (s2 _ _ hDd),rz.mono (jas (s2.trans e))⟩
      split at hr
      ·rename_i e3;refine⟨J,H1,F',Y1,.ok true,R3,e3,fun H4 s4=>iteT ?_⟩
       split at hr
       ·rename_i yv e4;refine⟨J,H1,F',Y1,.ok yv,R3.mono s4,e4,fun v H5 s5 r5=>?_⟩;rw[jc2] at r5;obtain⟨k1,k2⟩:=keepD (s4.trans s5)
        cases e5:jcy h tc fe (ds.drop (i+1)) Y1 with
        | none=>rw[e5] at hr;cases hr
        | some rest' =>
         rw[e5] at hr;have hr':yv::rest'=rest:=zby hr;have hFD:F' Dd=true:=(F't Dd).mpr (.inr rfl);have hh:hid (upd H5 Dd (.lst (zs++[v]))) F'=hid H5 F':=je2 hFD;refine⟨zs,k1,?_,Y1,done++[yv],zs++[v],rest',?_,jam,?_,e5,by rw[List.append_assoc,<- htot,<- hr'];rfl⟩
         ·have l1:=k2.length;have l2:=congrArg List.length htot;rw[zcc,<- hr',List.length_cons] at l2;omega
         ·have R5:=R3.mono (s4.trans s5);refine⟨R5.len,jg7 R5.same hD,fun b hb=>jg9 (R5.fin b hb),fun j d' hj hO=>?_,fun j hj=>absurd hj (by simp),fun j hj=>absurd hj (by simp)⟩;obtain⟨v',w1,w2⟩:=R5.val j d' hj hO;refine⟨v',w1,?_⟩;rw[jc2] at w2 |-
          rw[hh];exact w2
         ·rw[hh];exact k2.append (Reps.cons r5 Reps.nil)
       ·cases hr
      ·rename_i e3;refine⟨J,H1,F',Y1,.ok false,R3,e3,fun H4 s4=>iteF ?_⟩;obtain⟨k1,k2⟩:=keepD s4;exact⟨Y1,done,zs,rest,R3.mono s4,k1,k2,hr,htot⟩
      ·cases hr
    ·have ei:i=ds.length:=by omega
     subst ei;rw[List.drop_length] at hr;cases hr;rw[List.append_nil] at htot;subst htot;exact .inl ⟨j2 rfl,k _ rfl Dd zs H1 H' s1 hD R'.same hDd rz⟩
   ·cases hd'
 ·cases z
section
variable {X:Cx}{O B:List Nat}{E:XK}{elt tg iter e:Expr}{pos:Pos}
def jCd{i:Nat}{x:Str}{pos' cpos:Pos}{ifs:List Expr}{scope:Scope}{own:List Str}{caps:qf}{fi:DSt->M (List D)}{h:D->DSt->Option DSt}{tc:DSt->M Bool}{fe:DSt->M D}(hN:X.N.Nodup)(hc:X.calm=true)(ck:CapsOk X scope caps)(hi:DI X O E tg iter fi)
  (hg:∀ C s0 H0 ex,DG (jb5 X scope (own++caps.map (·.1)) C s0 H0 ex) [] tg h) (ht:∀ C s0 H0 ex,DC (jb5 X scope (own++caps.map (·.1)) C s0 H0 ex) [] E0 ifs tc)
  (he:∀ C s0 H0 ex,DE (jb5 X scope (own++caps.map (·.1)) C s0 H0 ex) [] E0 elt fe) (ho:O.contains i=false:=by rfl) (hix:X.N[i]? = some x:=by rfl) (hx:Loc X.env.scope x:=by first|exact Or.inl rfl|exact Or.inr rfl)
  (hsw:swapsWith (.ListComp elt [⟨tg,iter,ifs,0⟩] scope cpos) (some (.Name x pos')) pos.line X.env=pure true:=by rfl)
  (hf:X.fn x=true\/X.env.scope.names.lookup x=some .local:=by first|exact .inl rfl|exact .inr rfl|assumption) (hcf:jj7 O caps=true:=by rfl) (hs:∀ x,foldedSetIterable iter X.env x=pure x:=by intro _;rfl) :
  DS X O (i::O) B E (.Assign [.Name x pos'] (.ListComp elt [⟨tg,iter,ifs,0⟩] scope cpos) pos) (gSet i (jgx own.length caps fi h tc fe)):=by
 rintro U s Z H Dn I ⟨J,Hz,F,Y,r,R,hg',k⟩;have ho':i∉O:=fun z=>by rw[zbc.mpr z] at ho;cases ho
 have hl:i<Y.length:=by rw[<- R.len,I.len];exact (zbb.mp hix).1
 refine jDv (own:=own) (g:=tG X.K [] h) (tc:=tB X.K [] E0 tc) (te:=tD X.K [] E0 fe) hc ck hi hg ht he hN hix hx hsw hf hs U s Z H Dn I ?_;rcases M.b_inv hg' with ⟨d,e1,hg'⟩|⟨y,e1,rfl⟩
 ·cases hg';refine jxw hcf R e1 fun tot ht Dd zs H1 H' s1 hD s2 hDd rz=>?_
  subst ht
  let H3:Hp:=fun b=>if b=Dd then none else H' b
  have h3:H3 Dd=none:=if_pos rfl;have n3:∀ b,b≠Dd->H3 b=H' b:=fun b hb=>if_neg hb
  have e3:upd H3 Dd (.lst zs)=H':=by
   funext b
   by_cases hb:b=Dd
   ·subst hb;rw[jam,hDd]
   ·rw[jai hb,n3 b hb]
  have s3:Same H H3:=fun b o q=>by
   have q1:=s1 b o q;rw[n3 b (ja6 q1 hD)];exact s2 b o q1
  have eh:hid H3 (fob F Z O)=hid H' (fun b=>fob F Z O b || b == Dd):=by
   funext b
   unfold hid
   by_cases hb:b=Dd
   ·subst hb;rw[h3];simp
   ·rw[n3 b hb];have:(b == Dd)=false:=by simpa using hb
    simp only[this,Bool.or_false]
  have T:=R.take (i:=i) (ds:=tot) (xs:=zs) ho' hl s3 h3 (by rw[eh];exact rz);rw[e3] at T;refine k _ _ ?_ T;have pf:=(R.mono s3).fresh h3;have lZ:i<Z.length:=by rw[R.len];exact hl
  intro b o q;obtain⟨q1,q2⟩:=hid_some.mp q;have q3:=s3 b o q2;have hb:b≠Dd:=ja6 q3 h3;refine hid_some.mpr ⟨?_,by rw[<- n3 b hb];exact q3⟩
  cases z:fob F (Z.set i (some (.ref Dd))) (i::O) b with
  | false=>rfl
  | true =>
   rcases fob_t.mp z with z|⟨j,hj,z⟩
   ·rw[fob_t.mpr (.inl z)] at q1;cases q1
   ·rcases List.mem_cons.mp hj with rfl|hj
    ·rw[zcz lZ] at z;cases z;exact absurd rfl hb
    ·rw[zbw (by rintro rfl;exact ho' hj)] at z;rw[fob_t.mpr (.inr ⟨j,hj,z⟩)] at q1;cases q1
 ·exact jB6 hcf ⟨J,Hz,F,Y,.error y,R,e1,k⟩
def jy9(its:List Value):slicePick its.toArray none none (some (-1))=its.reverse.toArray:=by
 unfold slicePick;have e:sliceBounds none none (some (-1)) its.toArray.size=((its.length:Int)-1,-1,-1):=by
  simp[sliceBounds]
 rw[e];dsimp only;rw[W.krv_sliceRange];congr 1;rw[List.filterMap_map];have hp:∀ n,n<=its.length->List.filterMap ((fun x=>its.toArray[x]?) ∘ fun k=>its.length-1-k) (List.range n)=its.reverse.take n:=by
  intro n
  induction n with
  | zero=>intro _;rfl
  | succ n ih =>
   intro hn;rw[List.range_succ,List.filterMap_append,ih (by omega),List.take_add_one,List.getElem?_reverse (by omega)];have hx:its.length-1-n<its.length:=by omega
   congr 1;show List.filterMap _ [n]=_;rw[List.filterMap_cons,List.filterMap_nil];have hc:((fun x=>its.toArray[x]?) ∘ fun k=>its.length-1-k) n=some its[its.length-1-n]:=by
    show its.toArray[its.length-1-n]? = _;rw[List.getElem?_toArray,zax hx]
   rw[hc,zax hx];rfl
 rw[zbx] at *;rw[hp _ (zac _),List.take_of_length_le (by rw[List.length_reverse];exact zac _)]
theorem Reps.rev{J:Rho}{K:W.Frag}{H:Hp}:∀ {ds:List D} {vs:List V},Reps J K H ds vs->Reps J K H ds.reverse vs.reverse
 | [],_,h=>by rw[reps_nil.mp h];exact Reps.nil
 | e::ds,_,h=>by
  obtain⟨u,r,rfl,q,t⟩:=reps_cons.mp h;rw[List.reverse_cons,List.reverse_cons];exact (Reps.rev t).append (Reps.cons q Reps.nil)
theorem jsg:∀ {xs:List V} {us:List Value},Vals xs us->Vals xs.reverse us.reverse
 | _,_,.nil=>.nil
 | _,_,.cons r t=>by
  rw[List.reverse_cons,List.reverse_cons];exact (jsg t).append (.cons r .nil)
end
end DL
namespace DL
open L2
section
end
def jId(Ω:Sto):D->Option (List D)
 | .obj n=>match Ω[n]? with
  | some (.lst ds)=>if ds.all scalD=true then some ds else none
  | _=>none
 | d=>seqD d
section
variable {J:Rho}{S:qd}{H:Hp}{K:W.Frag}
inductive WalkI(J:Rho)(K:W.Frag)(S G0:qd)(H:Hp)(ds:List D)(v:V):Prop
 | mk (k:Bool) (l:Addr) (xs:List V) (e:v=.ref l) (h:∀ G:qd,(∀ b,G b=true->G0 b=true)->(S l=true->G l=false)->SqV k K (hid H G) l xs/\Reps J K (hid H G) ds xs)
end
inductive CompZI(own:Nat)(caps:qf)(h:D->DSt->Option DSt)(tc:DSt->M Bool)(fe:DSt->M D)(Y:DSt)(xs:List D)(Ω:Sto)(tot:List D):Prop
 | mk (x y:D) (ds es:List D) (h1:xs=[x,y]) (h2:jId Ω x=some ds) (h3:jId Ω y=some es) (h4:jcy h tc fe (zipD ds es) (jed own caps Y)=some tot) (h5:tot.length<=sizeLine) (h6:tot.all scalD=true)
section
end
section
end
section
inductive TupSI(xs:List D)(Ω Ω':Sto)(r:Except XD D):Prop
 | mk (n:Nat) (ds:List D) (h1:xs=[.obj n]) (h2:Ω[n]? = some (.lst ds)) (h3:ds.all scalD=true) (h4:r=.ok (.tup ds)) (h5:Ω'=Ω)
end
end DL
namespace L2
open PyProof.Rows
end L2
namespace DL
open PyProof.Rows L2
def orA(G:qd)(l:Addr):qd:=fun b=>G b || b == l
inductive spF(K:W.Frag)(mg:qa)(n:Nat)(m:List D->MS D)(vs:List V)(H:Hp)(Q:VK)(E:XK):Prop
 | mk (hn:vs.length=n) (J:Rho) (S F:qd) (ds:List D) (Ω:Sto) (hF:∀ b,F b=true->H b≠none) (hS:∀ b,F b=true->S b=false) (hr:Reps J K (hid H (un F S)) ds vs) (hs:StoOk J S K mg H (hid H (un F S)) Ω) (es:List D) (Ω':Sto) (hf:m ds Ω=some (.ok (.lst es),Ω'))
   (k:∀ (l:Addr) zs J' S' H',RLe J J'->(∀ b o,S b=false->H b=some o->H' b=some o)->(∀ b,S b=true->S' b=true)->(∀ b,S' b=true->S b=true\/H b=none)->(∀ b,F b=true->S' b=false)->StoOk J' S' K mg H' (hid H' (orA (un F S') l)) Ω' ->
    H l=none->H' l=some (.lst zs)->S' l=false->Reps J' K (hid H' (orA (un F S') l)) es zs->Q (.ref l) H')
structure CalF(P:Program)(w:World)(K:W.Frag)(mg:qa)(base:Heap)(k:Nat)(x:Str)(n:Nat)(m:List D->MS D):Prop where
 ex:CalX P w K mg base k x n (spF K mg n m)
 ar:∀ ds Ω r,m ds Ω=some r->ds.length=n
 ls:∀ ds Ω r Ω',m ds Ω=some (r,Ω')->∃ es,r=.ok (.lst es)
inductive PickF(i:Nat)(q:Option (Except XD Out×Sto))(es:List D)(Ω':Sto):Prop
 | mk (Y':DSt) (h1:q=some (.ok (.nx Y'),Ω')) (h2:Y'[i]? = some (some (.lst es)))
section
end
section
end
end DL
namespace L2
open PyProof.Rows
open Att
section
inductive TpAt(h:Heap)(v:Value)(ns:List Int):Prop
 | mk (a:Addr) (its:Array Value) (e:v=.ref a) (h1:IsTup h a its) (h2:IntsAre its.toList ns)
end
end L2
namespace DL
open PyProof.Rows L2
section
variable {e:Expr}
inductive TupV(K:W.Frag)(H:Hp)(v:V)(t:List Int):Prop
 | mk (a:Addr) (e:v=.ref a) (h:SqT K H a (t.map V.int))
end
def jvp(fa fb:DSt->MS D):DSt->MS D:=fun Y=>(fa Y).b fun x=>match x with
 | .bl true=>fb Y
 | .bl false=>MS.p (.bl false)
 | _=>fun _=>none
section
variable {X:Cx}{O:List Nat}{a b:Expr}{rest:List Expr}{pos:Pos}{fa fb:DSt->MS D}
def jAs{op}(h:ME X O a fa):ME X O (.BoolOp op [a] pos) fa:=fun U s Z H Q I hw=>jAy h U s Z H Q I hw
def jAo(ha:ME X O a fa)(hb:ME X O (.BoolOp .And (b::rest) pos) fb):ME X O (.BoolOp .And (a::b::rest) pos) (jvp fa fb):=by
 rintro U s Z H Q I ⟨Jz,Sz,Hz,F,J,S,Y,Ω,R,r,Ω',hf,k⟩;refine jAx ha hb U s Z H Q I ?_;rcases MS.b_inv hf with ⟨x,Ω1,e1,hf⟩|⟨x,e1,rfl⟩
 ·refine⟨Jz,Sz,Hz,F,J,S,Y,Ω,R,.ok x,Ω1,e1,fun u ρ1 S1 H1 R1 l1 v1 r1=>?_⟩
  cases x with
  | bl z =>
   refine⟨z,rep_bl.mp r1,?_⟩
   cases z with
   | true =>
    refine iteT ⟨Jz,Sz,Hz,F,ρ1,S1,Y,Ω1,R1,r,Ω',hf,?_⟩
    cases r with
    | ok d=>exact fun v ρ2 S2 H2 R2 l2 v2 r2=>k v ρ2 S2 H2 R2 (l1.trans l2) (v1.trans v2) r2
    | error y=>trivial
   | false =>
    refine iteF ?_;cases hf;exact k _ ρ1 S1 H1 R1 l1 v1 (rep_bl.mpr rfl)
  | _=>cases hf
 ·exact⟨Jz,Sz,Hz,F,J,S,Y,Ω,R,.error x,_,e1,trivial⟩
end
end DL
namespace L2
open PyProof.Rows
section
variable {prog:Program}{w:World}{A:Around}{E:qc}{s:Shared}
def jxu{t b:Addr}{vs ws:List Value}{Q:qc}(ht:IsTup s.heap t vs.toArray)(hb:IsTup s.heap b ws.toArray)(hv:vs=[])(h1:Q (.ref b) s):wpAny (model prog w) A (binaryOp .Add (.ref t) (.ref b)) Q E s:=by
 obtain⟨⟨cls,dd,data,sl⟩,ho,hc,n,hd⟩:=id ht;obtain⟨⟨cls2,dd2,data2,sl2⟩,ho2,hc2,n2,hd2⟩:=id hb;simp only at hc hd hc2 hd2;subst hc hd hc2 hd2;exact concat_meets ⟨_,ho,rfl⟩ ⟨_,ho2,rfl⟩ noFill_tuple_add seq_tuple_add PySem.F.slot_tuple_add PySem.F.entry_tuple_add (PySem.F.args_tuple_add_2 _ _)
  (tuple_addW0 t b vs.toArray ws.toArray n n2 dd dd2 sl sl2 (by simp[hv])) ⟨ho,ho2,h1⟩
end
def jD2(K:W.Frag):R2:=fun x y H Q=>∃ a b xs ys,x=.ref a/\y=.ref b/\SqT K H a xs/\SqT K H b ys/\xs=[]/\Q (.ref b) H
def op_catE{X:Cx}:OpR X (binaryOp .Add) (jD2 X.K):=by
 intro U s Z H x y v u Q I rx ry h;obtain⟨a,b,xs,ys,rfl,rfl,ha,hb,hx,q⟩:=h;cases rx;cases ry;obtain⟨its,r1,p1,_⟩:=I.tuple ha;obtain⟨its2,r2,p2,_⟩:=I.tuple hb;exact jxu p1 p2 (r1.nil_iff.mpr hx) ⟨.ref b,H,I,rfl,q⟩
end L2
namespace DL
open L2
def jx8:D->D->Option D
 | .tup xs,.tup ys=>if xs.length+ys.length<=sizeLine then some (.tup (xs++ys)) else none
 | _,_=>none
section
variable {X:Cx}{e:Expr}
def jy0:OpD X.K jx8 (fun x y H Q=>jD2 X.K x y H Q\/jwr X.K x y H Q):=by
 intro x y d hd J H G u v Q hG ru rv k;unfold jx8 at hd
 split at hd
 ·rename_i xs ys
  split at hd
  ·rename_i hz;cases hd;obtain⟨p,us,rfl,q1,q2⟩:=rep_tup.mp ru;obtain⟨q,ws,rfl,q3,q4⟩:=rep_tup.mp rv
   by_cases hx:xs=[]
   ·subst hx;refine .inl ⟨p,q,us,ws,rfl,rfl,jda jao q1,jda jao q3,reps_nil.mp q2,?_⟩;exact k _ H (Same.refl H) rv
   ·refine .inr ⟨p,q,us,ws,rfl,rfl,jda jao q1,jda jao q3,?_,by rw[q2.length,q4.length];exact hz,fun hw=>?_,fun hw l hl=>?_⟩
    ·intro z;have:=q2.length;rw[z] at this;exact hx (List.eq_nil_of_length_eq_zero this.symm)
    ·have hy:ys=[]:=by
      have:=q4.length;rw[hw] at this;exact List.eq_nil_of_length_eq_zero this.symm
     rw[hy,List.append_nil] at k;exact k _ H (Same.refl H) ru
    ·exact k _ _ (ja7 hl) (jdj hl (hG l hl) (q2.append q4))
  ·cases hd
 ·cases hd
def jDf:OpR X (binaryOp .Add) (fun x y H Q=>jD2 X.K x y H Q\/jwr X.K x y H Q):=op_catE.or jv9
def jwe:OpD X.K jAh (fun x y H Q=>y=.non/\Q (.bl (!decide (x=.non))) H):=by
 intro x y d hd J H G u v Q hG ru rv k
 cases y with
 | non =>
  cases hd;refine⟨rep_non.mp rv,?_⟩;have e:decide (u=V.non)=jrx x:=by
   cases x with
   | non=>cases rep_non.mp ru;rfl
   | bl _=>cases rep_bl.mp ru;rfl
   | int _=>cases rep_int.mp ru;rfl
   | str _=>cases rep_str.mp ru;rfl
   | ty _=>cases rep_ty.mp ru;rfl
   | obj _=>obtain⟨_,_,rfl⟩:=rep_obj.mp ru;rfl
   | tup _=>obtain⟨_,_,rfl,_⟩:=rep_tup.mp ru;rfl
   | lst _=>obtain⟨_,_,rfl,_⟩:=rep_lst.mp ru;rfl
  rw[e];exact k _ H (Same.refl H) (rep_bl.mpr rfl)
 | _=>cases hd
end
end DL
namespace L2
open PyProof.Rows Builtin Builtin.ObjectAttr
open PySem.W (Frag InstAt Looks findIn mroIn clsIn findObj takerIn tailIn isFn)
abbrev bmV:List Value:=[.type "ValueError",.type "Exception",.type "BaseException",.type "object"]
def xIn(K:Frag)(C:Addr):Bool:=match K.lookup C with
 | some ⟨.type "type",_,.cls cd,sl⟩=>(match cd.mro,sl.toList with
  | .ref C'::bm,[_,_,_,_,some (.builtin n),_]=>C' == C&&n == "ValueError.__new__"&&!cd.hasDel&&cd.hasDict&&tailIn K bmV bm
  | _,_=>false)
 | _=>false
inductive XAt(K:Frag)(h:Heap)(C:Addr):Prop
 | mk (bm:List Value) (N:Addr) (nm q:Str) (bs:List Value) (sn:List Str) (sub:List Value) (ab:Bool) (col:Option Bool) (dd:Option Addr) (k0 k1 k2 k3 k5:Option Value) (cd:ClassData)
  (hC:h.get? C=some (excClassObj nm q C N bs bm true sn sub ab col dd k0 k1 k2 k3 k5 "ValueError.__new__")) (T:OwnTail h bmV bm) (hk:clsIn K C=some cd) (hm:cd.mro=.ref C::bm) (hd:cd.hasDict=true) (hN:cd.ns=N)
def x_at{K:Frag}{h:Heap}{C:Addr}(X:K.In h)(e:xIn K C=true):XAt K h C:=by
 unfold xIn at e
 split at e
 ·rename_i dd cd sl ho
  split at e
  ·rename_i C' bm k0 k1 k2 k3 n k5 hm hs;simp only[Bool.and_eq_true,beq_iff_eq,Bool.not_eq_true'] at e;obtain⟨⟨⟨⟨e1,e2⟩,e3⟩,e4⟩,e5⟩:=e;subst e1 e2;have hk:clsIn K C'=some cd:=by unfold clsIn;rw[ho]
   have hm0:=hm;have e40:=e4;obtain⟨nm,bs,mro,ns,qn,hd,sn,sub,ab,col,del⟩:=cd;dsimp only at hm e3 e4;subst hm e3 e4;have hsl:sl=#[k0,k1,k2,k3,some (.builtin "ValueError.__new__"),k5]:=by
    obtain⟨l⟩:=sl;simp only at hs;rw[hs]
   subst hsl;exact⟨bm,ns,nm,qn,bs,sn,sub,ab,col,dd,k0,k1,k2,k3,k5,_,X _ _ ho,W.tail_of_in X e5,hk,hm0,e40,rfl⟩
  ·cases e
 ·cases e
def jqp{h:Heap}{bm:List Value}(self:Value)(T:OwnTail h bmV bm):refuseLoop self "__setattr__" bm=pure ():=by
 induction T with
 | base=>exact PySem.F.store_ValueError.passes self
 | own _ _ _ _ ih=>rw[refuseLoop_ref];exact ih
section
variable {prog:Program}{w:World}{A:Around}{E:qc}{s:Shared}{K:Frag}{x C f:Addr}{name:Str}{v:Value}{ox:Obj}{od:Option Obj}
def jIh{rest:List Value}{Q:qc}(X:K.In s.heap)(hx:xIn K C=true)(hi:findIn K (.ref C) "__init__"=some (some (.ref f)))(hf:isFn K (.ref f)=true)
  (hq:∀ h' e,Heap.MadeExcOf s.heap h' e (.ref C) rest->wpAny (model prog w) (A.under (.builtin "type.__call__" ⟨.ref C::rest,[]⟩)) (call (.ref f) (.ref e::rest)) (fun r s'=>r=.none/\Q (.ref e) s') E { s with heap:=h' }) (hrest:rest.length<=sizeLine) :
  wpAny (model prog w) A (call (.ref C) rest) Q E s:=by
 obtain⟨bm,N,nm,q,bs,sn,sub,ab,col,dd,k0,k1,k2,k3,k5,cd,hC,T,hk,hm,hd,hN⟩:=x_at X hx;obtain⟨h,g,d,t,os⟩:=s;have F:=PySem.F.excBase_ValueError;have f1:=tc_lookup;have f2:=tc_bind (.ref C);have hT:(⟨h,g,d,t,os⟩:Shared).TypeIs (.ref C) "type":=⟨_,hC,rfl⟩
 refine wpAny_call (codeAny_of_tree (show wpAny _ _ (callAny (.ref C) _) _ _ _ from ?_))
 repeat (any_goals (first|assumption|with_reducible refine wpAny_loadPart_at hC ?_|wp_step))
 refine⟨rfl,codeAny_call_builtin_at (Code.quiet_builtin _ (by decide +kernel)) entry_typeCall (wpAny_check_type_call_sub hC ?_)⟩
 repeat (first|with_reducible refine wpAny_loadPart_at hC ?_|with_reducible refine wpAny_madeBy_exc hC ?_|wp_step)
 refine codeAny_call_builtin_code (Code.quiet_builtin _ F.quiet) (wpAny_check_new_subT F T hC (codeAny_exc_new_subT F T hC (show wpAny _ _ _ _ _ _ from ?_) hrest));have kp:∀ b o,h.get? b=some o->((h.push { cls:=.type "tuple",data:=.seq rest.toArray }).push { cls:=.ref C,data:=.fields #[.ref h.objs.size,.none,.none,.none,.bool false,.none] }).get? b=some o:=fun b o e=>zaz _ (zaz _ e)
 have hC1:=kp _ _ hC;have X1:K.In ((h.push { cls:=.type "tuple",data:=.seq rest.toArray }).push { cls:=.ref C,data:=.fields #[.ref h.objs.size,.none,.none,.none,.bool false,.none] }):=fun b o e=>kp b o (X b o e)
 have hg1:((h.push { cls:=.type "tuple",data:=.seq rest.toArray }).push { cls:=.ref C,data:=.fields #[.ref h.objs.size,.none,.none,.none,.bool false,.none] }).get? (h.objs.size+1)=some { cls:=.ref C,data:=.fields #[.ref h.objs.size,.none,.none,.none,.bool false,.none] }:=by heap_get
 have hc1:(Value.ref C::bm).contains (.ref C)=true:=by simp
 unfold isInstance
 repeat (first|with_reducible refine wpAny_loadPart_at hg1 ?_|(with_reducible refine wpAny_isSubtype_exc hC1 ?_;rw[hc1])|wp_step)
 refine wpAny_isSubtype_exc (C:=C) hC1 ?_;rw[hc1]
 repeat wp_step
 repeat (first|with_reducible refine wpAny_loadPart_at hg1 ?_|wp_step)
 show wpAny _ _ (typeLookup (.ref C) _) _ _ _;refine (W.looks_findIn X1 hi).at ?_;refine wpAny_holding (zay ((W.bind_fn X1 _ (beq_iff_eq.mp hf)).at ?_));refine zay (wpAny_mono (hq _ (h.objs.size+1) ⟨kp,Heap.get?_none_of_le (Nat.le_succ _),h.objs.size,hg1,Heap.get?_none_of_le (zac _),zaz _ (Heap.get?_push_at rfl rfl)⟩) (fun r s' hr=>?_) fun _ _ z=>z);obtain⟨rfl,hQ⟩:=hr
 wp_walk
 exact hQ
def xNoI(K:Frag)(C:Addr):Bool:=(clsIn K C).any fun cd=>W.nsOkIn K cd.ns&&W.nsIn K cd.ns "__init__" == some none
def jEq{K:Frag}{C:Addr}{h:Heap}(X:K.In h)(hx:xIn K C=true){T:String}(hT:bmV.contains (.type T)=true):mroIn K C (.type T)=some true:=by
 obtain⟨bm,N,nm,q,bs,sn,sub,ab,col,dd,k0,k1,k2,k3,k5,cd,hC,Tl,hk,hm,hd,hN⟩:=x_at X hx;unfold mroIn;rw[hk,Option.bind_some,hm,if_neg (fun z=>by cases z),List.contains_cons,Tl.hasType hT,Bool.or_true]
def jIi{R:Result->Shared->Prop}{tk:Tok}(X:K.In s.heap)(I:InstAt s.heap x ox C od)(hx:xIn K C=true)(ht:takerIn K C name=some none)
  (h:∀ b,wpAny (model prog w) A.in1 (storeInOwnDict (.ref x) (.ref C) (.str name tk) name v b) (fun fin s'=>match fin with|.done f=>R (.ok f) s'|.again c'=>c'.quiet=true/\codeAny (model prog w) A c' R s') (fun e s'=>R (.error e) s') s) :
  codeAny (model prog w) A (.call (.builtin "object.__setattr__") ⟨[.ref x,.str name tk,v],[]⟩) R s:=by
 have SF:=PySem.F.store_object;have sub:Looks (model prog w) s.heap (isInstance (.ref x) (.type "object")) true:=I.type.andThen (W.looks_mroIn X (jEq X hx (by decide)));obtain⟨bm,N,nm,q,bs,sn,sub',ab,col,dd,k0,k1,k2,k3,k5,cd,hC,Tl,hk,hm,hd,hN⟩:=x_at X hx;have hmr:Looks (model prog w) s.heap (mroOf (.ref C)) (.ref C::bm):=by
  have:=(W.looks_clsIn (M:=model prog w) X hk).andThen (f:=fun cd=>pure cd.mro) (b:=cd.mro) .now;rw[hm] at this;exact this
 refine codeAny_call_builtin SF.slot.plain SF.entry (@W.check_slot (model prog w) _ _ s "object.__setattr__" "object" "__setattr__" (.ref x) [.str name tk,v] [] _ SF.kind SF.split sub (SF.args (.ref x) (.str name tk) v) ?_);obtain⟨attr,ha,hr⟩:=Option.bind_eq_some_iff.mp ht;have L3:Looks (model prog w) s.heap (storeTaker? attr) none:=by
  cases attr with
  | none=>exact .now
  | some a =>
   obtain⟨b,hb,e⟩:=Option.map_eq_some_iff.mp hr
   cases b with
   | false=>exact (W.looks_takesIn X hb).andThen .now
   | true=>cases e
 rw[W.osa_eq,refuse_eq];refine zay (zay (I.type.here (zay (hmr.here ?_))));rw[refuseLoop_ref,jqp _ Tl];exact zab (zay (I.type.here (zay ((W.looks_findIn X ha).here (zay (L3.here (h _)))))))
def jq2{h:Heap}{vs:Array Value}{sl:qe}(e:h.get? x=some (xOb C none vs sl)):InstAt h x (xOb C none vs sl) C none:=⟨e,rfl,rfl,trivial⟩
def joc{h:Heap}{vs:Array Value}{sl:qe}{dx:Addr}{o:Obj}(e:h.get? x=some (xOb C (some dx) vs sl))(e2:h.get? dx=some o):InstAt h x (xOb C (some dx) vs sl) C (some o):=⟨e,rfl,rfl,e2⟩
def jIj{vs:Array Value}{sl:qe}{Q:Unit->Shared->Prop}(X:K.In s.heap)(h0:s.heap.get? x=some (xOb C none vs sl))(hx:xIn K C=true)(hs:findIn K (.ref C) "__setattr__"=some (some (.builtin "object.__setattr__")))(ht:takerIn K C name=some none)
  (h:∀ h':Heap,h'.get? x=some (xOb C (some s.heap.objs.size) vs sl)->h'.Ns1 s.heap.objs.size (fun y=>if y=name then some v else none)->(∀ b ob,b≠x->s.heap.get? b=some ob->h'.get? b=some ob)->Q () { s with heap:=h',toks:=s.toks+2 }) :
  wpAny (model prog w) A (setAttr (.ref x) name v) Q E s:=by
 have I:=jq2 h0;refine W.set_plain X I hs (jIi (s:={ s with toks:=s.toks+1 }) X I hx ht fun b=>?_);obtain⟨bm,N,nm,q,bs,sn,sub',ab,col,dd,k0,k1,k2,k3,k5,cd,hC,Tl,hk,hm,hd,hN⟩:=x_at X hx;have hxs:x≠s.heap.objs.size:=zcw (zbv h0);have h1:(s.heap.push { cls:=.type "dict",data:=.dict #[] }).get? x=some (xOb C none vs sl):=zaz _ h0;refine zay (zab (zay (zay (wpAny_loadPart h0 (zay (Looks.here (s:={ s with toks:=s.toks+1 }) (W.looks_clsIn X hk) ?_))))));rw[hd];refine (show wpAny (model prog w) A.in1 (alloc { cls:=Value.type "dict",data:=Data.dict #[] } >>= fun d=>update x (fun o=>{ cls:=o.cls,dict:=some d,data:=o.data,slots:=o.slots }) >>= fun _=>(pure (some d):Sem (Option Addr))) _ _ _ from ?_);refine zay (wpAny_alloc (zay (wpAny_update h1 (zab ?_))));have g1:((s.heap.push { cls:=.type "dict",data:=.dict #[] }).update x fun o=>{ cls:=o.cls,dict:=some s.heap.objs.size,data:=o.data,slots:=o.slots }).get? s.heap.objs.size=some { cls:=.type "dict",data:=.dict #[] }:=by
  rw[Heap.get?_update_ne _ _ _ _ hxs.symm];exact zbz _ rfl
 have g2:((s.heap.push { cls:=.type "dict",data:=.dict #[] }).update x fun o=>{ cls:=o.cls,dict:=some s.heap.objs.size,data:=o.data,slots:=o.slots }).Ns s.heap.objs.size (fun _=>none) :=
  ⟨_,#[],_,g1,rfl,(fun e he=>absurd he (by simp)),fun _=>rfl⟩
 show wpAny _ _ (storeInDict s.heap.objs.size (.str name s.toks) name v) _ _ _;unfold storeInDict newKeyGuard;refine zay (zab (zay (wpAny_nsSet1 (s:=⟨(s.heap.push { cls:=.type "dict",data:=.dict #[] }).update x fun o=>{ cls:=o.cls,dict:=some s.heap.objs.size,data:=o.data,slots:=o.slots },s.gens,s.drawn,s.toks+1,s.os⟩) (Heap.Ns1.of_empty g2) fun h' hn' hsb=>?_)));obtain⟨oD,esD,epD,hoD,hdD,hcD⟩:=hn'.count (PySem.Within.cons name v PySem.Within.nil);refine zay (wpAny_lookBehind hoD (by rw[hdD];exact pastItsLine_dict (zdy hcD (by rw[List.length_cons,List.length_nil,sizeLine_eq];omega))) ?_);refine zab (h h' ?_ hn' fun b ob nb hb=>?_)
 ·refine (hsb.2 x hxs).trans (Heap.get?_update_self _ h1 rfl)
 ·exact (hsb.2 b (zcw (zbv hb))).trans ((Heap.get?_update_ne _ _ _ _ nb).trans (zaz _ hb))
def jIk{vs:Array Value}{sl:qe}{dx:Addr}{mA:qa}{ns:List Str}{Q:Unit->Shared->Prop}(X:K.In s.heap)(h0:s.heap.get? x=some (xOb C (some dx) vs sl))(hn:s.heap.Ns1 dx mA)(hx:xIn K C=true)
  (hs:findIn K (.ref C) "__setattr__"=some (some (.builtin "object.__setattr__"))) (ht:takerIn K C name=some none) (hw:PySem.Within mA ns) (hsz:ns.length<=sizeLine)
  (h:∀ h':Heap,h'.Ns1 dx (fun y=>if y=name then some v else mA y)->Heap.SameBut dx s.heap h'->Q () { s with heap:=h',toks:=s.toks+2 }) :
  wpAny (model prog w) A (setAttr (.ref x) name v) Q E s:=by
 obtain⟨od,_,_,e1,_⟩:=id hn;have I:=joc h0 e1;refine W.set_plain X I hs (jIi (s:={ s with toks:=s.toks+1 }) X I hx ht fun b=>?_);obtain⟨bm,N,nm,q,bs,sn,sub',ab,col,dd,k0,k1,k2,k3,k5,cd,hC,Tl,hk,hm,hd,hN⟩:=x_at X hx;refine zay (zab (zay (zay (wpAny_loadPart h0 (zay (Looks.here (s:={ s with toks:=s.toks+1 }) (W.looks_clsIn X hk) ?_))))));rw[hd];refine zab (a:=some dx) (zay (zab (zay (wpAny_nsSet1 (s:={ s with toks:=s.toks+1 }) hn fun h' hn2 hs2=>?_))));obtain⟨oD,esD,epD,hoD,hdD,hcD⟩:=hn2.count (PySem.Within.cons name v hw);exact zay (wpAny_lookBehind hoD (by rw[hdD];exact pastItsLine_dict (zdy hcD (by rw[List.length_cons];omega))) (zab (h _ hn2 hs2)))
end
end L2
namespace L2
open PyProof.Rows Builtin Builtin.ObjectAttr
open PySem.W (Frag InstAt Looks findIn mroIn clsIn findObj takerIn specialIn takesIn hasDictIn isFn)
section
variable {prog:Program}{w:World}{A:Around}{E:qc}{s:Shared}{K:Frag}{x C f:Addr}{name:Str}{v:Value}{ox:Obj}{od:Option Obj}
def jyk:builtinKind "BaseException.__getattribute__"=some .slot:=by decide +kernel
def jxb:splitId "BaseException.__getattribute__"=some ("BaseException","__getattribute__"):=by decide +kernel
def x_ga{R:Result->Shared->Prop}{tk:Tok}(X:K.In s.heap)(I:InstAt s.heap x ox C od)(hx:xIn K C=true)
  (h:wpAny (model prog w) A.in1 (Builtin.«object.__getattribute__» ⟨[.ref x,.str name tk],[]⟩) (fun fin s'=>match fin with|.done f=>R (.ok f) s'|.again c'=>c'.quiet=true/\codeAny (model prog w) A c' R s') (fun e s'=>R (.error e) s') s) :
  codeAny (model prog w) A (.call (.builtin "BaseException.__getattribute__") ⟨[.ref x,.str name tk],[]⟩) R s:=by
 have sub:Looks (model prog w) s.heap (isInstance (.ref x) (.type "BaseException")) true:=I.type.andThen (W.looks_mroIn X (jEq X hx (by decide)));exact codeAny_call_builtin PySem.F.excAttr_ValueError.ga.plain PySem.F.entry_bexc_ga (@W.check_slot (model prog w) _ _ s "BaseException.__getattribute__" "BaseException" "__getattribute__" (.ref x) [.str name tk] [] _ jyk jxb sub (PySem.F.args_bexc_ga _ _) h)
def x_by{tk:Tok}{fill expr:Bool}{Q:qc}(X:K.In s.heap)(I:InstAt s.heap x ox C od)(hx:xIn K C=true)(hga:findIn K (.ref C) "__getattribute__"=some (some (.builtin "BaseException.__getattribute__")))(hgh:findIn K (.ref C) "__getattr__"=some none)
  (h:wpAny (model prog w) A.in1 (Builtin.«object.__getattribute__» ⟨[.ref x,.str name tk],[]⟩) (fun fin s'=>match fin with|.done (.ret v)=>wpAny (model prog w) A (handedOut v) Q E s'|_=>False) (fun _ _=>False) s) :
  wpAny (model prog w) A (getAttrBy (.ref x) (.str name tk) fill expr) Q E s:=by
 have L0:=I.type (M:=model prog w);have L1:=W.looks_findIn (M:=model prog w) X hga;have L2:=W.looks_hook (M:=model prog w) (mc:=.ref C) (r:=none) X hgh;unfold getAttrBy;refine wpAny_holding (zay (L0.here (zay (L1.here ?_))));show wpAny _ _ (getAttrByItsOwn (.ref x) (.str name tk) (.ref C) (.builtin "BaseException.__getattribute__") fill expr) _ _ _;unfold getAttrByItsOwn;refine zay (L2.here (zay (wpAny_attempt (wpAny_holding ?_))));have e0:callGetattribute (.ref x) (.str name tk) (.builtin "BaseException.__getattribute__") expr=boundAndCalled (.builtin "BaseException.__getattribute__") (.ref x) (.str name tk):=by cases expr<;>rfl
 rw[e0];unfold boundAndCalled;rw[PySem.F.excAttr_ValueError.ga.bind];refine zay (zab (wpAny_call (x_ga X I hx (wpAny_mono h (fun fin s' z=>?_) fun _ _ z=>z.elim))));rcases fin with (_|_|_|_)|_<;>first|exact z|exact z.elim
def jBi{tk:Tok}{r:Found}{Q:PySem.Fin->Shared->Prop}(X:K.In s.heap)(I:InstAt s.heap x ox C od)(hf:findObj K C od name=some r)
  (h:wpAny (model prog w) A (match r with|.value v=>ret v|.bind g a=>bindTo g a (.ref x) (.ref C)|.missing=>unsupported "no") Q E s) (hr:r≠.missing) :
  wpAny (model prog w) A (Builtin.«object.__getattribute__» ⟨[.ref x,.str name tk],[]⟩) Q E s:=by
 have L0:=I.type (M:=model prog w);have L1:=W.looks_find (M:=model prog w) X I hf;refine zay (zab (zay (zab (zay (L0.here (zay (L1.here ?_)))))))
 cases r with
 | value v=>exact h
 | bind g a=>exact h
 | missing=>exact absurd rfl hr
def jIg{h:Heap}(X:K.In h)(hx:xIn K C=true):hasDictIn K C=true:=by
 obtain⟨bm,N,nm,q,bs,sn,sub',ab,col,dd,k0,k1,k2,k3,k5,cd,hC,Tl,hk,hm,hd,hN⟩:=x_at X hx;unfold hasDictIn;rw[hk];exact hd
def jKi{vs:Array Value}{sl:qe}{dx:Addr}{mA:qa}{expr:Bool}{Q:qc}(X:K.In s.heap)(h0:s.heap.get? x=some (xOb C (some dx) vs sl))(hn:s.heap.Ns1 dx mA)(hx:xIn K C=true)
  (hga:findIn K (.ref C) "__getattribute__"=some (some (.builtin "BaseException.__getattribute__"))) (hgh:findIn K (.ref C) "__getattr__"=some none) (ha:findIn K (.ref C) name=some none) (hv:mA name=some v) (hh:W.handedIn v=true)
  (h:Q v { s with toks:=s.toks+1 }):wpAny (model prog w) A (getAttr (.ref x) name expr) Q E s:=by
 obtain⟨o,ho,hl⟩:=jov hn;have I:=joc h0 ho;unfold getAttr;refine zay (wpAny_mkText (x_by (s:={ s with toks:=s.toks+1 }) X I hx hga hgh (jBi (s:={ s with toks:=s.toks+1 }) X I (r:=.value v) (W.findObj_own (jIg X hx) ha rfl (by rw[hl,hv])) (zab (W.handed_on hh h)) (fun z=>nomatch z))))
def jEo{Q:Option Value->Shared->Prop}(X:K.In s.heap)(I:InstAt s.heap x ox C od)(hx:xIn K C=true)(hga:findIn K (.ref C) "__getattribute__"=some (some (.builtin "BaseException.__getattribute__")))(hgh:findIn K (.ref C) "__getattr__"=some none)
  (ha:findIn K (.ref C) "__class__"=some (some (.builtin "object.__class__"))) (hn:specialIn K (.builtin "object.__class__") "__get__"=some (some (.builtin "getset_descriptor.__get__"))) (htk:takesIn K (.builtin "object.__class__")=some true)
  (h:Q (some (.ref C)) { s with toks:=s.toks+1 }):wpAny (model prog w) A (getAttr? (.ref x) "__class__") Q E s:=by
 obtain⟨bm,N,nm,q,bs,sn,sub',ab,col,dd,k0,k1,k2,k3,k5,cd,hC,Tl,hk,hm,hd,hN⟩:=x_at X hx;have hf:findObj K C od "__class__"=some (.bind (.builtin "getset_descriptor.__get__") (.builtin "object.__class__")):=by
  unfold W.findObj;rw[hk,Option.bind_some,ha,Option.bind_some];dsimp only;rw[hn,Option.bind_some];dsimp only;rw[htk];rfl
 unfold getAttr? getAttrBy?;refine zay (wpAny_mkText (zay (wpAny_attempt (x_by (s:={ s with toks:=s.toks+1 }) X I hx hga hgh (jBi (s:={ s with toks:=s.toks+1 }) X I hf (show wpAny _ _ (holding [Value.builtin "object.__class__"] (call (.builtin "getset_descriptor.__get__") [.builtin "object.__class__",.ref x,.ref C]) >>= ret) _ _ _ from ?_) (fun z=>nomatch z))))));refine zay (wpAny_holding (wpAny_call (W.class_get (s:={ s with toks:=s.toks+1 }) X I (jEq X hx (by decide)) (zab (W.handed_on rfl (zab h))))))
def jAn(hx:xIn K C=true)(hga:findIn K (.ref C) "__getattribute__"=some (some (.builtin "BaseException.__getattribute__")))(hgh:findIn K (.ref C) "__getattr__"=some none)
  (ha:findIn K (.ref C) "__class__"=some (some (.builtin "object.__class__"))) (hn:specialIn K (.builtin "object.__class__") "__get__"=some (some (.builtin "getset_descriptor.__get__"))) (htk:takesIn K (.builtin "object.__class__")=some true) :
  W.KitX K (.ref x) (.ref C) (fun h=>∃ ox od,InstAt h x ox C od) where
 ty:=fun _ _ _ ⟨_,_,I⟩=>I.type
 it:=fun _ _ X _=>by
  obtain⟨bm,N,nm,q,bs,sn,sub',ab,col,dd,k0,k1,k2,k3,k5,cd,hC,Tl,hk,hm,hd,hN⟩:=x_at X hx;intro A' Q' E' s' k z;unfold isType loadHead;exact zay (wpAny_loadPart (k _ _ hC) (zab z))
 ne:=fun h tp dd its n sl X htp=>by
  obtain⟨bm,N,nm,q,bs,sn,sub',ab,col,dd',k0,k1,k2,k3,k5,cd,hC,Tl,hk,hm,hd,hN⟩:=x_at X hx;refine Bool.eq_false_iff.mpr fun q=>?_
  rw[<- Value.ref.inj (beq_iff_eq.mp q),hC] at htp;exact absurd (Value.type.inj (congrArg Obj.cls (zby htp))) (by decide)
 ca:=fun X ⟨_,_,I⟩ z=>jEo X I hx hga hgh ha hn htk z
end
end L2
namespace L2
open PyProof.Rows
open PySem.W (Frag InstAt Looks findIn mroIn clsIn findObj takerIn specialIn takesIn hasDictIn isFn)
structure XCls(K:Frag)(C:Addr):Prop where
 x:xIn K C=true
 sa:findIn K (.ref C) "__setattr__"=some (some (.builtin "object.__setattr__"))
 ga:findIn K (.ref C) "__getattribute__"=some (some (.builtin "BaseException.__getattribute__"))
 gh:findIn K (.ref C) "__getattr__"=some none
 cl:findIn K (.ref C) "__class__"=some (some (.builtin "object.__class__"))
 kp:W.keepIn K (.ref C)=true
def xCls(K:Frag)(C:Addr):Bool:=xIn K C&&findIn K (.ref C) "__setattr__" == some (some (.builtin "object.__setattr__"))&&findIn K (.ref C) "__getattribute__" == some (some (.builtin "BaseException.__getattribute__"))&&findIn K (.ref C) "__getattr__" == some none&&findIn K (.ref C) "__class__" == some (some (.builtin "object.__class__"))&&W.keepIn K (.ref C)
def jEs{K:Frag}{C:Addr}(h:xCls K C=true):XCls K C:=by
 unfold xCls at h;simp only[Bool.and_eq_true,beq_iff_eq] at h;obtain⟨⟨⟨⟨⟨h1,h2⟩,h3⟩,h4⟩,h5⟩,h6⟩:=h;exact⟨h1,h2,h3,h4,h5,h6⟩
section
variable {X:Cx}{U:qb}{Z:St}{H:Hp}{s:Shared}{h':Heap}{A:Around}{E:qc}{a C dx:Addr}{fs:List (Str×V)}{f:Str}
def jp3{P:Program}{w:World}{φ:Heap->Prop}{h:Heap}(e:φ h)(o:∃ ob,h.get? a=some ob)(k:∀ h1 h2:Heap,φ h1->(∀ ob,h1.get? a=some ob->h2.get? a=some ob)->φ h2):ObjOk P w H h a (.ext φ):=⟨e,o,k⟩
def jsh{P:Program}{w:World}{h:Heap}{od:Option Addr}{fr:Bool}{vs:Array Value}{sl:qe}(e:h.get? a=some (xOb C od vs sl))(ef:fr=true->vs[1]? = some .none):ObjOk P w H h a (XO a C od fr):=jp3 ⟨vs,sl,e,ef⟩ ⟨_,e⟩ fun _ _ ⟨vs,sl,e,ef⟩ k=>⟨vs,sl,k _ e,ef⟩
def jBj{P:Program}{w:World}{h:Heap}(e:XDv a fs h):ObjOk P w H h a (XDc a fs):=by
 refine jp3 e ?_ ?_
 ·obtain⟨mA,⟨o,_,_,q,_⟩,_⟩:=e;exact⟨o,q⟩
 ·rintro h1 h2 ⟨mA,n,r,w',l⟩ k;exact⟨mA,n.at k,r,w',l⟩
def jpy{od:Option Addr}{fr:Bool}(I:Inv X U Z H s)(e:H a=some (XO a C od fr)):∃ vs sl,s.heap.get? a=some (xOb C od vs sl)/\(fr=true->vs[1]? = some .none):=(show ObjOk X.prog X.w H s.heap a (XO a C od fr) from I.hok a _ e).1
def jz1(I:Inv X U Z H s)(e:H dx=some (XDc dx fs)):XDv dx fs s.heap:=(show ObjOk X.prog X.w H s.heap dx (XDc dx fs) from I.hok dx _ e).1
def Inv.laidX{o:HO}{t':Nat}(I:Inv X U Z H s)(k:∀ b u,s.heap.get? b=some u->h'.get? b=some u)(hD:s.heap.get? a=none)(new:ObjOk X.prog X.w (upd H a o) h' a o):Inv X U Z (upd H a o) { s with heap:=h',toks:=t' }:=by
 have hn:H a=none:=by
  cases e:H a with
  | none=>rfl
  | some u=>obtain⟨o,q⟩:=(I.hok a u e).here;rw[hD] at q;cases q
 have nD:∀ b o,s.heap.get? b=some o->b≠a:=fun b o e z=>by rw[z,hD] at e;cases e
 have nD':∀ b u,H b=some u->b≠a:=fun b u e z=>by rw[z,hn] at e;cases e
 refine I.un ⟨fun b u q _ _ _=>k b u q,fun b u q _ _ _=>⟨u.slots,k b u q⟩,fun b u q n _=>by rw[jai (nD b u q)];exact n,fun b u q _=>⟨u,k b u q⟩,fun b xs q=>by rw[jai (nD' b _ q)];exact q,fun b u xs q=>by rw[jai (nD' b _ q)];exact q,fun b ps q=>⟨#[],by rw[jai (nD' b _ q),q];simp⟩⟩ fun b u e=>?_
 by_cases z:b=a
 ·subst z;rw[jam] at e;cases e;exact new
 ·rw[jai z] at e;exact (I.hok b u e).stay (fun c v _ q=>k c v q) (fun c q=>by rw[jai (nD' c _ q)];exact q) fun c xs q=>by rw[jai (nD' c _ q)];exact q
def jm9{h:Heap}{b:Addr}(I:Inv X U Z H s)(hD:s.heap.get? b=none):H b=none:=by
 cases e:H b with
 | none=>rfl
 | some u=>obtain⟨o,q⟩:=(I.hok b u e).here;rw[hD] at q;cases q
def jz2{y:V}{u:Value}{fr:Bool}{Q:Unit->Shared->Prop}(I:Inv X U Z H s)(e:H a=some (XO a C none fr))(c:XCls X.K C)(ht:takerIn X.K C f=some none)(ry:RelV y u)
  (h:∀ d s',H d=none->Inv X U Z (upd (upd H d (XDc d [(f,y)])) a (XO a C (some d) fr)) s'->Q () s'):wpAny (model X.prog X.w) A (setAttr (.ref a) f u) Q E s:=by
 obtain⟨vs,sl,h0,hf0⟩:=jpy I e;refine jIj I.kIn h0 c.x c.sa ht fun h' e1 n1 k1=>?_
 have hD:s.heap.get? s.heap.objs.size=none:=Heap.get?_none_of_le (zac _);have hn:=jm9 (h:=s.heap) I hD;have ne:a≠s.heap.objs.size:=fun z=>by rw[z,hD] at h0;cases h0
 have nd:XDv s.heap.objs.size [(f,y)] h':=by
  refine⟨_,n1,fun g=>?_,fun g hg=>?_,Nat.le_of_ble_eq_true rfl⟩
  ·show RelO (List.lookup g [(f,y)]) (if g=f then some u else none)
   by_cases q:g=f
   ·subst q;rw[if_pos rfl,List.lookup_cons,beq_self_eq_true];exact ry
   ·rw[if_neg q,List.lookup_cons,show (g == f)=false by simpa using q];exact True.intro
  ·by_cases q:g=f
   ·subst q;exact zdx.mpr rfl
   ·exact absurd (if_neg q) hg
 refine h s.heap.objs.size _ hn ?_;have nD:∀ b o,s.heap.get? b=some o->b≠s.heap.objs.size:=fun b o q z=>by rw[z,hD] at q;cases q
 have nD':∀ b u,H b=some u->b≠s.heap.objs.size:=fun b u q z=>by rw[z,hn] at q;cases q
 have na:∀ b,H b=none->b≠a:=fun b q z=>by rw[z,e] at q;cases q
 have nx:∀ b u,H b=some u->(∀ φ,u≠.ext φ)->b≠a:=fun b u q hu z=>by rw[z,e] at q;cases q;exact hu _ rfl
 refine I.un ⟨fun b u q n _ _=>k1 b u (na b n) q,fun b u q n _ _=>⟨u.slots,k1 b u (na b n) q⟩,fun b u q n _=>by rw[jai (na b n),jai (nD b u q)];exact n,fun b u q _=>?_,fun b xs q=>by rw[jai (nx b _ q fun _ z=>nomatch z),jai (nD' b _ q)];exact q,
  fun b u xs q=>by rw[jai (nx b _ q fun _ z=>nomatch z),jai (nD' b _ q)];exact q,fun b ps q=>⟨#[],by rw[jai (nx b _ q fun _ z=>nomatch z),jai (nD' b _ q),q];simp⟩⟩ fun b w eb=>?_
 ·by_cases z:b=a
  ·rw[z];exact⟨_,e1⟩
  ·exact⟨u,k1 b u z q⟩
 ·by_cases z:b=a
  ·subst z;rw[jam] at eb;cases eb;exact jsh e1 hf0
  ·rw[jai z] at eb
   by_cases z2:b=s.heap.objs.size
   ·subst z2;rw[jam] at eb;cases eb;exact jBj nd
   ·rw[jai z2] at eb;refine (I.hok b w eb).stay (fun c v hc q=>k1 c v ?_ q) (fun c q=>by rw[jai (nx c _ q fun _ z=>nomatch z),jai (nD' c _ q)];exact q) fun c xs q=>by rw[jai (nx c _ q fun _ z=>nomatch z),jai (nD' c _ q)];exact q
    rcases hc with r|r
    ·rw[r];exact z
    ·exact nx c _ r fun _ z=>nomatch z
def jz3{y:V}{u:Value}{fr:Bool}{Q:Unit->Shared->Prop}(I:Inv X U Z H s)(e:H a=some (XO a C (some dx) fr))(ed:H dx=some (XDc dx fs))(c:XCls X.K C)(ht:takerIn X.K C f=some none)(hl:fs.length<1000)(ry:RelV y u)
  (h:∀ s',Inv X U Z (upd H dx (XDc dx (putF f y fs))) s'->Q () s'):wpAny (model X.prog X.w) A (setAttr (.ref a) f u) Q E s:=by
 obtain⟨vs,sl,h0,hf0⟩:=jpy I e;obtain⟨mA,n,r,wi,_⟩:=jz1 I ed;refine jIk I.kIn h0 n c.x c.sa ht wi (by rw[zav,sizeLine_eq];omega) fun h' n' sb=>h _ ?_
 have hd:∃ o,h'.get? dx=some o:=let ⟨o,_,_,e',_⟩:=n';⟨o,e'⟩
 refine I.write (x:=dx) (e:=dx) (by rw[ed];exact True.intro) (.inl rfl) (fun b q hb z=>(sb.2 b hb).trans z) hd (jBj ⟨_,n',fun g=>?_,fun g hg=>?_,?_⟩)
 ·show RelO ((putF f y fs).lookup g) (if g=f then some u else mA g);rw[jh7]
  by_cases q:g=f
  ·rw[if_pos q,if_pos q];exact ry
  ·rw[if_neg q,if_neg q];exact r g
 ·by_cases q:g=f
  ·rw[q];exact (jg0 f y fs).1
  ·exact (jg0 f y fs).2 g (wi g fun z=>hg ((if_neg q).trans z))
 ·have:=jh6 f y fs;omega
def jEt{v:V}{ex fr:Bool}{Q:qc}(I:Inv X U Z H s)(e:H a=some (XO a C (some dx) fr))(ed:H dx=some (XDc dx fs))(c:XCls X.K C)(ht:findIn X.K (.ref C) f=some none)(l:fs.lookup f=some v)
  (h:∀ u s',Inv X U Z H s'->RelV v u->Q u s'):wpAny (model X.prog X.w) A (getAttr (.ref a) f ex) Q E s:=by
 obtain⟨vs,sl,h0,hf0⟩:=jpy I e;obtain⟨mA,n,r,wi,_⟩:=jz1 I ed;obtain⟨u,hu,ru⟩:=RelO.some_of (v:=v) (o:=mA f) (by rw[<- l];exact r f);exact jKi I.kIn h0 n c.x c.ga c.gh ht hu (jou ru) (h u _ (I.tok _) ru)
def jC2{h h':Heap}{us:List Value}(m:Heap.MadeExcOf h h' a (.ref C) us):∃ vs sl,h'.get? a=some (xOb C none vs sl)/\vs[1]? = some .none:=by
 obtain⟨_,_,t,e,_⟩:=m;exact⟨_,_,e,rfl⟩
end
structure XMk(K:Frag)(C f:Addr):Prop where
 c:XCls K C
 init:findIn K (.ref C) "__init__"=some (some (.ref f))
 fn:isFn K (.ref f)=true
section
variable {X:Cx}{CX:CXT}{k:Nat}{f C:Addr}{fd:FuncData}{ps:List Str}{sp:Sp}{E:XK}{x m:Str}{p pos:Pos}{e o value:Expr}{es:List Expr}{ta tv:TE}{t:TA}
def jwv{U:qb}{Z:St}{H:Hp}{s:Shared}{Q:VK}{us:List Value}{vs:List V}(M:XMk X.K C f)(F:FnOk X.prog X.w X.K X.mg X.base CX k f fd ps sp)(hr:Room (k+1) X.A)(hb:Binds X.K fd ps [])
  (hx:jjl CX X E) (I:Inv X U Z H s) (r:Vals vs us) (hz:vs.length<=1000)
  (h:∀ a,H a=none->sp (.ref a::vs) (upd H a (XO a C none true)) (fun v H2=>v=.non/\Q (.ref a) H2) E) :
  wpAny (model X.prog X.w) X.A (call (.ref C) us) (EP X U Z Q) X.xe s:=by
 refine jIh I.kIn M.c.x M.init M.fn (fun h' a m=>?_) (by rw[<- r.length,sizeLine_eq];omega);have hn:=jm9 (h:=s.heap) I m.new;have hq:=h a hn;obtain⟨w1,w2,w3,w4⟩:=jC2 m;have I2:Inv X U Z (upd H a (XO a C none true)) { s with heap:=h' }:=I.laidX (t':=s.toks) m.keeps m.new (jsh w3 fun _=>w4);have r2:Vals (V.ref a::vs) (Value.ref a::us):=.cons rfl r;have hl:(Value.ref a::us++[]).length=ps.length:=by
  rw[List.append_nil];have e:=r2.length;rw[F.len _ _ _ _ hq] at e;exact e.symm
 refine wpAny_call (codeAny_mono (F.run _ X.stack _ _ ⟨Value.ref a::us,[]⟩ (Value.ref a::us++[]) _ _ E (hr.make C us []) (I2.env0.make C us []) (hb _ (Value.ref a::us) I2.kIn hl) (by rw[List.append_nil];exact r2) hq) fun r s' hq'=>?_)
 cases r with
 | error e=>exact hx U Z _ _ e s' I2 hq'
 | ok fl =>
  cases fl with
  | ret u =>
   obtain⟨v,H',I3,rv,ev,q3⟩:=I2.after hq';subst ev;exact⟨rv,⟨V.ref a,H',I3,rfl,q3⟩⟩
  | next=>exact False.elim hq'
  | brk=>exact False.elim hq'
  | cont=>exact False.elim hq'
def jH4(C:Addr)(sp:Sp)(E:XK)(t:TA):TE:=fun Z H Q=>t Z H fun vs H1=>vs.length<=1000/\∀ a,H1 a=none->sp (.ref a::vs) (upd H1 a (XO a C none true)) (fun v H2=>v=.non/\Q (.ref a) H2) E
def jy5(M:XMk X.K C f)(F:FnOk X.prog X.w X.K X.mg X.base CX k f fd ps sp)(hr:Room (k+1) X.A)(hg:Gl X x)(hm:X.mg x=some (.ref C))(hb:Binds X.K fd ps [])(hx:jjl CX X E)
  (ha:PA X (e::es) t) (hdb:(x == ("__debug__":Str))=false:=by decide) (he:zsE e es X.env:=by rfl) (hpl:zbT pos es X.env:=by rfl) :
  PE X (.Call (.Name x p) (e::es) [] pos) (jH4 C sp E t):=by
 intro U s Z H Q I h;refine wpAny_Call_Name_kw (jjc I hg hm ?_ hdb);exact W.callWith_K (h₀:=X.base) I.ok.mod.kin M.c.kp (thn (ha pos U s Z H _ I h) fun us s1 ⟨vs,H1,I1,r,hz,q⟩=>⟨I1.kIn,jwv M F hr hb hx I1 r hz q⟩) he hpl
inductive tXFld(K:Frag)(ta:TE)(g:Str)(Z:St)(H:Hp)(Q:VK):Prop
 | mk (h:ta Z H fun x H1=>∃ a C dx fr fs v,x=.ref a/\H1 a=some (XO a C (some dx) fr)/\H1 dx=some (XDc dx fs)/\XCls K C/\findIn K (.ref C) g=some none/\fs.lookup g=some v/\Q v H1)
def jDp{g:Str}(he:PE X e ta)(hb:attributeBase e g X.env (eval e X.env)=eval e X.env):PE X (.Attribute e g pos) (tXFld X.K ta g):=by
 intro U s Z H Q I h;refine jtw hb (thn (he U s Z H _ I h.1) fun u s1 hzz=>?_);obtain⟨x,H1,I1,rx,a,C,dx,fr,fs,v,ex,ea,ed,c,n,l,q⟩:=hzz;subst ex;cases rx;exact jEt I1 ea ed c n l fun u' s2 I2 ru=>⟨v,H1,I2,ru,q⟩
inductive XPut(K:Frag)(H:Hp)(a:Addr)(g:Str)(y:V)(Q:Hp->Prop):Prop
 | first (C:Addr) (fr:Bool) (ea:H a=some (XO a C none fr)) (c:XCls K C) (ht:takerIn K C g=some none) (q:∀ d,H d=none->Q (upd (upd H d (XDc d [(g,y)])) a (XO a C (some d) fr)))
 | more (C dx:Addr) (fr:Bool) (fs:List (Str×V)) (ea:H a=some (XO a C (some dx) fr)) (ed:H dx=some (XDc dx fs)) (c:XCls K C) (ht:takerIn K C g=some none) (l:fs.length<1000) (q:Q (upd H dx (XDc dx (putF g y fs))))
def jDx{g:Str}{pos':Pos}(ha:PE X o ta)(hv:PE X value tv)(hs:swapsWith value (some (.Attribute o g pos')) pos.line X.env=pure false) :
  PS X (.Assign [.Attribute o g pos'] value pos) (fun D Z H=>tv Z H fun y H1=>ta Z H1 fun x H2=>∃ a,x=.ref a/\XPut X.K H2 a g y (D.nx Z)):=by
 intro U s Z H D I h;refine plainObj_wpAny_Assign_Attribute (thn (hv U s Z H _ I h) fun u s1 ⟨y,H1,I1,ry,q⟩=>thn (ha U s1 Z H1 _ I1 q) fun ov s2 hzz=>?_) hs;obtain⟨x,H2,I2,rx,a,ex,q2⟩:=hzz;subst ex;cases rx
 cases q2 with
 | first C fr ea c ht q=>exact jz2 I2 ea c ht ry fun d s3 hd I3=>⟨Z,_,I3,q d hd⟩
 | more C dx fr fs ea ed c ht l q=>exact jz3 I2 ea ed c ht l ry fun s3 I3=>⟨Z,_,I3,q⟩
def jt3(hn:specialIn X.K (.builtin "object.__class__") "__get__"=some (some (.builtin "getset_descriptor.__get__")))(htk:takesIn X.K (.builtin "object.__class__")=some true) :
  CallR X (.builtin "isinstance") (fun xs H Q=>∃ a C od fr v c b,xs=[.ref a,v]/\H a=some (XO a C od fr)/\XCls X.K C/\(∀ dx,od=some dx->∃ fs,H dx=some (XDc dx fs))/\(∀ u,RelV v u->u=c)/\W.kitOne X.K (.ref C) c=some b/\Q (.bl b) H):=by
 intro U s Z H xs us Q I r h;obtain⟨a,C,od,fr,v,c,b,rfl,ea,cl,hd,hv,hk,q⟩:=h;obtain⟨u,c',rfl,ru,rc⟩:=r.two;cases ru;rw[hv c' rc];obtain⟨vs,sl,h0,hf0⟩:=jpy I ea;have Jq:∃ ox od',InstAt s.heap a ox C od':=by
  cases od with
  | none=>exact⟨_,_,jq2 h0⟩
  | some dx =>
   obtain⟨fs,ed⟩:=hd dx rfl;obtain⟨mA,⟨o,_,_,e,_⟩,_⟩:=jz1 I ed;exact⟨_,_,joc h0 e⟩
 exact W.kia_one (jAn cl.x cl.ga cl.gh cl.cl hn htk) I.kIn Jq hk (fun z=>nomatch z) fun tk=>⟨.bl b,H,I.tok _,rfl,q⟩
end
end L2
namespace DL
open L2
structure ErrT(K:W.Frag)(mg:qa)(cs fs:List Str)(b:Str):Prop where
 ats:∀ c∈cs,∃ C,mg c=some (.ref C)
 atb:∃ C,mg b=some (.ref C)
 cls:∀ c∈cs,∀ C,mg c=some (.ref C)->XCls K C
 fld:∀ c∈cs,∀ C,mg c=some (.ref C)->∀ f∈fs,W.findIn K (.ref C) f=some none
 pair:∀ c∈cs,∀ d∈cs,∀ C,mg c=some (.ref C)->∃ D,mg d=some (.ref D)/\W.kitOne K (.ref C) (.ref D)=some (c == d)
 base:∀ c∈cs,∀ C,mg c=some (.ref C)->∃ D,mg b=some (.ref D)/\W.kitOne K (.ref C) (.ref D)=some true
 val:∀ c∈cs,∀ C,mg c=some (.ref C)->W.kitOne K (.ref C) (.type "ValueError")=some true
 sp:W.specialIn K (.builtin "object.__class__") "__get__"=some (some (.builtin "getset_descriptor.__get__"))
 tk:W.takesIn K (.builtin "object.__class__")=some true
def xOne(K:W.Frag)(es:List (Str×Addr))(B:Addr)(fs:List Str)(p:Str×Addr):Bool :=
 xCls K p.2&&fs.all (fun f=>W.findIn K (.ref p.2) f == some none)&&W.kitOne K (.ref p.2) (.ref B) == some true&&W.kitOne K (.ref p.2) (.type "ValueError") == some true&&es.all fun q=>W.kitOne K (.ref p.2) (.ref q.2) == some (p.1 == q.1)
def xTab(K:W.Frag)(es:List (Str×Addr))(B:Addr)(fs:List Str):Bool :=
 es.all (xOne K es B fs)&&W.specialIn K (.builtin "object.__class__") "__get__" == some (some (.builtin "getset_descriptor.__get__"))&&W.takesIn K (.builtin "object.__class__") == some true
def jCq{K:W.Frag}{mg:qa}{es:List (Str×Addr)}{B:Addr}{fs:List Str}{b:Str}(hm:∀ p∈es,mg p.1=some (.ref p.2))(hb:mg b=some (.ref B))(h:xTab K es B fs=true):ErrT K mg (es.map (·.1)) fs b:=by
 unfold xTab at h;rw[Bool.and_eq_true,Bool.and_eq_true,List.all_eq_true,beq_iff_eq,beq_iff_eq] at h;obtain⟨⟨h1,h2⟩,h3⟩:=h;have one:∀ c∈es.map (·.1),∀ C,mg c=some (.ref C)->xOne K es B fs (c,C)=true:=fun c hc C hC=>by
  obtain⟨p,hp,rfl⟩:=zcv.mp hc;rw[hm p hp] at hC;cases hC;exact h1 p hp
 have all:∀ c∈es.map (·.1),∀ C,mg c=some (.ref C)->(((xCls K C=true/\fs.all (fun f=>W.findIn K (.ref C) f == some none)=true)/\W.kitOne K (.ref C) (.ref B)=some true)/\W.kitOne K (.ref C) (.type "ValueError")=some true)/\(es.all fun q=>W.kitOne K (.ref C) (.ref q.2) == some (c == q.1))=true:=fun c hc C hC=>by
  have:=one c hc C hC;unfold xOne at this;rw[Bool.and_eq_true,Bool.and_eq_true,Bool.and_eq_true,Bool.and_eq_true,beq_iff_eq,beq_iff_eq] at this;exact this
 refine⟨fun c hc=>by obtain⟨p,hp,rfl⟩:=zcv.mp hc;exact⟨_,hm p hp⟩,⟨B,hb⟩,fun c hc C hC=>jEs (all c hc C hC).1.1.1.1,fun c hc C hC f hf=>?_,fun c hc d hd C hC=>?_,fun c hc C hC=>⟨B,hb,(all c hc C hC).1.1.2⟩,fun c hc C hC=>(all c hc C hC).1.2,h2,h3⟩
 ·exact beq_iff_eq.mp (List.all_eq_true.mp (all c hc C hC).1.1.1.2 f hf)
 ·obtain⟨q,hq,rfl⟩:=zcv.mp hd;exact⟨q.2,hm q hq,beq_iff_eq.mp (List.all_eq_true.mp (all c hc C hC).2 q hq)⟩
def jsy(c:Str)(m:List D->MS D)(ds:List D):MS D:=fun Ω=>((m (.obj Ω.length::ds)).b fun d=>match d with
 | .non=>MS.p (.obj Ω.length)
 | _=>fun _=>none) (Ω++[.exc c (none,true)])
def joz(c:Str)(m:List D->MS D)(fl:DSt->MS (List D)):DSt->MS D:=fun Y=>(fl Y).b fun ds=>jsy c m ds
inductive IniY(P:Program)(w:World)(K:W.Frag)(mg:qa)(base:Heap)(k:Nat)(c:Str)(n:Nat)(sp:Sp):Prop
 | mk (C f:Addr) (fd:FuncData) (ps:List Str) (h1:ps.length=n) (h2:mg c=some (.ref C)) (h3:XMk K C f) (h4:Binds K fd ps []) (h5:FnOk P w K mg base CX0 k f fd ps sp)
structure IniXE(P:Program)(w:World)(K:W.Frag)(mg:qa)(base:Heap)(k:Nat)(c:Str)(n:Nat)(m:List D->MS D):Prop where
 ex:IniY P w K mg base k c n (spE K mg n m)
 ar:∀ ds Ω r,m ds Ω=some r->ds.length=n
 sm:n<=1000
structure IniXAt(K:W.Frag)(mg:qa)(c q:Str)(st:Stmt)(ps:List Str):Prop where
 ex:∃ C f fd,mg c=some (.ref C)/\XMk K C f/\Fun K "__init__" q st f fd/\Binds K fd ps []
section
variable {P:Program}{w:World}{K:W.Frag}{mg:qa}{base:Heap}
def jyh{c q:Str}{st:Stmt}{N ps:List Str}{k:Nat}{O':List Nat}{g:DSt->MS Out}(hf:IniXAt K mg c q st ps)(S:FnScope N ps (jaf st))
  (hbody:∀ (f:Addr) (cdv:Value) (A:Around) (outer:List Env) (s:Shared) (H:Hp) (E:XK),Room k (A.deeper (PyProof.Rows.envOfC q (jaf st) s.heap.objs.size f cdv)) ->
   MSs (cxOf CX0 P w K mg base N q (jaf st) f cdv A outer s H E).nox [] O' [] (ja1 st) g) (hs:ps.length<=1000):IniXE P w K mg base (k+1) c ps.length (mirE ps.length N.length g):=by
 obtain⟨C,f,fd,hm,hM,F,hb⟩:=hf.ex;exact⟨⟨C,f,fd,ps,rfl,hm,hM,hb,fn_E F S hbody⟩,jk0,hs⟩
end
section
variable {X:Cx}{O:List Nat}{e:Expr}{es:List Expr}{fl:DSt->MS (List D)}{pos p:Pos}{x c f:Str}{k n:Nat}
variable {Jz J:Rho}{Sz S F:qd}{Hz H:Hp}{Z:St}{Y:DSt}{Ω Ω':Sto}{d:Str}
def RM.newX{Ca x:Addr}(R:RM Jz Sz Hz F X.K X.mg O J S H Z Y Ω)(hm:X.mg c=some (.ref Ca))(hx:H x=none):RM Jz Sz Hz F X.K X.mg O (addR J Ω.length x) (addS S x x) (upd H x (XO x Ca none true)) Z Y (Ω++[.exc c (none,true)])/\RLe J (addR J Ω.length x) /\
   Same (hid H (fob (un F S) Z O)) (hid (upd H x (XO x Ca none true)) (fob (un F (addS S x x)) Z O)) :=
 R.newS (nso:=.exc c (none,true)) hx fun J' S' Hv' l v=>ExcOk.no true Ca hm jam
def jym{m:List D->MS D}{Ca:Addr}{vs:List V}{ds:List D}{r:Except XD D}{Q:VK}(hm:X.mg c=some (.ref Ca))(ar:∀ ds Ω r,m ds Ω=some r->ds.length=n)(R:RM Jz Sz Hz F X.K X.mg O J S H Z Y Ω)(hr:Reps J X.K (hid H (fob (un F S) Z O)) ds vs)(hf:jsy c m ds Ω=some (r,Ω'))
  (k:match (generalizing:=false) r with
   | .ok d=>∀ v J' S' H',RM Jz Sz Hz F X.K X.mg O J' S' H' Z Y Ω'->RLe J J'->Same (hid H (fob (un F S) Z O)) (hid H' (fob (un F S') Z O))->Rep J' X.K (hid H' (fob (un F S') Z O)) d v->Q v H'
   | .error _=>True):∀ x,H x=none->spE X.K X.mg n m (.ref x::vs) (upd H x (XO x Ca none true)) (fun v H2=>v=.non/\Q (.ref x) H2) E0:=by
 intro x hx;obtain⟨t1,t2,t3⟩:=R.newX hm hx;have hob:Rep (addR J Ω.length x) X.K (hid (upd H x (XO x Ca none true)) (fob (un F (addS S x x)) Z O)) (.obj Ω.length) (.ref x):=rep_obj.mpr ⟨x,by unfold addR;rw[if_pos rfl],rfl⟩;unfold jsy at hf;rcases MS.b_inv hf with ⟨d,Ω1,e1,hf⟩|⟨y,e1,rfl⟩
 ·refine jlh t1 (ar _ _ _ e1) (Reps.cons hob ((hr.rho t2).mono t3)) e1 ?_;intro v ρ2 S2 H2 R2 l2 v2 r2
  cases d with
  | non =>
   cases hf;exact⟨rep_non.mp r2,k (.ref x) ρ2 S2 H2 R2 (t2.trans l2) (t3.trans v2) ((hob.rho l2).mono v2)⟩
  | _=>cases hf
 ·exact jlh t1 (ar _ _ _ e1) (Reps.cons hob ((hr.rho t2).mono t3)) e1 trivial
def jvr{m:List D->MS D}{ds:List D}{r:Except XD D}(ar:∀ ds Ω r,m ds Ω=some r->ds.length=n)(hf:jsy c m ds Ω=some (r,Ω')):ds.length+1=n:=by
 unfold jsy at hf;rcases MS.b_inv hf with ⟨d,Ω1,e1,hf⟩|⟨y,e1,rfl⟩
 ·exact ar _ _ _ e1
 ·exact ar _ _ _ e1
def jyp{m:List D->MS D}(C:IniXE X.prog X.w X.K X.mg X.base k c n m)(hr:Room (k+1) X.A)(ha:MA X O (e::es) fl)(hg:Gl X c:=by rfl)(hdb:(c == ("__debug__":Str))=false:=by decide)(he:zsE e es X.env:=by rfl)
  (hpl:zbT pos es X.env:=by rfl):ME X O (.Call (.Name c p) (e::es) [] pos) (joz c m fl):=by
 obtain⟨Ca,f,fd,ps,hl,hm,hM,hb,G⟩:=C.ex;rintro U s Z H Q I ⟨Jz,Sz,Hz,F,J,S,Y,Ω,R,r,Ω',hf,k⟩;refine jy5 hM G hr hg hm hb (fun _ _ _ _ _ _ _ z=>z.elim) ha hdb he hpl U s Z H Q I (E:=E0) ?_;rcases MS.b_inv hf with ⟨ds,Ω1,e1,hf⟩|⟨y,e1,rfl⟩
 ·refine⟨Jz,Sz,Hz,F,J,S,Y,Ω,R,.ok ds,Ω1,e1,fun vs ρ1 S1 H1 R1 l1 v1 r1=>?_⟩;refine⟨?_,jym hm C.ar R1 r1 hf ?_⟩
  ·have h1:=jvr C.ar hf;have h2:=C.sm;rw[r1.length];omega
  ·cases r with
   | error y=>trivial
   | ok d=>exact fun v ρ2 S2 H2 R2 l2 v2 r2=>k v ρ2 S2 H2 R2 (l1.trans l2) (v1.trans v2) r2
 ·exact⟨Jz,Sz,Hz,F,J,S,Y,Ω,R,.error y,_,e1,trivial⟩
inductive NewAt(K:W.Frag)(mg:qa)(c:Str):Prop
 | mk (C:Addr) (h1:mg c=some (.ref C)) (h2:XCls K C) (h3:xNoI K C=true)
end
end DL
namespace DL
open PyProof.Rows L2
def getX(cs:List Str)(f:Str):D->MS D:=fun x Ω=>match x with
 | .obj i=>match Ω[i]? with
  | some (.exc c (some j,_))=>match Ω[j]? with
   | some (.xd fs)=>if cs.contains c then (fs.lookup f).map fun d=>(.ok d,Ω) else none
   | _=>none
  | _=>none
 | _=>none
def jkw(cs:List Str)(f:Str)(fa:DSt->MS D):DSt->MS D:=fun Y=>(fa Y).b fun x=>getX cs f x
def putX(cs:List Str)(f:Str)(x d:D):MS Unit:=fun Ω=>match x with
 | .obj i=>match Ω[i]? with
  | some (.exc c (none,fr))=>if cs.contains c then some (.ok (),(Ω++[SO.xd [(f,d)]]).set i (.exc c (some Ω.length,fr))) else none
  | some (.exc c (some j,_))=>match Ω[j]? with
   | some (.xd fs)=>if cs.contains c&&decide (fs.length<1000) then some (.ok (),Ω.set j (.xd (putD f d fs))) else none
   | _=>none
  | _=>none
 | _=>none
def jsq(cs:List Str)(f:Str)(fo fv:DSt->MS D):DSt->MS Out:=fun Y=>(fv Y).b fun d=>(fo Y).b fun x=>(putX cs f x d).b fun _=>MS.p (.nx Y)
def isX(cs:List Str)(g:Str->Bool):D->MS D:=fun x Ω=>match x with
 | .obj i=>match Ω[i]? with
  | some (.exc c (none,_))=>if cs.contains c then some (.ok (.bl (g c)),Ω) else none
  | some (.exc c (some j,_))=>match Ω[j]? with
   | some (.xd fs)=>if cs.contains c then some (.ok (.bl (g c)),Ω) else none
   | _=>none
  | _=>none
 | _=>none
def mIsX(cs:List Str)(g:Str->Bool)(fa:DSt->MS D):DSt->MS D:=fun Y=>(fa Y).b fun x=>isX cs g x
section
variable {Ω Ω':Sto}{cs:List Str}{f:Str}{x d:D}
inductive GetXI(cs:List Str)(f:Str)(x:D)(Ω Ω':Sto)(r:Except XD D):Prop
 | mk (i j:Nat) (c:Str) (fr:Bool) (fs:List (Str×D)) (d:D) (h1:x=.obj i) (h2:Ω[i]? = some (.exc c (some j,fr))) (h3:Ω[j]? = some (.xd fs)) (h4:c∈cs) (h5:fs.lookup f=some d) (h6:r=.ok d) (h7:Ω'=Ω)
def jyb{r:Except XD D}(h:getX cs f x Ω=some (r,Ω')):GetXI cs f x Ω Ω' r:=by
 unfold getX at h
 split at h
 ·rename_i i
  split at h
  ·rename_i c j fr hi
   split at h
   ·rename_i fs hj
    split at h
    ·rename_i hc
     cases hl:fs.lookup f with
     | none=>rw[hl] at h;cases h
     | some d=>rw[hl] at h;cases h;exact⟨i,j,c,fr,fs,d,rfl,hi,hj,zbc.mp hc,hl,rfl,rfl⟩
    ·cases h
   ·cases h
  ·cases h
 ·cases h
inductive PutXI(cs:List Str)(f:Str)(x d:D)(Ω Ω':Sto)(r:Except XD Unit):Prop
 | first (i:Nat) (c:Str) (fr:Bool) (h1:x=.obj i) (h2:Ω[i]? = some (.exc c (none,fr))) (h4:c∈cs) (h6:r=.ok ()) (h7:Ω'=(Ω++[SO.xd [(f,d)]]).set i (.exc c (some Ω.length,fr)))
 | more (i j:Nat) (c:Str) (fr:Bool) (fs:List (Str×D)) (h1:x=.obj i) (h2:Ω[i]? = some (.exc c (some j,fr))) (h3:Ω[j]? = some (.xd fs)) (h4:c∈cs) (h5:fs.length<1000) (h6:r=.ok ()) (h7:Ω'=Ω.set j (.xd (putD f d fs)))
def jr7{r:Except XD Unit}(h:putX cs f x d Ω=some (r,Ω')):PutXI cs f x d Ω Ω' r:=by
 unfold putX at h
 split at h
 ·rename_i i
  split at h
  ·rename_i c fr hi
   split at h
   ·rename_i hc;cases h;exact .first i c fr rfl hi (zbc.mp hc) rfl rfl
   ·cases h
  ·rename_i c j fr hi
   split at h
   ·rename_i fs hj
    split at h
    ·rename_i hc;rw[Bool.and_eq_true,decide_eq_true_eq] at hc;cases h;exact .more i j c fr fs rfl hi hj (zbc.mp hc.1) hc.2 rfl rfl
    ·cases h
   ·cases h
  ·cases h
 ·cases h
inductive IsXI(cs:List Str)(g:Str->Bool)(x:D)(Ω Ω':Sto)(r:Except XD D):Prop
 | mk (i:Nat) (c:Str) (oj:Option Nat) (fr:Bool) (h1:x=.obj i) (h2:Ω[i]? = some (.exc c (oj,fr))) (h3:∀ j,oj=some j->∃ fs,Ω[j]? = some (.xd fs)) (h4:c∈cs) (h6:r=.ok (.bl (g c))) (h7:Ω'=Ω)
def jvb{g:Str->Bool}{r:Except XD D}(h:isX cs g x Ω=some (r,Ω')):IsXI cs g x Ω Ω' r:=by
 unfold isX at h
 split at h
 ·rename_i i
  split at h
  ·rename_i c fr hi
   split at h
   ·rename_i hc;cases h;exact⟨i,c,none,fr,rfl,hi,(fun j z=>nomatch z),zbc.mp hc,rfl,rfl⟩
   ·cases h
  ·rename_i c j fr hi
   split at h
   ·rename_i fs hj
    split at h
    ·rename_i hc;cases h;exact⟨i,c,some j,fr,rfl,hi,fun j' z=>by cases z;exact⟨fs,hj⟩,zbc.mp hc,rfl,rfl⟩
    ·cases h
   ·cases h
  ·cases h
 ·cases h
end
def jsf{K:W.Frag}{C:Addr}{f:Str}(h:W.findIn K (.ref C) f=some none):W.takerIn K C f=some none:=by
 unfold W.takerIn;rw[h];rfl
def jBl{a C:Addr}{od:Option Addr}{fr:Bool}:∀ y,HO.own y≠XO a C od fr:=fun y z=>by unfold XO at z;cases z
def jIl{a:Addr}{fs:List (Str×V)}:∀ y,HO.own y≠XDc a fs:=fun y z=>by unfold XDc at z;cases z
section
variable {X:Cx}{O B:List Nat}{o e:Expr}{fa fo fv:DSt->MS D}{fl:DSt->MS (List D)}{pos p p2:Pos}{x c f:Str}{k:Nat}
variable {Jz J:Rho}{Sz S F:qd}{Hz H:Hp}{Z:L2.St}{Y:DSt}{Ω Ω':Sto}{cs fs:List Str}{bn d:Str}
def jqc(T:ErrT X.K X.mg cs fs bn)(hf:fs.contains f=true)(ha:ME X O e fa)(hb:attributeBase e f X.env (eval e X.env)=eval e X.env:=by rfl):ME X O (.Attribute e f pos) (jkw cs f fa):=by
 rintro U s Z H Q I ⟨Jz,Sz,Hz,F,J,S,Y,Ω,R,r,Ω',hg,k⟩;refine jDp ha hb U s Z H Q I ⟨?_⟩;rcases MS.b_inv hg with ⟨x,Ω1,e1,hg⟩|⟨x,e1,rfl⟩
 ·refine⟨Jz,Sz,Hz,F,J,S,Y,Ω,R,.ok x,Ω1,e1,fun u ρ1 S1 H1 R1 l1 v1 r1=>?_⟩;obtain⟨i,j,c,fr,fl,d,rfl,hi,hj,hc,hl,rfl,rfl⟩:=jyb hg;obtain⟨ad,q1,q2⟩:=rep_obj.mp r1;obtain⟨ad',p1,p2,p3⟩:=R1.sto.ats i _ hi;rw[q1] at p1;cases p1
  obtain⟨dx,s1,s2,vfs,s3,s4⟩:=R1.sto.ats j _ hj
  cases p3 with
  | yes fr j C dx' h1 h2 h3 =>
   rw[s1] at h2;cases h2
   obtain⟨w,w1,w2⟩:=s4.get hl;exact⟨ad,C,dx,fr,vfs,w,q2,h3,s3,T.cls c hc C h1,T.fld c hc C h1 f (zbc.mp hf),w1,k w ρ1 S1 H1 R1 l1 v1 w2⟩
 ·exact⟨Jz,Sz,Hz,F,J,S,Y,Ω,R,.error x,_,e1,trivial⟩
def jvx{pos':Pos}(T:ErrT X.K X.mg cs fs bn)(hf:fs.contains f=true)(ho:ME X O o fo)(hv:ME X O e fv)(hs:swapsWith e (some (.Attribute o f pos')) pos.line X.env=pure false:=by rfl):MSt X O O B (.Assign [.Attribute o f pos'] e pos) (jsq cs f fo fv):=by
 rintro U s Z H Dn I ⟨Jz,Sz,Hz,F,J,S,Y,Ω,R,r,Ω',hg,k⟩;refine jDx ho hv hs U s Z H Dn I ?_;rcases MS.b_inv hg with ⟨d,Ω1,e1,hg⟩|⟨x,e1,rfl⟩
 ·refine⟨Jz,Sz,Hz,F,J,S,Y,Ω,R,.ok d,Ω1,e1,fun v ρ1 S1 H1 R1 l1 v1 r1=>?_⟩;rcases MS.b_inv hg with ⟨x,Ω2,e2,hg⟩|⟨x,e2,rfl⟩
  ·refine⟨Jz,Sz,Hz,F,ρ1,S1,Y,Ω1,R1,.ok x,Ω2,e2,fun u ρ2 S2 H2 R2 l2 v2 r2=>?_⟩;have r1':=(r1.rho l2).mono v2;rcases MS.b_inv hg with ⟨z,Ω3,e3,hg⟩|⟨y,e3,rfl⟩
   ·cases hg
    cases jr7 e3 with
    | first i c fr h1 h2 h4 h6 h7 =>
     subst h1 h7;obtain⟨ad,q1,q2⟩:=rep_obj.mp r2;obtain⟨ad',p1,p2,p3⟩:=R2.sto.ats i _ h2;rw[q1] at p1;cases p1
     cases p3 with
     | no fr C g1 g2 =>
      refine⟨ad,q2,.first C fr g2 (T.cls c h4 C g1) (jsf (T.fld c h4 C g1 f (zbc.mp hf))) fun dx hd=>?_⟩;obtain⟨t1,t2,t3⟩:=R2.newS (nso:=.xd [(f,d)]) (no:=XDc dx [(f,v)]) hd fun J' S' Hv' l vv=>⟨[(f,v)],jam,v,[],rfl,(r1'.rho l).mono vv,rfl⟩
      have il:i<Ω2.length:=(zbb.mp h2).1;have hne:ad≠dx:=fun z=>by rw[z,hd] at g2;cases g2
      have q1':=t2 _ _ q1;obtain⟨w1,w2⟩:=t1.putS (so':=.exc c (some Ω2.length,fr)) (o':=XO ad C (some dx) fr) (by rw[List.getElem?_append_left il];exact h2) q1' (addS_t.mpr (.inl p2)) (by rw[jai hne];exact g2) jBl
       (ExcOk.yes fr _ C dx g1 (by unfold addR;rw[if_pos rfl]) jam)
      exact k _ _ Z _ w1 (l1.trans (l2.trans t2)) (by rw[w2];exact v1.trans (v2.trans t3))
    | more i j c fr fl h1 h2 h3 h4 h5 h6 h7 =>
     subst h1 h7;obtain⟨ad,q1,q2⟩:=rep_obj.mp r2;obtain⟨ad',p1,p2,p3⟩:=R2.sto.ats i _ h2;rw[q1] at p1;cases p1
     obtain⟨dx,s1,s2,vfs,s3,s4⟩:=R2.sto.ats j _ h3
     cases p3 with
     | yes fr j C dx' g1 g2 g3 =>
      rw[s1] at g2;cases g2
      refine⟨ad,q2,.more C dx fr vfs g3 s3 (T.cls c h4 C g1) (jsf (T.fld c h4 C g1 f (zbc.mp hf))) (by rw[s4.length];exact h5) ?_⟩;obtain⟨w1,w2⟩:=R2.putS (so':=.xd (putD f d fl)) (o':=XDc dx (putF f v vfs)) h3 s1 s2 s3 jIl ⟨_,jam,s4.put r1'⟩;exact k _ _ Z _ w1 (l1.trans l2) (by rw[w2];exact v1.trans v2)
   ·cases jr7 e3 with
    | first i c fr h1 h2 h4 h6 h7=>cases h6
    | more i j c fr fl h1 h2 h3 h4 h5 h6 h7=>cases h6
  ·exact⟨Jz,Sz,Hz,F,ρ1,S1,Y,Ω1,R1,.error x,_,e2,trivial⟩
 ·exact⟨Jz,Sz,Hz,F,J,S,Y,Ω,R,.error x,_,e1,trivial⟩
def jAq{g:Str->Bool}{nm:Expr}{v:V}{u:Value}(T:ErrT X.K X.mg cs fs bn)(hn:PE X nm (tC v))(hv:∀ w,RelV v w->w=u)(hk:∀ c∈cs,∀ C,X.mg c=some (.ref C)->W.kitOne X.K (.ref C) u=some (g c))(ha:ME X O e fa)(hG:Gl X "isinstance":=by rfl)(hm:X.mg "isinstance"=none)
  (he:starEach (e::[nm]) X.env=(false,eval e X.env)::starEach [nm] X.env:=by rfl) (he2:starEach [nm] X.env=(false,eval nm X.env)::starEach [] X.env:=by rfl) (hpl:(backTo pos (starEach [nm] X.env)).any (·.1)=false:=by rfl) :
  ME X O (.Call (.Name "isinstance" p) [e,nm] [] pos) (mIsX cs g fa):=by
 rintro U s Z H Q I ⟨Jz,Sz,Hz,F,J,S,Y,Ω,R,r,Ω',hg,k⟩;refine jny (jt3 T.sp T.tk) hG hm jc8 (jgc ha (jgc hn jml he2) he) (by decide) (by decide) he hpl U s Z H Q I ?_;rcases MS.b_inv hg with ⟨x,Ω1,e1,hg⟩|⟨x,e1,rfl⟩
 ·refine⟨Jz,Sz,Hz,F,J,S,Y,Ω,R,.ok x,Ω1,e1,fun w ρ1 S1 H1 R1 l1 v1 r1=>?_⟩;obtain⟨i,c,oj,fr,rfl,hi,hj,hc,rfl,rfl⟩:=jvb hg;obtain⟨ad,q1,q2⟩:=rep_obj.mp r1;obtain⟨ad',p1,p2,p3⟩:=R1.sto.ats i _ hi;rw[q1] at p1;cases p1
  subst q2
  cases p3 with
  | no fr C h1 h2=>exact⟨ad,C,none,fr,v,u,g c,rfl,h2,T.cls c hc C h1,(fun dx z=>nomatch z),hv,hk c hc C h1,k _ ρ1 S1 H1 R1 l1 v1 (rep_bl.mpr rfl)⟩
  | yes fr j C dx h1 h2 h3 =>
   obtain⟨fl,hj⟩:=hj j rfl;obtain⟨dx',s1,s2,vfs,s3,s4⟩:=R1.sto.ats j _ hj;rw[h2] at s1;cases s1
   exact⟨ad,C,some dx,fr,v,u,g c,rfl,h3,T.cls c hc C h1,fun dx' z=>by cases z;exact⟨vfs,s3⟩,hv,hk c hc C h1,k _ ρ1 S1 H1 R1 l1 v1 (rep_bl.mpr rfl)⟩
 ·exact⟨Jz,Sz,Hz,F,J,S,Y,Ω,R,.error x,_,e1,trivial⟩
def jGb(T:ErrT X.K X.mg cs fs bn)(hd:cs.contains d=true)(hm:X.mg "isinstance"=none)(ha:ME X O e fa)(hg:Gl X d:=by rfl)(hdb:(d == ("__debug__":Str))=false:=by decide)(hG:Gl X "isinstance":=by rfl)
  (he:starEach (e::[.Name d p2]) X.env=(false,eval e X.env)::starEach [.Name d p2] X.env:=by rfl):ME X O (.Call (.Name "isinstance" p) [e,.Name d p2] [] pos) (mIsX cs (fun c=>c == d) fa):=by
 have hd':=zbc.mp hd;obtain⟨D0,h0⟩:=T.ats d hd';refine jAq (v:=.ref D0) (u:=.ref D0) T (jnz hg h0 rfl hdb) (fun w r=>by cases r;rfl) (fun c hc C hC=>?_) ha hG hm he rfl rfl;obtain⟨D1,h1,h2⟩:=T.pair c hc d hd' C hC;rw[h0] at h1;cases h1
 exact h2
def jmw:bootBuiltins "ValueError"=some (.type "ValueError"):=by decide +kernel
def jGc(T:ErrT X.K X.mg cs fs bn)(hm:X.mg "isinstance"=none)(hvm:X.mg "ValueError"=none)(ha:ME X O e fa)(hg:Gl X "ValueError":=by rfl)(hG:Gl X "isinstance":=by rfl)
  (he:starEach (e::[.Name "ValueError" p2]) X.env=(false,eval e X.env)::starEach [.Name "ValueError" p2] X.env:=by rfl):ME X O (.Call (.Name "isinstance" p) [e,.Name "ValueError" p2] [] pos) (mIsX cs (fun _=>true) fa) :=
 jAq (v:=.ty "ValueError") (u:=.type "ValueError") T (jwf hg hvm jmw rfl) (fun w r=>by cases r;rfl) (fun c hc C hC=>T.val c hc C hC) ha hG hm he rfl rfl
end
def ju6{K:W.Frag}{mg:qa}{h:Heap}{c q:Str}{st:Stmt}{ps:List Str}{C f:Addr}{oc:Value}{od an:Option Addr}{osl:qe}{kV doc pm cdv ct:Value}(X:K.In h)(G:h.Ns mainGlobals mg)
  (hb:∀ (kV doc pm:Value) (an:Option Addr) (cdv ct:Value) (us:List Value),us.length=ps.length->bindArgs (W.fnOf "__init__" q (jbw st) (ja1 st) (jaf st) .none kV doc pm an cdv ct) ⟨us,[]⟩=pure (ps.zip us))
  (a:mg c=some (.ref C)) (xc:XCls K C) (i2:W.findIn K (.ref C) "__init__"=some (some (.ref f))) (i3:W.isFn K (.ref f)=true)
  (l:K.lookup f=some ⟨oc,od,.func (W.fnOf "__init__" q (jbw st) (ja1 st) (jaf st) .none kV doc pm an cdv ct),osl⟩)
  (cd:W.codeIn K cdv q=true) (k:W.keepIn K (.ref f)=true):IniXAt K mg c q st ps:=by
 have F:=jrr (st:=st) l cd k;exact⟨C,f,_,a,⟨xc,i2,i3⟩,F,F.binds hb⟩
end DL
namespace L2
open PyProof.Rows
open PySem.W (Frag InstAt Looks findIn mroIn clsIn)
section
variable {M:Model}{A:Around}{E:qc}{s:Shared}{K:Frag}{C:Addr}{env:Env}
def jEr{x:Sem Value}{Q:Flow->Shared->Prop}(hh:A.handled=none)
  (h:wpAny M A x (fun v s₁=>∃ e C od vs sl,v=.ref e/\K.In s₁.heap/\xIn K C=true/\s₁.heap.get? e=some (xOb C od vs sl)/\vs[1]? = some .none/\E (.ref e) s₁) E s) :
  wpAny M A (raiseStmt env (some x) none) Q E s:=by
 unfold raiseStmt;refine zay (thn h fun v s₁ hzz=>?_);obtain⟨e,C,od,vs,sl,ev,X,hx,he,h1,hE⟩:=hzz;subst ev;obtain⟨bm,N,nm,q,bs,sn,sub,ab,col,dd,k0,k1,k2,k3,k5,cd,hC,T,hk,hm,hd,hN⟩:=x_at X hx;have hcB:(Value.ref C::bm).contains (.type "BaseException")=true:=by rw[List.contains_cons,T.hasType (show bmV.contains (.type "BaseException")=true by decide),Bool.or_true]
 obtain⟨hp,g,d,tk,os⟩:=s₁
 repeat (first|with_reducible refine wpAny_loadPart_at he ?_|with_reducible refine wpAny_loadPart_at hC ?_|(with_reducible refine wpAny_isSubtype_exc hC ?_;rw[hcB])|wp_step)
 rw[h1];exact zab (by rw[if_neg (by decide)];exact zab (wpAny_raiseNew_none hh hE))
abbrev frL(l:List Env):List Addr:=l.filterMap (·.frame)
inductive TbAt(h:Heap)(vs:Array Value):Prop
 | no (h1:vs[1]? = some .none)
 | yes (T:Addr) (oT:Obj) (ts:Array Value) (h1:vs[1]? = some (.ref T)) (h2:h.get? T=some oT) (h3:oT.data=.fields ts) (h4:ts[3]? = some .none)
inductive Note(l:List Env)(e C:Addr)(od:Option Addr)(vs:Array Value)(sl:qe)(h h':Heap):Prop
 | mk (vs':Array Value) (T:Addr) (oT:Obj) (ts:Array Value) (h1:h'.get? e=some (xOb C od vs' sl)) (h2:vs'[1]? = some (.ref T)) (h3:h.get? T=none) (h4:h'.get? T=some oT) (h5:oT.data=.fields ts) (h6:ts[3]? = some .none)
   (h7:∀ b o,h.get? b=some o->b∉frL l->b≠e->vs[1]?≠some (.ref b)->h'.get? b=some o) (h8:∀ b o,h.get? b=some o->b∈frL l->∃ sl',h'.get? b=some { o with slots:=sl' }) (h9:∀ T,vs[1]? = some (.ref T)->∃ oT ts,h'.get? T=some oT/\oT.data=.fields ts/\ts[3]? = some .none)
def jxo{base:Heap}{env:Env}{outer:List Env}{L e:Addr}{od:Option Addr}{vs:Array Value}{sl:qe}{head:Value}{hadNext:Bool}{Q:Unit->Shared->Prop}
  (hfr:A.frames=some (env::outer)) (hl:s.heap.FunFrames base (env::outer)) (hf:env.frame=some L) (he:s.heap.get? e=some (xOb C od vs sl)) (hsz:1<vs.size)
  (h:∀ h' vs' T oT ts,h'.get? e=some (xOb C od vs' sl)->vs'[1]? = some (.ref T)->s.heap.get? T=none->h'.get? T=some oT->oT.data=.fields ts->ts[3]? = some .none->(∀ b o,s.heap.get? b=some o->b∉frL (env::outer)->b≠e->h'.get? b=some o) ->
   (∀ b o,s.heap.get? b=some o->b∈frL (env::outer)->∃ sl',h'.get? b=some { o with slots:=sl' })->Q () { s with heap:=h' }) :
  wpAny M A (do let a <- frameOf env;let pl <- entryPlaceOf L hadNext;let b <- EntryCells.newEntry head a .none (rawInt L) .none pl;setField (.ref e) 1 b) (fun _ s'=>wpAny M A (setFlight (.ref e) none) Q E s') E s:=by
 have nfe:∀ b,b∈frL (env::outer)->b≠e:=fun b hb z=>by
  obtain⟨_,o,ho,hnf⟩:=hl.mem hb;rw[z,he] at ho;cases ho;exact hnf vs rfl
 refine zay (wpAny_frameOf_fun hfr hl hf fun g hs=>zay (wpAny_entryPlaceOf fun pl hpl=>?_));unfold EntryCells.newEntry newFields;refine zay (wpAny_newObj_type ?_ (hpl.sizeOk5 _ _ _ _ _));have e1:g.get? e=some (xOb C od vs sl):=(hs.2.1 e fun hb=>nfe e hb rfl).trans he;generalize hob:({ cls:=.type "traceback",dict:=none,data:=.fields ([head,.ref L,.none,rawInt L,.none]++(if pl.isEmpty then List.replicate 6 Value.none else pl)).toArray }:Obj)=ob;have hdat:ob.data=.fields ([head,.ref L,.none,rawInt L,.none]++(if pl.isEmpty then List.replicate 6 Value.none else pl)).toArray:=by rw[<- hob]
 have hsz3:3<([head,.ref L,.none,rawInt L,.none]++(if pl.isEmpty then List.replicate 6 Value.none else pl)).toArray.size:=by
  rw[zbx,zcc];show 3<5+_;omega
 generalize ([head,.ref L,.none,rawInt L,.none]++(if pl.isEmpty then List.replicate 6 Value.none else pl)).toArray=ts at hdat hsz3;have e2:=zaz ob e1;refine wpAny_setField e2 rfl hsz ?_;have ne:g.objs.size≠e:=Nat.ne_of_gt (zbv e1);have e3:((g.push ob).update e (Obj.mapFields (·.setIfInBounds 1 (Value.ref g.objs.size)))).get? e=some (xOb C od (vs.setIfInBounds 1 (.ref g.objs.size)) sl):=Heap.get?_update_self _ e2 rfl;have t3:((g.push ob).update e (Obj.mapFields (·.setIfInBounds 1 (Value.ref g.objs.size)))).get? g.objs.size=some ob:=by
  rw[Heap.get?_update_other _ _ (Ne.symm ne)];exact zbz _ (Obj.isFreed_of_fields hdat)
 have v1:(vs.setIfInBounds 1 (Value.ref g.objs.size))[1]? = some (.ref g.objs.size):=by simp[hsz]
 unfold setFlight;refine zay (wpAny_field e3 rfl v1 ?_);rw[if_pos (show (Value.ref g.objs.size != Value.none)=true from by simp)];refine wpAny_setField t3 hdat hsz3 ?_;have dT:=Obj.data_mapFields hdat (·.setIfInBounds 3 ((none:Option Addr).elim Value.none fun f=>rawInt f));have t4:=Heap.get?_update_self (Obj.mapFields (·.setIfInBounds 3 ((none:Option Addr).elim Value.none fun f=>rawInt f))) t3 (Obj.isFreed_of_fields dT);have fresh:s.heap.get? g.objs.size=none:=Heap.get?_none_of_le (by rw[hs.1];exact zac _);have keep:∀ b o,b≠e->g.get? b=some o->(((g.push ob).update e (Obj.mapFields (·.setIfInBounds 1 (Value.ref g.objs.size)))).update g.objs.size (Obj.mapFields (·.setIfInBounds 3 ((none:Option Addr).elim Value.none fun f=>rawInt f)))).get? b=some o:=fun b o hb q=>by
  rw[Heap.get?_update_other _ _ (Nat.ne_of_gt (zbv q)),Heap.get?_update_other _ _ (Ne.symm hb)];exact zaz _ q
 refine h _ _ g.objs.size _ _ ?_ v1 fresh t4 dT (by simp[hsz3]) (fun b o q hb hbe=>keep b o hbe ((hs.2.1 b hb).trans q)) fun b o q hb=>?_
 ·rw[Heap.get?_update_other _ _ ne];exact e3
 ·obtain⟨sl',q'⟩:=hs.2.2 b o q;exact⟨sl',keep b _ (nfe b hb) q'⟩
def jEp{base:Heap}{env:Env}{outer:List Env}{L e:Addr}{od:Option Addr}{vs:Array Value}{sl:qe}{Q:Unit->Shared->Prop}
  (hfr:A.frames=some (env::outer)) (hl:s.heap.FunFrames base (env::outer)) (hf:env.frame=some L) (he:s.heap.get? e=some (xOb C od vs sl)) (tb:TbAt s.heap vs) (hne:vs[1]?≠some (.ref e))
  (h:∀ h',Note (env::outer) e C od vs sl s.heap h'->Q () { s with heap:=h' }):wpAny M A (noteFrame (.ref e) env) (fun _ s'=>wpAny M A (setFlight (.ref e) none) Q E s') E s:=by
 unfold noteFrame;simp only[hf]
 cases tb with
 | no h1 =>
  refine zay (wpAny_field he rfl h1 ?_);rw[if_neg (by decide)];refine jxo hfr hl hf he (Array.getElem?_eq_some_iff.mp h1).1 fun h' vs' T oT ts a1 a2 a3 a4 a5 a6 a7 a8=>h h' ⟨vs',T,oT,ts,a1,a2,a3,a4,a5,a6,fun b o q hb hbe _=>a7 b o q hb hbe,a8,fun T z=>by rw[h1] at z;cases z⟩
 | yes T oT ts h1 h2 h3 h4 =>
  have hTe:T≠e:=fun z=>hne (by rw[h1,z])
  have nT:T∉frL (env::outer):=fun hb=>by
   obtain⟨_,o,ho,hnf⟩:=hl.mem hb;rw[h2] at ho;cases ho;exact hnf ts h3
  refine zay (wpAny_field he rfl h1 ?_);rw[if_pos (show (Value.ref T != Value.none)=true from by simp)];refine zay (wpAny_field h2 h3 h4 ?_);rw[if_neg (show ¬ ((Value.none == rawInt L)=true) from by simp[rawInt])];refine zay (wpAny_setField h2 h3 (Array.getElem?_eq_some_iff.mp h4).1 ?_);have other:∀ b,b≠T->(s.heap.update T (Obj.mapFields (·.setIfInBounds 3 Value.none))).get? b=s.heap.get? b:=fun b hb=>Heap.get?_update_other _ _ (Ne.symm hb)
  refine jxo (s:={ s with heap:=s.heap.update T (Obj.mapFields (·.setIfInBounds 3 Value.none)) }) hfr (hl.of_keeps fun b o q nf=>⟨o,(other b fun z=>nf ts (by rw[z,h2] at q;cases q;exact h3)).trans q,rfl⟩) hf ((other e (Ne.symm hTe)).trans he) (Array.getElem?_eq_some_iff.mp h1).1
   fun h' vs' T' oT' ts' a1 a2 a3 a4 a5 a6 a7 a8=>h h' ⟨vs',T',oT',ts',a1,a2,?_,a4,a5,a6,fun b o q hb hbe hbT=>a7 b o ((other b fun z=>hbT (by rw[z];exact h1)).trans q) hb hbe,fun b o q hb=>a8 b o ((other b fun z=>nT (by rw[<- z];exact hb)).trans q) hb,fun T2 z=>?_⟩
  rotate_left
  ·rw[h1] at z;cases z;exact⟨_,_,a7 T _ (Heap.get?_update_self _ h2 (Obj.isFreed_of_fields (Obj.data_mapFields h3 _))) nT hTe,Obj.data_mapFields h3 _,by simp[(Array.getElem?_eq_some_iff.mp h4).1]⟩
  by_cases z:T'=T
  ·subst z;exact absurd a3 (by rw[Heap.get?_update_self _ h2 (Obj.isFreed_of_fields (Obj.data_mapFields h3 _))];exact fun z=>nomatch z)
  ·exact (other T' z).symm.trans a3
end
end L2
namespace L2
open PyProof.Rows
open PySem.W (Frag InstAt Looks findIn mroIn clsIn)
def XT(T:Addr):HO:=.ext fun h=>∃ oT ts,h.get? T=some oT/\oT.data=.fields ts/\ts[3]? = some .none
inductive Fly(H:Hp)(a C:Addr)(od:Option Addr)(s:Shared):Prop
 | mk (e1:H a=some (XO a C od false)) (vs:Array Value) (sl:qe) (e2:s.heap.get? a=some (xOb C od vs sl)) (tb:TbAt s.heap vs) (ne:vs[1]?≠some (.ref a)) (tr:∀ T,vs[1]? = some (.ref T)->H T=some (XT T))
def jxp{P:Program}{w:World}{H:Hp}{h:Heap}{T:Addr}{oT:Obj}{ts:Array Value}(h1:h.get? T=some oT)(h2:oT.data=.fields ts)(h3:ts[3]? = some .none):ObjOk P w H h T (XT T) :=
 jp3 ⟨oT,ts,h1,h2,h3⟩ ⟨_,h1⟩ fun _ _ ⟨oT,ts,h1,h2,h3⟩ k=>⟨oT,ts,k _ h1,h2,h3⟩
section
variable {X:Cx}{U:qb}{Z:St}{H:Hp}{s:Shared}{a C:Addr}{od:Option Addr}
def jGp{A':Around}{E':qc}{Q:Unit->Shared->Prop}(I:Inv X U Z H s)(F:Fly H a C od s)(hst:X.stack=X.env::X.outer)(hf:X.env.frame=some X.env.locals)(hA:A'.frames=some X.stack)
  (k:∀ T h',H T=none->Inv X U Z (upd H T (XT T)) { s with heap:=h' }->Fly (upd H T (XT T)) a C od { s with heap:=h' }->Q () { s with heap:=h' }) :
  wpAny (model X.prog X.w) A' (noteFrame (.ref a) X.env) (fun _ s'=>wpAny (model X.prog X.w) A' (setFlight (.ref a) none) Q E' s') E' s:=by
 obtain⟨e1,vs,sl,e2,tb,ne,tr⟩:=F;refine jEp (base:=X.base) (by rw[hA,hst]) (by rw[<- hst];exact I.stack) hf e2 tb ne fun h' N=>?_
 obtain⟨vs',T,oT,ts,n1,n2,n3,n4,n5,n6,n7,n8,n9⟩:=N;have hT:H T=none:=jm9 (h:=s.heap) I n3;have nfr:∀ b∈frL (X.env::X.outer),H b=none:=fun b hb=>I.stkFree b (by rw[hst];exact hb)
 have na:∀ b,H b=none->b≠a:=fun b q z=>by rw[z,e1] at q;cases q
 have nTb:∀ b,H b=none->vs[1]?≠some (.ref b):=fun b q z=>by rw[tr b z] at q;cases q
 have nT:∀ b u,s.heap.get? b=some u->b≠T:=fun b u q z=>by rw[z,n3] at q;cases q
 have nT':∀ b u,H b=some u->b≠T:=fun b u q z=>by rw[z,hT] at q;cases q
 have there:∀ b o,s.heap.get? b=some o->∃ o',h'.get? b=some o':=fun b o q=>by
  by_cases z2:b=a
  ·rw[z2];exact⟨_,n1⟩
  ·by_cases z3:vs[1]? = some (.ref b)
   ·obtain⟨oT,ts,q',_⟩:=n9 b z3;exact⟨oT,q'⟩
   ·by_cases z4:b∈frL (X.env::X.outer)
    ·obtain⟨sl',q'⟩:=n8 b o q z4;exact⟨_,q'⟩
    ·exact⟨o,n7 b o q z4 z2 z3⟩
 have hok:HOk X.prog X.w (upd H T (XT T)) h':=fun b u e=>by
  by_cases z:b=T
  ·subst z;rw[jam] at e;cases e;exact jxp n4 n5 n6
  ·rw[jai z] at e
   by_cases z2:b=a
   ·subst z2;rw[e1] at e;cases e;exact jsh n1 fun z=>nomatch z
   ·by_cases z3:vs[1]? = some (.ref b)
    ·rw[tr b z3] at e;cases e;obtain⟨oT,ts,q1,q2,q3⟩:=n9 b z3;exact jxp q1 q2 q3
    ·refine (I.hok b u e).stay (fun c v hc q=>?_) (fun c q=>by rw[jai (nT' c _ q)];exact q) fun c xs q=>by rw[jai (nT' c _ q)];exact q
     have hcn:H c≠none:=by
      rcases hc with r|r
      ·rw[r,e];exact fun z=>nomatch z
      ·rw[r];exact fun z=>nomatch z
     refine n7 c v q (fun z=>hcn (nfr c z)) (fun z=>?_) fun z=>?_
     ·rcases hc with r|r
      ·exact z2 (r.symm.trans z)
      ·rw[z,e1] at r;exact absurd (zby r) (fun z=>by unfold XO at z;cases z)
     ·rcases hc with r|r
      ·exact z3 (by rw[<- r];exact z)
      ·rw[tr c z] at r;exact absurd (zby r) (fun z=>by unfold XT at z;cases z)
 have Jq:Inv X U Z (upd H T (XT T)) { s with heap:=h' }:=I.call (g':=s.gens) (t':=s.toks) (d':=s.drawn) (ch:=[]) ⟨fun b o q n hb _=>n7 b o q (by rw[hst] at hb;exact hb) (na b n) (nTb b n),fun b o q n hb _=>n8 b o q (by rw[hst] at hb;exact hb),
  fun b o q n _=>by rw[jai (nT b o q)];exact n,fun b o q _=>there b o q,fun b xs q=>by rw[jai (nT' b _ q)];exact q,fun b u xs q=>by rw[jai (nT' b _ q)];exact q,fun b ps q=>⟨#[],by rw[jai (nT' b _ q),q];simp⟩⟩ hok I.bare (fun b z=>nomatch z)
 refine k T h' hT Jq ⟨by rw[jai (nT' a _ e1)];exact e1,vs',sl,n1,.yes T oT ts n2 n4 n5 n6,fun z=>?_,fun T2 z=>?_⟩
 ·rw[n2] at z;cases z;exact nT' _ _ e1 rfl
 ·rw[n2] at z;cases z;exact jam
inductive CXr(P:Program)(w:World)(outer:List Env)(H:Hp)(s:Shared)(E:XK)(e:Value)(s':Shared):Prop
 | mk (a C:Addr) (od:Option Addr) (H1 H':Hp) (h1:e=.ref a) (h2:s'.os=s.os) (h3:AllBare s'.gens) (h4:Un (frs outer) [] H H' s.heap s'.heap) (h5:HOk P w H' s'.heap) (h6:Fly H' a C od s') (h7:∀ b o,H1 b=some o->H' b=some o) (h8:E (.ref a) od H1)
def CX1(P:Program)(w:World):CXT:=fun outer H s E e s'=>CXr P w outer H s E e s'
inductive Back(X:Cx)(U:qb)(Z:St)(E:XK)(e:Value)(s:Shared):Prop
 | mk (a C:Addr) (od:Option Addr) (H1 H:Hp) (h1:e=.ref a) (I:Inv X U Z H s) (F:Fly H a C od s) (h7:∀ b o,H1 b=some o->H b=some o) (h8:E (.ref a) od H1)
def jBu{E:XK}{e:Value}{s':Shared}(I:Inv X U Z H s)(h:CX1 X.prog X.w X.stack H s E e s'):Back X U Z E e s':=by
 obtain⟨a,C,od,H1,H',h1,h2,h3,h4,h5,h6,h7,h8⟩:=h;exact⟨a,C,od,H1,H',h1,I.call' h2 h4 h5 h3 (fun b z=>nomatch z),h6,h7,h8⟩
def jF7{P:Program}{w:World}{K:Frag}{mg:qa}{base:Heap}{N:List Str}{qual:Str}{scope:Scope}{f:Addr}{cd:Value}{A:Around}{outer:List Env}{s:Shared}{H:Hp}{E:XK}{e:Value}{s2:Shared}
  (B:Back (cxOf (CX1 P w) P w K mg base N qual scope f cd A outer s H E) U Z E e s2):(cxOf (CX1 P w) P w K mg base N qual scope f cd A outer s H E).xe e s2:=by
 obtain⟨a,C,od,H1,H2,rfl,I,F,h7,h8⟩:=B;show wpAny _ _ (leaving _ (.ref a)) _ _ s2;unfold leaving;refine zay (jGp (X:=cxOf (CX1 P w) P w K mg base N qual scope f cd A outer s H E) I F rfl rfl I.ok.frames fun T h' hT Jq F'=>?_);exact⟨a,C,od,H1,_,rfl,Jq.os,Jq.bare,Jq.base,Jq.hok,F',fun b o q=>by rw[jai (fun z=>by rw[z,] at q;rw[h7 _ _ q] at hT;cases hT)];exact h7 b o q,h8⟩
def jzc{e:Expr}{te:TE}{pos:Pos}(he:PE X e te)(hc:X.calm=true):PS X (.Raise (some e) none pos) (fun D Z H=>te Z H fun v H1=>∃ a C od,v=.ref a/\H1 a=some (XO a C od true)/\XCls X.K C/\∀ U s,Inv X U Z (upd H1 a (XO a C od false)) s->Fly (upd H1 a (XO a C od false)) a C od s->X.xe (.ref a) s):=by
 intro U s Z H D I h;show wpAny _ _ (do standAt pos;raiseStmt X.env (some (do let v <- eval e X.env;standAt pos;pure v)) none) _ _ s;refine zay (wpAny_standAt (jEr (K:=X.K) (I.ok.hd hc) (zay (thn (he U s Z H _ I h) fun u s1 ⟨v,H1,I1,rv,a,C,od,ev,ha,cl,k⟩=>zay (wpAny_standAt (zab ?_))))));subst ev;cases rv;obtain⟨vs,sl,h0,hf0⟩:=jpy I1 ha;have h1:=hf0 rfl;refine⟨a,C,od,vs,sl,rfl,I1.kIn,cl.x,h0,h1,?_⟩;have Jq:Inv X U Z (upd H1 a (XO a C od false)) { s1 with heap:=s1.heap,toks:=s1.toks }:=I1.write (x:=a) (e:=a) (by rw[ha];exact True.intro) (.inl rfl) (fun b u _ q=>q) ⟨_,h0⟩ (jsh h0 fun z=>nomatch z);exact k U s1 Jq ⟨jam,vs,sl,h0,.no h1,fun z=>by rw[h1] at z;(cases z),fun T z=>by rw[h1] at z;cases z⟩
end
end L2
namespace L2
open PyProof.Rows
open PySem.W (Frag InstAt Looks findIn mroIn clsIn)
section
variable {X:Cx}{U:qb}{Z:St}{H:Hp}{s:Shared}{a C:Addr}{od:Option Addr}
abbrev Cx.mk1(X:Cx)(v:Value)(E:qc):Cx:={ X with A:=X.A.mark (some v),calm:=false,xe:=E }
def Inv.mk1(I:Inv X U Z H s)(v:Value)(E:qc):Inv (X.mk1 v E) U Z H s :=
 ⟨⟨I.ok.mod,I.ok.kind,I.ok.glob,I.ok.blt,I.ok.above,I.ok.inj,I.ok.has,I.ok.cab,(fun z=>nomatch z),I.ok.frames,I.ok.stk,I.ok.exf,I.ok.bs,I.ok.bsz,I.ok.noex,I.ok.exfs,I.ok.funs,I.ok.frf⟩,I.os,I.bare,I.base,I.loc,I.cell,I.free,I.freeC,I.pin,I.hok,I.len⟩
def Inv.un1{v:Value}{E:qc}{Z':St}{H':Hp}{s':Shared}(I:Inv X U Z H s)(Jq:Inv (X.mk1 v E) U Z' H' s'):Inv X U Z' H' s' :=
 ⟨I.ok,Jq.os,Jq.bare,Jq.base,Jq.loc,Jq.cell,Jq.free,Jq.freeC,Jq.pin,Jq.hok,Jq.len⟩
def jxl{M:Model}{A:Around}{E:qc}{i:Nat}{x:Str}{v:V}{pos:Pos}{Q:Unit->Shared->Prop}(I:Inv X U Z H s)(hN:X.N.Nodup)(hi:X.N[i]? = some x)(hk:X.env.scope.names.lookup x=some .local)(hv:Z[i]? = some (some v))
  (h:∀ s',Inv X U (Z.set i none) H s'->Q () s'):wpAny M A (unbindBehindTheSuite X.env x pos) Q E s:=by
 obtain⟨m,hn,hl⟩:=id I.loc;have hcls:(X.env.scope.kind == .class || (X.env.scope.kind == .module&&X.env.locals != X.env.globals))=false:=by rw[I.ok.kind];rfl
 have cne:=I.cne;obtain⟨u,ru,lk⟩:=hl i x v hi hv (.inl hk);have hu:m x=some u:=by
  rcases lk with ⟨_,e⟩|⟨k,_⟩
  ·exact e
  ·have hk':X.env.kindOf x=some .local:=hk;rcases k with k|k
   ·rw[hk'] at k;cases k
   ·rw[hk'] at k;cases k
 unfold unbindBehindTheSuite;refine wpAny_onRaise (wpAny_unbindName_local hk hn hu hcls fun h' u' hn' hs=>?_);obtain⟨oL,_,_,hoL,_⟩:=id hn;have low:∀ {b:Addr} {o:Obj},X.s₀.heap.get? b=some o->b≠X.env.locals:=fun e=>zcw (zcx (zbv e) I.ok.above)
 refine h _ ⟨I.ok,I.os,I.bare,⟨fun b o e n hb hx=>(hs.2 b (low e)).trans (I.base.keep b o e n hb hx),fun b o e n hb hx=>?_,I.base.free,fun b o e hx=>?_,I.base.tups,I.base.frzs,I.base.tbls⟩,⟨_,hn',fun j y v' e1 e2 e3=>?_⟩,fun y c e=>?_,I.free,I.freeC,fun p hp=>?_,fun b ob e=>?_,by simpa using I.len⟩
 ·obtain⟨sl,e1⟩:=I.base.slot b o e n hb hx;exact⟨sl,(hs.2 b (low e)).trans e1⟩
 ·obtain⟨o',e1⟩:=I.base.there b o e hx;exact⟨o',(hs.2 b (low e)).trans e1⟩
 ·have hj:j≠i:=fun z=>by
   rw[z,zcz (zbb.mp hv).1] at e2;cases e2
  rw[zbw (Ne.symm hj)] at e2;obtain⟨w,r',q⟩:=hl j y v' e1 e2 e3;refine⟨w,r',?_⟩;rcases q with ⟨k,e⟩|⟨k,c,e,z⟩
  ·refine .inl ⟨k,?_⟩;have:y≠x:=fun e=>hj (jnu hN e1 (e ▸ hi))
   simp[this,e]
  ·exact .inr ⟨k,c,e,z.sameBut hs (cne y c e)⟩
 ·obtain⟨w,z⟩:=I.cell y c e;exact⟨w,z.sameBut hs (cne y c e)⟩
 ·obtain⟨e,n,ne,nf,d⟩:=I.pin p hp;exact⟨(hs.2 p.1 ne).trans e,n,ne,nf,d⟩
 ·refine (I.hok b ob e).stay (fun c w hc q=>(hs.2 c ?_).trans q) (fun _ q=>q) fun _ _ q=>q
  rintro rfl;rcases hc with z|hc
  ·rw[<- z,I.free] at e;cases e
  ·rw[I.free] at hc;cases hc
def jJc{A':Around}{E':qc}{Q:Unit->Shared->Prop}(I:Inv X U Z H s)(F:Fly H a C od s)(k:∀ s',Inv X U Z H s'->Q () s'):wpAny (model X.prog X.w) A' (setFlight (.ref a) none) Q E' s:=by
 obtain⟨e1,vs,sl,e2,tb,ne,tr⟩:=F;unfold setFlight
 cases tb with
 | no h1 =>
  refine zay (wpAny_field e2 rfl h1 ?_);rw[if_neg (by decide)];exact zab (k s I)
 | yes T oT ts h1 h2 h3 h4 =>
  refine zay (wpAny_field e2 rfl h1 ?_);rw[if_pos (show (Value.ref T != Value.none)=true from by simp)];have hs:=(Array.getElem?_eq_some_iff.mp h4).1;refine wpAny_setField h2 h3 hs (k _ ?_);have dT:=Obj.data_mapFields h3 (·.setIfInBounds 3 ((none:Option Addr).elim Value.none fun f=>rawInt f));have q:=Heap.get?_update_self (Obj.mapFields (·.setIfInBounds 3 ((none:Option Addr).elim Value.none fun f=>rawInt f))) h2 (Obj.isFreed_of_fields dT);have hT:=tr T h1;have Jq:Inv X U Z (upd H T (XT T)) { s with heap:=s.heap.update T (Obj.mapFields (·.setIfInBounds 3 ((none:Option Addr).elim Value.none fun f=>rawInt f))),toks:=s.toks } :=
   I.write (x:=T) (e:=T) (by rw[hT];exact True.intro) (.inl rfl) (fun b u hb z=>(Heap.get?_update_other _ _ (Ne.symm hb)).trans z) ⟨_,q⟩ (jxp q dT (by simp[hs]))
  have eH:upd H T (XT T)=H:=by
   funext b
   by_cases z:b=T
   ·rw[z,jam,hT]
   ·rw[jai z]
  rw[eH] at Jq;exact Jq
def jCu{B n y:Str}{Bc:Addr}{j l:Nat}{np hpos py pn ypos:Pos}{Q:Flow->Shared->Prop}{E':qc}(I:Inv X U Z H s)(F:Fly H a C od s)(hex:W.exmOne X.K (.ref C) (.ref Bc)=some true)(hg:Gl X B)(hm:X.mg B=some (.ref Bc))(hdb:(B == ("__debug__":Str))=false)
  (hN:X.N.Nodup) (hj:X.N[j]? = some n) (hn:X.env.scope.names.lookup n=some .local) (hl:X.N[l]? = some y) (hy:X.env.scope.names.lookup y=some .local) (hjl:j≠l)
  (hnd:(n == ("__debug__":Str))=false) (hncd:(n == ("__classdict__":Str))=false) (hs:swapsWith (.Name n pn) (some (.Name y py)) ypos.line X.env=pure false)
  (k:∀ s',Inv X U (((Z.set j (some (.ref a))).set l (some (.ref a))).set j none) H s'->Q .next s') :
  wpAny (model X.prog X.w) X.A (handleBy (.ref a) X.env [.ExceptHandler (some (.Name B np)) (some n) [.Assign [.Name y py] (.Name n pn) ypos] hpos]) Q E' s:=by
 have e2:∃ vs sl,s.heap.get? a=some (xOb C od vs sl):=by obtain⟨_,vs,sl,e2,_⟩:=F;exact⟨vs,sl,e2⟩
 obtain⟨vs,sl,e2⟩:=e2;have jl:j<Z.length:=by rw[I.len];exact (zbb.mp hj).1
 have I':=I.mk1 (.ref a) fun _ _=>False
 have LT:Looks (model X.prog X.w) s.heap (typeOf (.ref a)) (.ref C):=by
  intro A' Q' E' s' k z;unfold typeOf;exact zay (wpAny_loadPart (k _ _ e2) (zab z))
 refine wpAny_handleBy_cons (codeAny_handlers_test (jjc (X:=X.mk1 (.ref a) fun _ _=>False) I' hg hm ?_ hdb)) (by intro q;cases q);refine (W.exm_one I.kIn LT hex).here ?_;show codeAny _ _ (.handlers (.ref a) [.ExceptHandler none (some n) [.Assign [.Name y py] (.Name n pn) ypos] hpos] X.env) _ s;refine codeAny_handlers_suite_as (jJc (X:=X.mk1 (.ref a) fun _ _=>False) I' F fun s1 I1=>?_);refine ji0 (X:=X.mk1 (.ref a) fun _ _=>False) I1 hN hj (.inl hn) (v:=.ref a) rfl (fun s2 I2=>?_) (.inr hn);have hv:(Z.set j (some (V.ref a)))[j]? = some (some (.ref a)):=zcz jl;have PSx:=jn2 (jpg (X:=X.mk1 (.ref a) fun _ _=>False) (pos:=ypos) (pos':=py) hN hl (.inl hy) (jmm (pos:=pn) hj (.inl hn) hnd hncd) hs (.inr hy));refine wpAny_mono (PSx U s2 _ H ⟨fun Z' H'=>Z'=(Z.set j (some (.ref a))).set l (some (.ref a))/\H'=H,fun _ _=>False,fun _ _=>False,fun _ _=>False⟩ I2 ⟨_,hv,rfl,rfl⟩) (fun f s3 q=>?_) fun _ _ z=>z.elim
 cases f with
 | brk=>obtain⟨_,_,_,z⟩:=q;exact z.elim
 | cont=>obtain⟨_,_,_,z⟩:=q;exact z.elim
 | ret u=>obtain⟨_,_,_,_,_,z⟩:=q;exact z.elim
 | next =>
  obtain⟨Z3,H3,I3,rfl,rfl⟩:=q;show wpAny _ X.A (do bindName X.env n .none;unbindBehindTheSuite X.env n hpos) (fun _ s₃=>Q .next s₃) E' s3;refine zay (wpAny_bindName (ji0 (I.un1 I3) hN hj (.inl hn) (v:=.non) rfl (fun s4 I4=>?_) (.inr hn)));refine jxl I4 hN hj hn (zcz (by simpa using jl)) fun s5 I5=>k s5 ?_
  rw[List.set_set] at I5;exact I5
end
end L2
namespace L2
open PyProof.Rows
open PySem.W (Frag InstAt Looks findIn mroIn clsIn)
def EX(Er:Addr->Addr->Option Addr->Hp->Prop):XK:=fun v od H=>∃ a C,v=.ref a/\H a=some (XO a C od false)/\Er a C od H
def jBk{X:Cx}{U:qb}{Z:St}{H:Hp}{s:Shared}{a C C':Addr}{od od':Option Addr}{f f':Bool}(I:Inv X U Z H s)(h:H a=some (XO a C od f))(h':H a=some (XO a C' od' f')):C=C':=by
 obtain⟨vs,sl,e,_⟩:=jpy I h;obtain⟨vs',sl',e',_⟩:=jpy I h';rw[e] at e';have:=congrArg Obj.cls (zby e');exact Value.ref.inj this
section
variable {X:Cx}{CX:CXT}{k:Nat}{f C:Addr}{fd:FuncData}{ps:List Str}{sp:Sp}{E:XK}{m:Str}{e o:Expr}{ta:TE}{t:TA}
def jHh{U:qb}{Z:St}{H:Hp}{s:Shared}{Q:VK}{us:List Value}{vs:List V}(F:FnOk X.prog X.w X.K X.mg X.base CX k f fd ps sp)(hr:Room k X.A)(hb:Binds X.K fd ps [])(hx:∀ H1 s1 e s',Inv X U Z H1 s1->CX X.stack H1 s1 E e s'->X.xe e s')
  (I:Inv X U Z H s) (r:Vals vs us) (h:sp vs H Q E):wpAny (model X.prog X.w) X.A (call (.ref f) us) (EP X U Z Q) X.xe s:=by
 have hl:(us++[]).length=ps.length:=by rw[List.append_nil,<- r.length];exact F.len _ _ _ _ h
 refine wpAny_call (codeAny_mono (F.run X.A X.stack s H ⟨us,[]⟩ (us++[]) vs Q E hr I.env0 (hb s us I.kIn hl) (by rw[List.append_nil];exact r) h) fun r s' hq=>?_)
 cases r with
 | error e=>exact hx H s e s' I hq
 | ok fl =>
  cases fl with
  | ret u=>exact I.after hq
  | next=>exact False.elim hq
  | brk=>exact False.elim hq
  | cont=>exact False.elim hq
inductive tTryM(K:Frag)(C:Addr)(m:Str)(sp:Sp)(ta:TE)(t:TA)(Bc:Addr)(i j l:Nat)(D:Ends)(Z:St)(H:Hp):Prop
 | mk (Er:Addr->Addr->Option Addr->Hp->Prop) (h1:jEh C m sp [] (EX Er) ta t Z H fun v H1=>D.nx (Z.set i (some v)) H1)
  (h2:∀ a C' od H1,H1 a=some (XO a C' od false)->Er a C' od H1->(∃ C2 od2,H1 a=some (XO a C2 od2 false)/\W.exmOne K (.ref C2) (.ref Bc)=some true)/\∀ H2,(∀ b o,H1 b=some o->H2 b=some o)->D.nx (((Z.set j (some (.ref a))).set l (some (.ref a))).set j none) H2)
end
end L2
namespace DL
open L2
def xdO(i:Nat):XD:=⟨"",[("",.obj i)]⟩
def errI(x:XD):Option Nat:=match x.fs with
 | [(_,.obj i)]=>some i
 | _=>none
def ErrK(K:W.Frag)(mg:qa)(Jz:Rho)(Sz:qd)(Hz:Hp)(F:qd)(Ω':Sto)(x:XD)(E:XK):Prop :=
 ∀ i a C od J' S' H',errI x=some i->RT Jz Sz Hz F K mg J' S' H' Ω'->J' i=some a->H' a=some (XO a C od false)->E (.ref a) od H'
def OkR(K:W.Frag)(mg:qa)(O' B:List Nat)(Jz:Rho)(Sz:qd)(Hz:Hp)(F:qd)(J:Rho)(Hv:Hp)(Dn:Ends)(E:XK)(r:Except XD Out)(Ω':Sto):Prop:=match r with
 | .ok o=>OkE K mg O' B Jz Sz Hz F J Hv Dn (.ok o) Ω'
 | .error x=>ErrK K mg Jz Sz Hz F Ω' x E
theorem OkR.back{K:W.Frag}{mg:qa}{O' B:List Nat}{Jz J J':Rho}{Sz:qd}{Hz:Hp}{F:qd}{Hv Hv':Hp}{Dn:Ends}{E:XK}{r:Except XD Out}{Ω':Sto}(l:RLe J J')(e:Same Hv Hv')(h:OkR K mg O' B Jz Sz Hz F J Hv Dn E r Ω') :
  OkR K mg O' B Jz Sz Hz F J' Hv' Dn E r Ω':=by
 cases r with
 | error x=>exact h
 | ok o=>exact OkE.back l e h
inductive sR(K:W.Frag)(mg:qa)(O O' B:List Nat)(g:DSt->MS Out)(E:XK)(Dn:Ends)(Z:St)(H:Hp):Prop
 | mk (Jz:Rho) (Sz:qd) (Hz:Hp) (F:qd) (J:Rho) (S:qd) (Y:DSt) (Ω:Sto) (R:RM Jz Sz Hz F K mg O J S H Z Y Ω) (r:Except XD Out) (Ω':Sto) (hf:g Y Ω=some (r,Ω')) (k:OkR K mg O' B Jz Sz Hz F J (hid H (fob (un F S) Z O)) Dn E r Ω')
def MSr(X:Cx)(O O' B:List Nat)(E:XK)(st:Stmt)(g:DSt->MS Out):Prop:=PS X st (sR X.K X.mg O O' B g E)
def MSsr(X:Cx)(O O' B:List Nat)(E:XK)(st:List Stmt)(g:DSt->MS Out):Prop:=PSs X st (sR X.K X.mg O O' B g E)
def Wx(X:Cx)(E:XK):Prop:=∀ U Z e s,Back X U Z E e s->X.xe e s
def jsa(cs:List Str)(i:Nat):MS Out:=fun Ω=>match Ω[i]? with
 | some (.exc c (j,true))=>if cs.contains c then some (.error (xdO i),Ω.set i (.exc c (j,false))) else none
 | _=>none
def jro(cs:List Str)(fa:DSt->MS D):DSt->MS Out:=fun Y=>(fa Y).b fun d=>match d with
 | .obj i=>jsa cs i
 | _=>fun _=>none
inductive RaiseI(cs:List Str)(d:D)(Ω Ω':Sto)(r:Except XD Out):Prop
 | mk (i:Nat) (c:Str) (j:Option Nat) (h1:d=.obj i) (h2:Ω[i]? = some (.exc c (j,true))) (h3:c∈cs) (h4:r=.error (xdO i)) (h5:Ω'=Ω.set i (.exc c (j,false)))
def jws{cs:List Str}{d:D}{Ω Ω':Sto}{r:Except XD Out}(h:(match d with
 | .obj i=>jsa cs i
 | _=>fun _=>none:MS Out) Ω=some (r,Ω')):RaiseI cs d Ω Ω' r:=by
 split at h
 ·rename_i i;unfold jsa at h
  split at h
  ·rename_i c j hi
   split at h
   ·rename_i hc;cases h;exact⟨i,c,j,rfl,hi,zbc.mp hc,rfl,rfl⟩
   ·cases h
  ·cases h
 ·cases h
section
variable {X:Cx}{O O' O'' B:List Nat}{E:XK}{a c e o iter tg:Expr}{fa:DSt->MS D}{fi:DSt->MS (List D)}{pos:Pos}{st:Stmt}{rest:List Stmt}{g g1 g2:DSt->MS Out}{tc:DSt->MS Bool}{cs fs:List Str}{bn:Str}
def jAt(h:MSt X O O' B st g):MSr X O O' B E st g:=by
 rintro U s Z H Dn I ⟨Jz,Sz,Hz,F,J,S,Y,Ω,R,r,Ω',hf,k⟩;refine h U s Z H Dn I ⟨Jz,Sz,Hz,F,J,S,Y,Ω,R,r,Ω',hf,?_⟩
 cases r with
 | ok o=>exact k
 | error x=>trivial
def jC6(h:MSs X O O' B rest g):MSsr X O O' B E rest g:=by
 rintro U s Z H Dn I ⟨Jz,Sz,Hz,F,J,S,Y,Ω,R,r,Ω',hf,k⟩;refine h U s Z H Dn I ⟨Jz,Sz,Hz,F,J,S,Y,Ω,R,r,Ω',hf,?_⟩
 cases r with
 | ok o=>exact k
 | error x=>trivial
def jo0(h1:MSr X O O' B E st g1)(h2:MSsr X O' O'' B E rest g2):MSsr X O O'' B E (st::rest) (eSeq g1 g2):=by
 rintro U s Z H Dn I ⟨Jz,Sz,Hz,F,J,S,Y,Ω,R,r,Ω',hf,k⟩;refine jn1 h1 h2 U s Z H Dn I ?_;rcases MS.b_inv hf with ⟨o,Ω1,e1,hf⟩|⟨x,e1,rfl⟩
 ·refine⟨Jz,Sz,Hz,F,J,S,Y,Ω,R,.ok o,Ω1,e1,?_⟩
  cases o with
  | nx Y'=>exact fun ρ1 S1 Z1 H1 R1 l1 v1=>⟨Jz,Sz,Hz,F,ρ1,S1,Y',Ω1,R1,r,Ω',hf,k.back l1 v1⟩
  | rt d=>cases hf;exact k
  | bk Y'=>cases hf;exact k
  | ct Y'=>cases hf;exact k
 ·exact⟨Jz,Sz,Hz,F,J,S,Y,Ω,R,.error x,_,e1,k⟩
def jnr(h1:MSr X O O' B E st g):MSsr X O O' B E [st] g:=fun U s Z H Dn I h=>jn2 h1 U s Z H Dn I h
def jGh{s1 s2:List Stmt}(hc:MT X O c tc)(h1:MSsr X O O' B E s1 g1)(h2:MSsr X O O' B E s2 g2):MSr X O O' B E (.If c s1 s2 pos) (eIf tc g1 g2):=by
 rintro U s Z H Dn I ⟨Jz,Sz,Hz,F,J,S,Y,Ω,R,r,Ω',hg,k⟩;refine jDu hc h1 h2 U s Z H Dn I ?_;rcases MS.b_inv hg with ⟨z,Ω1,e1,hg⟩|⟨x,e1,rfl⟩
 ·refine⟨Jz,Sz,Hz,F,J,S,Y,Ω,R,.ok z,_,e1,fun ρ1 S1 H1 R1 l1 v1=>?_⟩
  cases z with
  | true=>exact iteT ⟨Jz,Sz,Hz,F,ρ1,S1,Y,Ω1,R1,r,Ω',hg,k.back l1 v1⟩
  | false=>exact iteF ⟨Jz,Sz,Hz,F,ρ1,S1,Y,Ω1,R1,r,Ω',hg,k.back l1 v1⟩
 ·exact⟨Jz,Sz,Hz,F,J,S,Y,Ω,R,.error x,_,e1,trivial⟩
def jC5{body:List Stmt}{h:D->DSt->Option DSt}(hp:PassesOwn (model X.prog X.w) X.A X.env X.xe)(hc:X.calm=true)(hi:MI X O tg iter fi)(hg:DG X O tg h)(hb:MSsr X O O O E body g)
  (hs:∀ x,foldedSetIterable iter X.env x=pure x:=by intro _;rfl):MSr X O O B E (.For tg iter body [] pos) (eFor fi h g):=by
 rintro U s Z H Dn I ⟨Jz,Sz,Hz,F,J,S,Y,Ω,R,r,Ω',hgf,k⟩;refine jwn hp hc hi hg hb hs U s Z H Dn I ?_;rcases MS.b_inv hgf with ⟨ds,Ω1,e1,hgf⟩|⟨y,e1,rfl⟩
 ·refine⟨Jz,Sz,Hz,F,J,S,Y,Ω,R,.ok ds,Ω1,e1,fun Jq ρ1 S1 H1 R1 l1 v1 it=>?_⟩;refine⟨fun i m Z' H'=>m=ds.length-i/\i<=ds.length/\∃ J' S' Y' Ω2,RM Jz Sz Hz F X.K X.mg O J' S' H' Z' Y' Ω2/\RLe ρ1 J'/\Same (hid H1 (fob (un F S1) Z O)) (hid H' (fob (un F S') Z' O))/\forE g h (ds.drop i) Y' Ω2=some (r,Ω'),
   ⟨ds.length,by simp,Nat.zero_le _,ρ1,S1,Y,Ω1,R1,RLe.refl _,Same.refl _,hgf⟩,?_⟩
  rintro i m Z' H' ⟨rfl,hil,J',S',Y',Ω2,R',l',f',hr⟩;obtain⟨j1,j2⟩:=it H' (fob (un F S') Z' O) i f' (fun p hp=>R'.fresh hp)
  by_cases hlt:i<ds.length
  ·obtain⟨go,yld⟩:=j1 hlt;refine .inr ⟨go,fun Z2 H2=>∃ ρ2 S2 Y2 Ω3,RM Jz Sz Hz F X.K X.mg O ρ2 S2 H2 Z2 Y2 Ω3/\RLe ρ1 ρ2/\Same (hid H1 (fob (un F S1) Z O)) (hid H2 (fob (un F S2) Z2 O))/\forE g h (ds.drop (i+1)) Y2 Ω3=some (r,Ω'),fun Z2 H2 ⟨ρ2,S2,Y2,Ω3,a1,a2,a3,a4⟩=>⟨ds.length-(i+1),by omega,rfl,hlt,ρ2,S2,Y2,Ω3,a1,a2,a3,a4⟩,fun x H2 y=>?_⟩;obtain⟨s2,d,hd,rd⟩:=yld x H2 y;have hdr:ds.drop i=d::ds.drop (i+1):=by
    rw[List.drop_eq_getElem_cons hlt];have:ds[i]=d:=by rw[zax hlt] at hd;exact zby hd
    rw[this]
   rw[hdr] at hr;unfold forE at hr
   cases e2:h d Y' with
   | none=>rw[e2] at hr;cases hr
   | some Y1 =>
    rw[e2] at hr;dsimp only at hr;have R2:=R'.mono s2;have f2:Same (hid H1 (fob (un F S1) Z O)) (hid H2 (fob (un F S') Z' O)):=f'.trans (jas s2);refine⟨J',_,un F S',Y',d,Y1,R2.rs,rd.rho l',e2,fun Z3 ef R3=>?_⟩;have R3':RM Jz Sz Hz F X.K X.mg O J' S' H2 Z3 Y1 Ω2:=R2.next R3 (by rw[ef];exact Same.refl _);rcases MS.b_inv hr with ⟨o,Ω3,e3,hr⟩|⟨y,e3,rfl⟩
    ·refine⟨Jz,Sz,Hz,F,J',S',Y1,Ω2,R3',.ok o,Ω3,e3,?_⟩;rw[ef]
     cases o with
     | nx Y4=>exact fun J4 S4 Z4 H4 R4 l4 v4=>⟨J4,S4,Y4,Ω3,R4,l'.trans l4,f2.trans v4,hr⟩
     | ct Y4=>exact fun J4 S4 Z4 H4 R4 l4 v4=>⟨J4,S4,Y4,Ω3,R4,l'.trans l4,f2.trans v4,hr⟩
     | bk Y4=>cases hr;exact fun J4 S4 Z4 H4 R4 l4 v4=>k J4 S4 Z4 H4 R4 (l1.trans (l'.trans l4)) (v1.trans (f2.trans v4))
     | rt v=>cases hr;exact k
    ·exact⟨Jz,Sz,Hz,F,J',S',Y1,Ω2,R3',.error y,_,e3,k⟩
  ·have ei:i=ds.length:=by omega
   subst ei;rw[List.drop_length] at hr;cases hr;exact .inl ⟨j2 rfl,k J' S' Z' H' R' (l1.trans l') (v1.trans f')⟩
 ·exact⟨Jz,Sz,Hz,F,J,S,Y,Ω,R,.error y,_,e1,trivial⟩
def jvy(T:ErrT X.K X.mg cs fs bn)(hc:X.calm=true)(hx:Wx X E)(ha:ME X O e fa):MSr X O O' B E (.Raise (some e) none pos) (jro cs fa):=by
 rintro U s Z H Dn I ⟨Jz,Sz,Hz,F,J,S,Y,Ω,R,r,Ω',hg,k⟩;refine jzc ha hc U s Z H Dn I ?_;rcases MS.b_inv hg with ⟨d,Ω1,e1,hg⟩|⟨x,e1,rfl⟩
 ·refine⟨Jz,Sz,Hz,F,J,S,Y,Ω,R,.ok d,Ω1,e1,fun v ρ1 S1 H1 R1 l1 v1 r1=>?_⟩;obtain⟨i,c,j,rfl,hi,hcs,rfl,rfl⟩:=jws hg;obtain⟨ad,q1,q2⟩:=rep_obj.mp r1;obtain⟨ad',p1,p2,p3⟩:=R1.sto.ats i _ hi;rw[q1] at p1;cases p1
  have fin:∀ C od,X.mg c=some (.ref C)->H1 ad=some (XO ad C od true)->SOk ρ1 S1 X.K X.mg (upd H1 ad (XO ad C od false)) (hid H1 (fob (un F S1) Z O)) ad (.exc c (j,false)) ->
    ∃ a C od,v=.ref a/\H1 a=some (XO a C od true)/\XCls X.K C/\∀ U s,Inv X U Z (upd H1 a (XO a C od false)) s->Fly (upd H1 a (XO a C od false)) a C od s->X.xe (.ref a) s:=fun C od g1 g2 g3=>by
   refine⟨ad,C,od,q2,g2,T.cls c hcs C g1,fun pins' s' Jq Fl=>?_⟩;obtain⟨w1,w2⟩:=R1.putS (so':=.exc c (j,false)) (o':=XO ad C od false) hi q1 p2 g2 jBl g3;exact hx pins' Z _ s' ⟨ad,C,od,_,_,rfl,Jq,Fl,fun _ _ z=>z,k i ad C od ρ1 S1 _ rfl w1.rt q1 jam⟩
  cases p3 with
  | no f C g1 g2=>exact fin C none g1 g2 (ExcOk.no false C g1 jam)
  | yes f j C dx g1 g2 g3=>exact fin C (some dx) g1 g3 (ExcOk.yes false j C dx g1 g2 jam)
 ·exact⟨Jz,Sz,Hz,F,J,S,Y,Ω,R,.error x,_,e1,trivial⟩
end
inductive spR(K:W.Frag)(mg:qa)(n:Nat)(m:List D->MS D)(vs:List V)(H:Hp)(Q:VK)(E:XK):Prop
 | mk (hn:vs.length=n) (J:Rho) (S F:qd) (ds:List D) (Ω:Sto) (hF:∀ b,F b=true->H b≠none) (hS:∀ b,F b=true->S b=false) (hr:Reps J K (hid H (un F S)) ds vs) (hs:StoOk J S K mg H (hid H (un F S)) Ω) (r:Except XD D) (Ω':Sto) (hf:m ds Ω=some (r,Ω')) (k:match (generalizing:=false) r with
  | .ok d=>∀ v J' S' H',RT J S H F K mg J' S' H' Ω'->Rep J' K (hid H' (un F S')) d v->Q v H'
  | .error x=>ErrK K mg J S H F Ω' x E)
inductive CalY(P:Program)(w:World)(K:W.Frag)(mg:qa)(base:Heap)(k:Nat)(x:Str)(n:Nat)(sp:Sp):Prop
 | mk (f:Addr) (fd:FuncData) (ps:List Str) (h1:ps.length=n) (h2:mg x=some (.ref f)) (h3:W.keepIn K (.ref f)=true) (h4:Binds K fd ps []) (h5:FnOk P w K mg base (CX1 P w) k f fd ps sp)
inductive MetY(P:Program)(w:World)(K:W.Frag)(mg:qa)(base:Heap)(k:Nat)(c x:Str)(n:Nat)(sp:Sp):Prop
 | mk (C f:Addr) (fd:FuncData) (ps:List Str) (h1:ps.length=n) (h2:mg c=some (.ref C)) (h3:Cls K C) (h4:Meth K C x f) (h5:Binds K fd ps []) (h6:FnOk P w K mg base (CX1 P w) k f fd ps sp)
structure CalR(P:Program)(w:World)(K:W.Frag)(mg:qa)(base:Heap)(k:Nat)(x:Str)(n:Nat)(m:List D->MS D):Prop where
 ex:CalY P w K mg base k x n (spR K mg n m)
 ar:∀ ds Ω r,m ds Ω=some r->ds.length=n
structure MetR(P:Program)(w:World)(K:W.Frag)(mg:qa)(base:Heap)(k:Nat)(c x:Str)(n:Nat)(m:List D->MS D):Prop where
 ex:MetY P w K mg base k c x n (spR K mg n m)
 ar:∀ ds Ω r,m ds Ω=some r->ds.length=n
section
variable {P:Program}{w:World}{K:W.Frag}{mg:qa}{base:Heap}
def jKh{N:List Str}{qual:Str}{scope:Scope}{f:Addr}{cd:Value}{A:Around}{outer:List Env}{s:Shared}{H:Hp}{E:XK}:Wx (cxOf (CX1 P w) P w K mg base N qual scope f cd A outer s H E) E:=fun _ _ _ _ B=>jF7 B
def fn_R{x q:Str}{st:Stmt}{N ps:List Str}{k:Nat}{O':List Nat}{g:DSt->MS Out}{f:Addr}{fd:FuncData}(F:Fun K x q st f fd)(Sc:FnScope N ps (jaf st))
  (hbody:∀ (f:Addr) (cdv:Value) (A:Around) (outer:List Env) (s:Shared) (H:Hp) (E:XK),Room k (A.deeper (PyProof.Rows.envOfC q (jaf st) s.heap.objs.size f cdv)) ->
   MSsr (cxOf (CX1 P w) P w K mg base N q (jaf st) f cdv A outer s H E) [] O' [] E (ja1 st) g):FnOk P w K mg base (CX1 P w) (k+1) f fd ps (spR K mg ps.length (mirE ps.length N.length g)):=by
 obtain⟨oc,od,kV,doc,pm,an,cdv,ct,osl,rfl,lk,hcd⟩:=F.ex;refine jFt lk hcd Sc (fun vs H Q E h=>h.1) fun A outer s H vs Q E hr h=>?_
 obtain⟨hl,J,S,F',ds,Ω,fin,ff,rp,sto,r,Ω',hmr,k0⟩:=h;refine⟨_,hbody f cdv A outer s H E hr,?_⟩;have hpl:ps.length<=N.length:=by have:=congrArg List.length Sc.pre;rw[List.length_take] at this;omega
 have hdl:ds.length=ps.length:=by rw[<- rp.length];exact hl
 unfold mirE at hmr;rw[if_pos hdl] at hmr;have R:RM J S H F' K mg [] J S H (L2.start N vs) (startD N.length ds) Ω:=by
  refine⟨⟨?_,jao,fun b hb=>?_,fun i d hd _=>?_,fun i hi=>absurd hi (by simp),fun i hi=>absurd hi (by simp)⟩,RLe.refl _,fun b o _ h=>h,fun b h=>h,fun b h=>.inl h,fun i hi=>absurd hi (by simp),ff,by rw[jc2];exact sto⟩
  ·simp[L2.start,startD,rp.length]
  ·rcases un_t.mp hb with z|z
   ·exact fin b z
   ·exact sto.fin b z
  ·obtain⟨v,e,rv⟩:=rp.get (jjk hd);exact⟨v,jlj e,by rw[jc2];exact rv⟩
 rcases MS.b_inv hmr with ⟨o,Ω1,e1,hmr⟩|⟨y,e1,rfl⟩
 ·refine⟨J,S,H,F',J,S,_,Ω,R,.ok o,Ω1,e1,?_⟩
  cases o with
  | rt d =>
   cases hmr;exact fun v J' S' H' T rv=>k0 v J' S' H' T rv
  | nx Y =>
   cases hmr;exact fun J' S' Z' H' R' _ _=>k0 .non J' S' H' R'.rt (rep_non.mpr rfl)
  | bk Y=>cases hmr
  | ct Y=>cases hmr
 ·exact⟨J,S,H,F',J,S,_,Ω,R,.error y,_,e1,k0⟩
def jB2{x:Str}{st:Stmt}{N ps:List Str}{k:Nat}{O':List Nat}{g:DSt->MS Out}(hf:jcd K mg x st ps)(S:FnScope N ps (jaf st))
  (hbody:∀ (f:Addr) (cdv:Value) (A:Around) (outer:List Env) (s:Shared) (H:Hp) (E:XK),Room k (A.deeper (PyProof.Rows.envOfC x (jaf st) s.heap.objs.size f cdv)) ->
   MSsr (cxOf (CX1 P w) P w K mg base N x (jaf st) f cdv A outer s H E) [] O' [] E (ja1 st) g):CalR P w K mg base (k+1) x ps.length (mirE ps.length N.length g):=by
 obtain⟨f,fd,hm,F,hb⟩:=hf;exact⟨⟨f,fd,ps,rfl,hm,F.kp,hb,fn_R F S hbody⟩,jk0⟩
end
section
variable {X:Cx}{O:List Nat}{E:XK}{a b e:Expr}{x:Str}{k n:Nat}
variable {Jz J:Rho}{Sz S F:qd}{Hz H:Hp}{Z:St}{Y:DSt}{Ω Ω':Sto}
def jHs{m:List D->MS D}{ds:List D}{vs:List V}{r:Except XD D}{Q:VK}(R:RM Jz Sz Hz F X.K X.mg O J S H Z Y Ω)(hl:ds.length=n)(hr:Reps J X.K (hid H (fob (un F S) Z O)) ds vs)(hm:m ds Ω=some (r,Ω'))
  (k:match (generalizing:=false) r with
   | .ok d=>∀ v J' S' H',RM Jz Sz Hz F X.K X.mg O J' S' H' Z Y Ω'->RLe J J'->Same (hid H (fob (un F S) Z O)) (hid H' (fob (un F S') Z O))->Rep J' X.K (hid H' (fob (un F S') Z O)) d v->Q v H'
   | .error x=>∀ i a C od J' S' H',errI x=some i->RM Jz Sz Hz F X.K X.mg O J' S' H' Z Y Ω'->RLe J J'->Same (hid H (fob (un F S) Z O)) (hid H' (fob (un F S') Z O))->J' i=some a->H' a=some (XO a C od false)->E (.ref a) od H'):spR X.K X.mg n m vs H Q E:=by
 refine⟨by rw[hr.length];exact hl,J,S,fob F Z O,ds,Ω,fun b hb=>?_,fun b hb=>?_,by rw[jfu];exact hr,by rw[jfu];exact R.sto,r,Ω',hm,?_⟩
 ·intro z;have:=R.fresh z;rw[<- jfu,un_t.mpr (.inl hb)] at this;cases this
 ·rcases fob_t.mp hb with z|z
  ·exact R.ff b z
  ·cases e:S b with
   | false=>rfl
   | true=>exact absurd z (R.base_S e)
 ·cases r with
  | error x =>
   intro i a C od J' S' H' hx T hρ hH;obtain⟨t1,t2⟩:=R.call T.rho T.same T.old T.new T.ff T.sto;exact k i a C od J' S' H' hx t1 T.rho t2 hρ hH
  | ok d =>
   intro v J' S' H' T rv;obtain⟨t1,t2⟩:=R.call T.rho T.same T.old T.new T.ff T.sto;rw[jfu] at rv;exact k v J' S' H' t1 T.rho t2 rv
end
structure ErrM(K:W.Frag)(mg:qa)(cs:List Str)(b:Str):Prop where
 atb:∃ C,mg b=some (.ref C)
 ex:∀ c∈cs,∀ C,mg c=some (.ref C)->∀ D,mg b=some (.ref D)->W.exmOne K (.ref C) (.ref D)=some true
def jIf(K:W.Frag)(es:List (Str×Addr))(B:Addr):Bool:=es.all fun p=>W.exmOne K (.ref p.2) (.ref B) == some true
def jCp{K:W.Frag}{mg:qa}{es:List (Str×Addr)}{B:Addr}{b:Str}(hm:∀ p∈es,mg p.1=some (.ref p.2))(hb:mg b=some (.ref B))(h:jIf K es B=true):ErrM K mg (es.map (·.1)) b:=by
 refine⟨⟨B,hb⟩,fun c hc C hC D hD=>?_⟩;rw[hb] at hD;cases hD;obtain⟨p,hp,rfl⟩:=zcv.mp hc;rw[hm p hp] at hC;cases hC;exact beq_iff_eq.mp (List.all_eq_true.mp h p hp)
def jrb(cs:List Str)(j l:Nat)(Y:DSt)(y:XD)(Ω':Sto):Option (Except XD Out×Sto):=match errI y with
 | some q=>match Ω'[q]? with
  | some (.exc c (_,false))=>if cs.contains c then some (.ok (.nx (((Y.set j (some (.obj q))).set l (some (.obj q))).set j none)),Ω') else none
  | _=>none
 | none=>none
inductive CaughtI(cs:List Str)(j l:Nat)(Y:DSt)(y:XD)(Ω Ω':Sto)(r:Except XD Out):Prop
 | mk (q:Nat) (c:Str) (jj:Option Nat) (h1:errI y=some q) (h2:Ω[q]? = some (.exc c (jj,false))) (h3:c∈cs) (h4:r=.ok (.nx (((Y.set j (some (.obj q))).set l (some (.obj q))).set j none))) (h5:Ω'=Ω)
def jsp{cs:List Str}{j l:Nat}{Y:DSt}{y:XD}{Ω Ω':Sto}{r:Except XD Out}(h:jrb cs j l Y y Ω=some (r,Ω')):CaughtI cs j l Y y Ω Ω' r:=by
 unfold jrb at h
 split at h
 ·rename_i q hq
  split at h
  ·rename_i c jj hi
   split at h
   ·rename_i hc;cases h;exact⟨q,c,jj,hq,hi,zbc.mp hc,rfl,rfl⟩
   ·cases h
  ·cases h
 ·cases h
section
variable {Jz J:Rho}{Sz S F:qd}{Hz H:Hp}{K:W.Frag}{mg:qa}{O:List Nat}{Z:St}{Y:DSt}{Ω:Sto}
def jfh{F:qd}{j:Nat}(h:j∉O):fob F (Z.set j none) O=fob F Z O:=by
 funext b
 rw[Bool.eq_iff_iff,fob_t,fob_t];refine or_congr Iff.rfl ⟨?_,?_⟩
 ·rintro⟨i,hi,q⟩;rw[zbw (by rintro rfl;exact h hi)] at q;exact⟨i,hi,q⟩
 ·rintro⟨i,hi,q⟩;exact⟨i,hi,by rw[zbw (by rintro rfl;exact h hi)];exact q⟩
def RM.unset(R:RM Jz Sz Hz F K mg O J S H Z Y Ω){j:Nat}(ho:j∉O):RM Jz Sz Hz F K mg O J S H (Z.set j none) (Y.set j none) Ω:=by
 have ne:∀ i∈O,j≠i:=fun i hi e=>ho (e ▸ hi)
 refine⟨⟨by simp[R.rs.len],?_,R.rs.fin,fun i d hd hi=>?_,fun i hi=>?_,fun i hi k hk a q1 q2=>?_⟩,R.rho,R.same,R.old,R.new,fun i hi a q=>?_,R.ff,by rw[jfh ho];exact R.sto⟩
 ·rw[jfh ho];exact R.rs.same
 ·rw[jfh ho];have hij:j≠i:=fun z=>by
   subst z
   by_cases q:j<Y.length
   ·rw[zcz q] at hd;cases hd
   ·rw[List.getElem?_eq_none (by simpa using q)] at hd;cases hd
  rw[zbw hij] at hd |-
  exact R.rs.val i d hd hi
 ·rw[zbw (ne i hi),zbw (ne i hi),jfh ho,jfh ho];exact R.rs.own i hi
 ·rw[zbw (ne i hi)] at q1;rw[zbw (ne k hk)] at q2;exact R.rs.nd i hi k hk a q1 q2
 ·rw[zbw (ne i hi)] at q;exact R.own0 i hi a q
end
section
end
end DL
namespace L2
open PyProof.Rows
open PySem.W (Frag InstAt Looks findIn mroIn clsIn)
section
variable {X:Cx}{CX:CXT}{k:Nat}{f:Addr}{fd:FuncData}{ps:List Str}{sp:Sp}{E:XK}{x:Str}{p pos:Pos}{e:Expr}{es:List Expr}{t:TA}
def jFu{U:qb}{Z:St}{H:Hp}{s:Shared}{Q:VK}(F:FnOk X.prog X.w X.K X.mg X.base CX k f fd ps sp)(hr:Room k X.A)(hg:Gl X x)(hm:X.mg x=some (.ref f))(hk:W.keepIn X.K (.ref f)=true)(hb:Binds X.K fd ps [])
  (hx:∀ H1 s1 e s',Inv X U Z H1 s1->CX X.stack H1 s1 E e s'->X.xe e s') (ha:PA X (e::es) t) (hdb:(x == ("__debug__":Str))=false) (he:zsE e es X.env) (hpl:zbT pos es X.env)
  (I:Inv X U Z H s) (h:jzv sp [] E t Z H Q):wpAny (model X.prog X.w) X.A (eval (.Call (.Name x p) (e::es) [] pos) X.env) (EP X U Z Q) X.xe s:=by
 refine wpAny_Call_Name_kw (jjc I hg hm ?_ hdb);refine W.callWith_K (h₀:=X.base) I.ok.mod.kin hk (thn (ha pos U s Z H _ I h) fun us s1 ⟨vs,H1,I1,r,q⟩=>⟨I1.kIn,?_⟩) he hpl;have q3:sp (vs++[]) H1 Q E:=q;rw[List.append_nil] at q3;exact jHh F hr hb hx I1 r q3
inductive tTryF(K:Frag)(sp:Sp)(t:TA)(Bc:Addr)(j l:Nat)(D:Ends)(Z:St)(H:Hp):Prop
 | mk (Er:Addr->Addr->Option Addr->Hp->Prop) (h1:jzv sp [] (EX Er) t Z H fun v H1=>D.nx Z H1)
  (h2:∀ a C' od H1,H1 a=some (XO a C' od false)->Er a C' od H1->(∃ C2 od2,H1 a=some (XO a C2 od2 false)/\W.exmOne K (.ref C2) (.ref Bc)=some true)/\∀ H2,(∀ b o,H1 b=some o->H2 b=some o)->D.nx (((Z.set j (some (.ref a))).set l (some (.ref a))).set j none) H2)
def jDw{B n y:Str}{Bc:Addr}{j l:Nat}{np hpos py pn ypos spos tpos:Pos}(F:FnOk X.prog X.w X.K X.mg X.base (CX1 X.prog X.w) k f fd ps sp)(hr:Room k X.A)(hgx:Gl X x)(hmx:X.mg x=some (.ref f))(hk:W.keepIn X.K (.ref f)=true)(hb:Binds X.K fd ps [])(ha:∀ W,PA (X.wish W) (e::es) t)
  (hst:X.stack=X.env::X.outer) (hfr:X.env.frame=some X.env.locals) (hg:Gl X B) (hmB:X.mg B=some (.ref Bc)) (hN:X.N.Nodup) (hj:X.N[j]? = some n) (hn:X.env.scope.names.lookup n=some .local) (hl:X.N[l]? = some y) (hy:X.env.scope.names.lookup y=some .local) (hjl:j≠l)
  (hdx:(x == ("__debug__":Str))=false) (hdb:(B == ("__debug__":Str))=false) (hnd:(n == ("__debug__":Str))=false) (hncd:(n == ("__classdict__":Str))=false) (hs:swapsWith (.Name n pn) (some (.Name y py)) ypos.line X.env=pure false)
  (hs1:swapsWith (.Call (.Name x p) (e::es) [] pos) none spos.line X.env=pure false) (hse:zsE e es X.env) (hpl:zbT pos es X.env) :
  PS X (.Try [.Expr (.Call (.Name x p) (e::es) [] pos) spos] [.ExceptHandler (some (.Name B np)) (some n) [.Assign [.Name y py] (.Name n pn) ypos] hpos] [] [] tpos) (tTryF X.K sp t Bc j l):=by
 rintro U s Z H D I ⟨Er,h1,h2⟩;refine wpAny_Try_except ?_;generalize hW:(fun (e:Value) (s₁:Shared)=>wpAny (model X.prog X.w) X.A (noteFrame e X.env) (fun _ s₂=>wpAny (model X.prog X.w) X.A (setFlight e none) (fun _ s₃=>wpAny (model X.prog X.w) X.A (handleBy e X.env [.ExceptHandler (some (.Name B np)) (some n) [.Assign [.Name y py] (.Name n pn) ypos] hpos]) (SP X U D) X.xe s₃) X.xe s₂) X.xe s₁)=W;have hxW:∀ H1 s1 e s',Inv (X.wish W) U Z H1 s1->CX1 X.prog X.w X.stack H1 s1 (EX Er) e s'->W e s':=fun H1 s1 e' s' I1 hc=>by
  obtain⟨a,C',od,Ha,H2,rfl,Jq,Fl,g7,a2,C2,g8,g9,g10⟩:=jBu (X:=X) I1.unwish hc;cases g8;rw[<- hW];have e1:H2 a=some (XO a C' od false):=by obtain⟨e1,_⟩:=Fl;exact e1
  obtain rfl:C'=C2:=jBk Jq e1 (g7 _ _ g9);obtain⟨⟨C3,od3,g11,q1⟩,q2⟩:=h2 a C' od Ha g9 g10;obtain rfl:C'=C3:=jBk Jq e1 (g7 _ _ g11);refine jGp Jq Fl hst hfr I.ok.frames fun T h' hT J2 F2=>?_
  refine jCu J2 F2 q1 hg hmB hdb hN hj hn hl hy hjl hnd hncd hs fun s5 J5=>?_
  refine⟨_,_,J5,q2 _ fun b ob q=>?_⟩;rw[jai (fun z=>by rw[z] at q;rw[g7 _ _ q] at hT;cases hT)];exact g7 b ob q
 have I1:Inv (X.wish W) U Z H s:=I.wish W;have body:wpAny (model X.prog X.w) X.A (exec (.Expr (.Call (.Name x p) (e::es) [] pos) spos) X.env) (SP (X.wish W) U D) W s :=
  wpAny_Expr_any (thn (jFu (X:=X.wish W) F hr hgx hmx hk hb hxW (ha W) hdx hse hpl I1 h1) fun v s1 ⟨z,H1,J1,rz,q⟩=>⟨Z,H1,J1,q⟩) I1.quiet hs1
 refine wpAny_execs_cons (thn body fun f s1 q=>?_)
 cases f with
 | next=>exact wpAny_execs_nil (wpAny_execs_nil (SP.unwish q))
 | ret v=>exact SP.unwish q
 | brk=>exact SP.unwish q
 | cont=>exact SP.unwish q
end
end L2
namespace DL
open L2
def jxz(m:List D->MS D)(cs:List Str)(j l:Nat)(fl:DSt->MS (List D)):DSt->MS Out:=fun Y Ω=>match jh8 m fl Y Ω with
 | some (.ok _,Ω')=>some (.ok (.nx Y),Ω')
 | some (.error y,Ω')=>jrb cs j l Y y Ω'
 | none=>none
section
variable {X:Cx}{O B:List Nat}{E:XK}{e:Expr}{es:List Expr}{fl:DSt->MS (List D)}{pos p:Pos}{x:Str}{k n:Nat}
variable {Jz J:Rho}{Sz S F:qd}{Hz H:Hp}{Z:St}{Y:DSt}{Ω Ω':Sto}
def jm2{m:List D->MS D}{r:Except XD D}{Q:VK}(ar:∀ ds Ω r,m ds Ω=some r->ds.length=n)(R:RM Jz Sz Hz F X.K X.mg O J S H Z Y Ω)(hf:jh8 m fl Y Ω=some (r,Ω'))
  (k:match (generalizing:=false) r with
   | .ok d=>∀ v J' S' H',RM Jz Sz Hz F X.K X.mg O J' S' H' Z Y Ω'->RLe J J'->Same (hid H (fob (un F S) Z O)) (hid H' (fob (un F S') Z O))->Rep J' X.K (hid H' (fob (un F S') Z O)) d v->Q v H'
   | .error y=>∀ i a C od J' S' H',errI y=some i->RM Jz Sz Hz F X.K X.mg O J' S' H' Z Y Ω'->RLe J J'->Same (hid H (fob (un F S) Z O)) (hid H' (fob (un F S') Z O))->J' i=some a->H' a=some (XO a C od false)->E (.ref a) od H'):jzv (spR X.K X.mg n m) [] E (tEL X.K X.mg O fl) Z H Q:=by
 rcases MS.b_inv hf with ⟨ds,Ω2,e2,hf3⟩|⟨y,e2,rfl⟩
 ·refine⟨Jz,Sz,Hz,F,J,S,Y,Ω,R,.ok ds,Ω2,e2,fun vs ρ2 S2 H2 R2 l2 v2 r2=>?_⟩;show spR X.K X.mg n m (vs++[]) H2 Q E;rw[List.append_nil];refine jHs R2 (ar _ _ _ hf3) r2 hf3 ?_
  cases r with
  | error y=>exact fun i a C od J3 S3 H3 he R3 l3 v3 hρ hH=>k i a C od J3 S3 H3 he R3 (l2.trans l3) (v2.trans v3) hρ hH
  | ok d=>exact fun v' J3 S3 H3 R3 l3 v3 r3=>k v' J3 S3 H3 R3 (l2.trans l3) (v2.trans v3) r3
 ·exact⟨Jz,Sz,Hz,F,J,S,Y,Ω,R,.error y,_,e2,trivial⟩
def jC4{m:List D->MS D}{cs:List Str}{n' y bn:Str}{j l:Nat}{np hpos py pn ypos spos tpos:Pos}(C:CalR X.prog X.w X.K X.mg X.base k x n m)(Em:ErrM X.K X.mg cs bn)(hr:Room k X.A)(ha:∀ W,MA (X.wish W) O (e::es) fl)
  (hst:X.stack=X.env::X.outer) (hfr:X.env.frame=some X.env.locals) (hN:X.N.Nodup) (hjo:O.contains j=false) (hlo:O.contains l=false) (hjl:j≠l)
  (hj:X.N[j]? = some n':=by rfl) (hn:X.env.scope.names.lookup n'=some .local:=by rfl) (hl:X.N[l]? = some y:=by rfl) (hy:X.env.scope.names.lookup y=some .local:=by rfl) (hgx:Gl X x:=by rfl) (hg:Gl X bn:=by rfl)
  (hdx:(x == ("__debug__":Str))=false:=by decide) (hdb:(bn == ("__debug__":Str))=false:=by decide) (hnd:(n' == ("__debug__":Str))=false:=by decide) (hncd:(n' == ("__classdict__":Str))=false:=by decide) (hs:swapsWith (.Name n' pn) (some (.Name y py)) ypos.line X.env=pure false:=by rfl)
  (hs1:swapsWith (.Call (.Name x p) (e::es) [] pos) none spos.line X.env=pure false:=by rfl) (hse:zsE e es X.env:=by rfl) (hpl:zbT pos es X.env:=by rfl) :
  MSt X O O B (.Try [.Expr (.Call (.Name x p) (e::es) [] pos) spos] [.ExceptHandler (some (.Name bn np)) (some n') [.Assign [.Name y py] (.Name n' pn) ypos] hpos] [] [] tpos) (jxz m cs j l fl):=by
 have no:∀ {q:Nat},O.contains q=false->q∉O:=fun h z=>by rw[zbc.mpr z] at h;cases h
 obtain⟨f,fd,ps,hln,hm,hk,hb,G⟩:=C.ex;obtain⟨Bc,hB⟩:=Em.atb;rintro U s Z H Dn I ⟨Jz,Sz,Hz,F,J,S,Y,Ω,R,r,Ω',hf,k⟩;refine jDw (X:=X) (t:=tEL X.K X.mg O fl) G hr hgx hm hk hb (fun W=>ha W) hst hfr hg hB hN hj hn hl hy hjl hdx hdb hnd hncd hs hs1 hse hpl U s Z H Dn I ?_;unfold jxz at hf
 cases e0:jh8 m fl Y Ω with
 | none=>rw[e0] at hf;cases hf
 | some pr =>
  obtain⟨r0,Ω0⟩:=pr;rw[e0] at hf
  cases r0 with
  | ok d =>
   cases hf;refine⟨fun _ _ _ _=>False,jm2 C.ar R e0 fun v ρ1 S1 H1 R1 l1 v1 r1=>?_,fun _ _ _ _ _ z=>z.elim⟩;exact k ρ1 S1 Z H1 R1 l1 v1
  | error y0 =>
   obtain⟨q,c',jj,g1,g2,g3,rfl,rfl⟩:=jsp hf;refine⟨fun a C' od H1=>∃ ρ1 S1,RM Jz Sz Hz F X.K X.mg O ρ1 S1 H1 Z Y Ω'/\RLe J ρ1/\Same (hid H (fob (un F S) Z O)) (hid H1 (fob (un F S1) Z O))/\ρ1 q=some a,jm2 C.ar R e0 fun i' a C' od ρ1 S1 H1 he R1 l1 v1 hρ hH=>?_,fun a C' od H1 hH ⟨ρ1,S1,R1,l1,v1,hρ⟩=>⟨?_,fun H2 sm=>?_⟩⟩
   ·rw[g1] at he;cases he;exact⟨a,C',rfl,hH,ρ1,S1,R1,l1,v1,hρ⟩
   ·obtain⟨a',p1,p2,p3⟩:=R1.sto.ats q _ g2;rw[hρ] at p1;cases p1
    cases p3 with
    | no f C2 w1 w2=>exact⟨C2,none,w2,Em.ex c' g3 C2 w1 Bc hB⟩
    | yes f j2 C2 dx w1 w2 w3=>exact⟨C2,some dx,w3,Em.ex c' g3 C2 w1 Bc hB⟩
   ·have R2:=R1.mono (H':=H2) sm;have hob:∀ {Hx:Hp},Rep ρ1 X.K Hx (.obj q) (.ref a):=rep_obj.mpr ⟨a,hρ,rfl⟩;have R3:=((R2.set (i:=j) (d:=.obj q) (v:=.ref a) (no hjo) hob).set (i:=l) (d:=.obj q) (v:=.ref a) (no hlo) hob).unset (no hjo);refine k ρ1 S1 _ H2 R3 l1 ?_;rw[jfh (no hjo),jb8 (no hlo),jb8 (no hjo)];exact v1.trans (jas sm)
end
section
variable {X:Cx}{O:List Nat}{e:Expr}{es:List Expr}{fl:DSt->MS (List D)}{pos p:Pos}{x:Str}{k n:Nat}
def jmj(m:List D->MS D)(fl:DSt->MS (List D)):DSt->MS D:=fun Y Ω=>match jh8 m fl Y Ω with
 | some (.ok d,Ω')=>some (.ok d,Ω')
 | _=>none
def jyo{m:List D->MS D}(C:CalR X.prog X.w X.K X.mg X.base k x n m)(hr:Room k X.A)(ha:MA X O (e::es) fl)(hg:Gl X x:=by rfl)(hdb:(x == ("__debug__":Str))=false:=by decide)(he:zsE e es X.env:=by rfl)
  (hpl:zbT pos es X.env:=by rfl):ME X O (.Call (.Name x p) (e::es) [] pos) (jmj m fl):=by
 rintro U s Z H Q I ⟨Jz,Sz,Hz,F,J,S,Y,Ω,R,r,Ω',hf,k⟩;obtain⟨f,fd,ps,hl,hm,hk,hb,G⟩:=C.ex;unfold jmj at hf
 split at hf
 ·rename_i d Ω2 e1;cases hf;exact jnx G hr hg hm hk hb .nil (fun _ _ _ _ _ _ _ ⟨_,_,_,_,_,_,_,_,_,_,_,_,z⟩=>z.elim) ha hdb he hpl U s Z H Q I (E:=E0) (jm2 C.ar R e1 k)
 ·cases hf
end
def rs1(Ω:Sto):D->Option D
 | .obj i=>match Ω[i]? with
  | some (.lst ds)=>some (.lst ds)
  | _=>none
 | d=>some d
def rsL(Ω:Sto):List D->Option (List D)
 | []=>some []
 | d::ds=>(rs1 Ω d).bind fun x=>(rsL Ω ds).map fun xs=>x::xs
def rsT(Ω:Sto):D->Option D
 | .tup ds=>(rsL Ω ds).map .tup
 | d=>rs1 Ω d
section
end
inductive NeRI(x y:D)(Ω Ω':Sto)(r:Except XD D):Prop
 | mk (x' y':D) (h1:rsT Ω x=some x') (h2:rsT Ω y=some y') (h3:(okD x'&&okD y'&&decide (depD x'<=20))=true) (h4:r=.ok (.bl !(eqB x' y'))) (h5:Ω'=Ω)
section
end
end DL
namespace L2
open PyProof.Rows PySem.W
section
variable {X:Cx}
def jso(hn:specialIn X.K (.builtin "object.__class__") "__get__"=some (some (.builtin "getset_descriptor.__get__")))(htk:takesIn X.K (.builtin "object.__class__")=some true) :
  CallR X (.builtin "isinstance") (fun xs H Q=>∃ a C od fr p,∃ as:List Addr,∃ b,xs=[.ref a,.ref p]/\H a=some (XO a C od fr)/\XCls X.K C/\(∀ dx,od=some dx->∃ fs,H dx=some (XDc dx fs))/\H p=some (.tup (as.map V.ref))/\W.kitAny X.K (.ref C) (as.map Value.ref)=some b/\Q (.bl b) H):=by
 intro U s Z H xs us Q I r h;obtain⟨a,C,od,fr,p,as,b,rfl,ea,cl,hd,hp,hk,q⟩:=h;obtain⟨u,c',rfl,ru,rc⟩:=r.two;cases ru;cases rc;obtain⟨hz,its,vi,o,ho,hc,n,hda⟩:=I.hok p _ hp;have ei:its=as.map Value.ref:=by
  have go:∀ {as:List Addr} {us:List Value},Vals (as.map V.ref) us->us=as.map Value.ref:=by
   intro as
   induction as with
   | nil=>intro us z;rw[List.map_nil] at z;cases z;rfl
   | cons x as ih =>
    intro us z;rw[List.map_cons] at z
    cases z with
    | cons z1 z2=>cases z1;rw[ih z2];rfl
  exact go vi
 subst ei;obtain⟨oc,odd,oda,osl⟩:=o;dsimp only at hc hda;subst hc;subst hda;obtain⟨vs,sl,h0,hf0⟩:=jpy I ea;have Jq:∃ ox od',InstAt s.heap a ox C od':=by
  cases od with
  | none=>exact⟨_,_,jq2 h0⟩
  | some dx =>
   obtain⟨fs,ed⟩:=hd dx rfl;obtain⟨mA,⟨o,_,_,e,_⟩,_⟩:=jz1 I ed;exact⟨_,_,joc h0 e⟩
 exact W.kia_tup (jAn cl.x cl.ga cl.gh cl.cl hn htk) I.kIn Jq ho hk (fun z=>nomatch z) fun tk=>⟨.bl b,H,I.tok _,rfl,q⟩
def jJ8(as:List Addr):TA:=fun _ H Q=>Q (as.map V.ref) H
end
end L2
namespace DL
open L2
section
variable {X:Cx}{O:List Nat}{e:Expr}{es:List Expr}{fa:DSt->MS D}{cs fs:List Str}{bn d:Str}{ds:List Str}{p p2 p3 pos:Pos}
inductive ClL(X:Cx)(es:List Expr)(ds:List Str):Prop
 | mk (as:List Addr) (h1:PA X es (jJ8 as)) (h2:Paired (fun (d:Str) (a:Addr)=>X.mg d=some (.ref a)) ds as)
def jz7:ClL X [] []:=⟨[],jml,.nil⟩
def jex(T:ErrT X.K X.mg cs fs bn)(h:ClL X es ds)(hd:cs.contains d=true:=by rfl)(hg:Gl X d:=by rfl)(hdb:(d == ("__debug__":Str))=false:=by decide)(hs:starEach (.Name d p::es) X.env=(false,eval (.Name d p) X.env)::starEach es X.env:=by rfl):ClL X (.Name d p::es) (d::ds):=by
 obtain⟨as,h1,h2⟩:=h;obtain⟨a,ha⟩:=T.ats d (zbc.mp hd);exact⟨a::as,jgc (jnz (v:=.ref a) hg ha rfl hdb) h1 hs,.cons ha h2⟩
def jAr{x1}(T:ErrT X.K X.mg cs fs bn)(hL:ClL X es ds)(hds:ds.all (cs.contains ·)=true)(hm:X.mg "isinstance"=none)(ha:ME X O e fa)(hl:ds.length<=100)(hG:Gl X "isinstance":=by rfl)
  (he:starEach (e::[.Tuple es x1 p3]) X.env=(false,eval e X.env)::starEach [.Tuple es x1 p3] X.env:=by rfl) (he2:starEach [.Tuple es x1 p3] X.env=(false,eval (.Tuple es x1 p3) X.env)::starEach [] X.env:=by rfl) (hpl:(backTo pos (starEach [.Tuple es x1 p3] X.env)).any (·.1)=false:=by rfl) :
  ME X O (.Call (.Name "isinstance" p) [e,.Tuple es x1 p3] [] pos) (mIsX cs (fun c=>ds.contains c) fa):=by
 obtain⟨as,h1,h2⟩:=hL;rintro U s Z H Q I ⟨Jz,Sz,Hz,F,J,S,Y,Ω,R,r,Ω',hg,k⟩;have kA:∀ c∈cs,∀ C,X.mg c=some (.ref C)->W.kitAny X.K (.ref C) (as.map Value.ref)=some (ds.contains c):=by
  intro c hc C hC
  clear h1 hl he he2 hpl hg k
  induction h2 with
  | nil=>rfl
  | @cons d a ds as z zs ih =>
   rw[List.all_cons,Bool.and_eq_true] at hds;obtain⟨D1,g1,g2⟩:=T.pair c hc d (zbc.mp hds.1) C hC;rw[z] at g1;cases g1
   have ih:=ih hds.2
   show (match W.kitOne X.K (.ref C) (.ref a) with
    | some true=>some true
    | some false=>W.kitAny X.K (.ref C) (as.map Value.ref)
    | none=>none)=_
   rw[g2,List.contains_cons]
   cases hcd:(c == d) with
   | true=>rfl
   | false=>rw[Bool.false_or];exact ih
 have la:(as.map V.ref).length<=sizeLine:=by
  rw[zav,<- h2.length,sizeLine_eq];exact zdy hl (by decide)
 refine jny (jso T.sp T.tk) hG hm jc8 (jgc ha (jgc (jAz h1) jml he2) he) (by decide) (by decide) he hpl U s Z H Q I ?_;rcases MS.b_inv hg with ⟨x,Ω1,e1,hg⟩|⟨x,e1,rfl⟩
 ·refine⟨Jz,Sz,Hz,F,J,S,Y,Ω,R,.ok x,Ω1,e1,fun w ρ1 S1 H1 R1 l1 v1 r1=>?_⟩;obtain⟨i,c,oj,fr,rfl,hi,hj,hc,rfl,rfl⟩:=jvb hg;obtain⟨ad,q1,q2⟩:=rep_obj.mp r1;obtain⟨ad',p1,p2,p3⟩:=R1.sto.ats i _ hi;rw[q1] at p1;cases p1
  subst q2;refine⟨la,fun pt hpt=>?_⟩;have sm:Same H1 (upd H1 pt (.tup (as.map V.ref))):=ja7 hpt;have R2:=R1.mono sm;have fin:Q (.bl (ds.contains c)) (upd H1 pt (.tup (as.map V.ref))):=k _ ρ1 S1 _ R2 l1 (v1.trans (jas sm)) (rep_bl.mpr rfl)
  cases p3 with
  | no fr C h1' h2'=>exact⟨ad,C,none,fr,pt,as,ds.contains c,rfl,sm _ _ h2',T.cls c hc C h1',(fun dx z=>nomatch z),jam,kA c hc C h1',fin⟩
  | yes fr j C dx h1' h2' h3' =>
   obtain⟨fl,hj⟩:=hj j rfl;obtain⟨dx',s1,s2,vfs,s3,s4⟩:=R1.sto.ats j _ hj;rw[h2'] at s1;cases s1
   exact⟨ad,C,some dx,fr,pt,as,ds.contains c,rfl,sm _ _ h3',T.cls c hc C h1',(fun dx' z=>by cases z;exact⟨vfs,sm _ _ s3⟩),jam,kA c hc C h1',fin⟩
 ·exact⟨Jz,Sz,Hz,F,J,S,Y,Ω,R,.error x,_,e1,trivial⟩
end
end DL
namespace DL
open PyProof.Rows L2
def jy8(its:List Value):slicePick its.toArray none none (some 1)=its.toArray:=by
 unfold slicePick;have e:sliceBounds none none (some 1) its.toArray.size=(0,(its.length:Int),1):=by
  simp[sliceBounds]
 rw[e];dsimp only;congr 1;have hr:sliceRange 0 (its.length:Int) 1=List.range its.length:=by
  unfold sliceRange;have e1:((if (1:Int) > 0 then (if (0:Int)<its.length then ((its.length:Int)-0+1-1) / 1 else 0) else (if (0:Int) > its.length then ((0:Int)-its.length-1-1) / (-1) else 0)):Int).toNat=its.length:=by
   rw[if_pos (by decide)]
   split
   ·rw[Int.ediv_one];omega
   ·omega
  show List.map _ (List.range _)=_;rw[e1];refine (List.map_congr_left fun k _=>?_).trans (List.map_id _);show (0+1*(k:Int)).toNat=k;omega
 rw[hr];have hp:∀ n,n<=its.length->List.filterMap (fun x=>its.toArray[x]?) (List.range n)=its.take n:=by
  intro n
  induction n with
  | zero=>intro _;rfl
  | succ n ih =>
   intro hn;rw[List.range_succ,List.filterMap_append,ih (by omega),List.take_add_one];congr 1;show List.filterMap _ [n]=_;rw[List.filterMap_cons,List.filterMap_nil,List.getElem?_toArray,zax (show n<its.length by omega)];rfl
 rw[hp _ (zac _),List.take_of_length_le (zac _)]
def gStp:D->D->Option D
 | .lst ds,.int i=>if i=1 then some (.lst ds) else if i=-1 then some (.lst ds.reverse) else none
 | _,_=>none
section
variable {X:Cx}{O:List Nat}{E:XK}{e e2:Expr}{fa fb:DSt->M D}{pos:Pos}
def stpV(i:Int)(xs:List V):List V:=if i=1 then xs else xs.reverse
def jzz{i:Int}{xs:List V}{us:List Value}(h:Vals xs us):Vals (stpV i xs) (if i=1 then us else us.reverse):=by
 unfold stpV
 split
 ·exact h
 ·exact jsg h
def jFg{p2:Pos}(ha:DE X O E e fa)(hb:DE X O E e2 fb):DE X O E (.Subscript e (.Slice none none (some e2) p2) pos) (f2 gStp fa fb):=by
 rintro U s Z H Q I ⟨J,Hz,F,Y,r,R,hf,k⟩;refine Subscript_ (thn (ha U s Z H (fun v H1=>tD X.K O E fb Z H1 (fun w H2=>∃ a xs,∃ i:Int,v=.ref a/\w=.int i/\(i=1\/i=-1)/\SqL X.K H2 a xs/\∀ p,H2 p=none->Q (.ref p) (upd H2 p (.lst (stpV i xs))))) I ?_) fun v s1 ⟨x,H1,I1,r1,q0⟩=>?_)
 ·rcases M.b_inv hf with ⟨x,e1,hf⟩|⟨x,e1,rfl⟩
  ·refine⟨J,Hz,F,Y,.ok x,R,e1,fun v H1 s1 r1=>?_⟩;rcases M.b_inv hf with ⟨y,e2,hf⟩|⟨y,e2,rfl⟩
   ·obtain⟨d,hd,rfl⟩:=M.o_inv hf;unfold gStp at hd
    split at hd
    ·rename_i ds i _;obtain⟨a,xs,rfl,q2,q3⟩:=rep_lst.mp r1;refine⟨J,Hz,F,Y,.ok (.int i),R.mono s1,e2,fun w H2 s2 r2=>?_⟩;have hq:(i=1\/i=-1)/\d=.lst (if i=1 then ds else ds.reverse):=by
      split at hd
      ·rename_i h1;cases hd;exact⟨.inl h1,by rw[if_pos h1]⟩
      ·rename_i h1
       split at hd
       ·rename_i h2;cases hd;exact⟨.inr h2,by rw[if_neg h1]⟩
       ·cases hd
     obtain⟨h1,rfl⟩:=hq;refine⟨a,xs,i,rfl,rep_int.mp r2,h1,jd3 s2 (jd3 jao q2),fun p hp=>k _ _ (s1.trans (s2.trans (ja7 hp))) (jdi hp ((R.mono (s1.trans s2)).fresh hp) ?_)⟩;have q4:=q3.mono (jas s2);unfold stpV
     split
     ·exact q4
     ·exact q4.rev
    ·cases hd
   ·exact⟨J,Hz,F,Y,.error y,R.mono s1,e2,k⟩
  ·exact⟨J,Hz,F,Y,.error x,R,e1,k⟩
 ·refine wpAny_Slice ?_;rw[evalPart_none];refine zab (zab ?_);rw[evalPart_some];refine thn (hb U s1 Z H1 _ I1 q0) fun vk s3 hzz=>?_
  obtain⟨z,H2,I3,rz,a,xs,i,ex,ez,hi,hx,q⟩:=hzz;subst ex;subst ez
  cases r1;obtain⟨tz,rfl⟩:=rz;have I4:Inv X U Z H2 { s3 with heap:=s3.heap.push { cls:=.type "slice",data:=.fields #[.none,.none,.int i tz] } }:=I3.kept (t':=s3.toks) fun b ob q=>zaz _ q
  obtain⟨its,r,ht,hz⟩:=I4.list hx;have hlen:=r.length;refine tail_any (ops:=[.ref a,.ref s3.heap.objs.size]) ht.isList.typeIs slot_list_getitem.lookup ?_ (by with_unfolding_all rfl);refine wpAny_getItem_list_slice ht.isList (Heap.IsSliceOf.new ..) .none .none (.int _ tz) (by rcases hi with rfl|rfl<;>decide) ?_ (by rw[zbx]<;>omega);have ep:slicePick its.toArray none none (some i)=(if i=1 then its else its.reverse).toArray:=by
   rcases hi with rfl|rfl
   ·exact jy8 its
   ·exact jy9 its
  rw[ep];refine⟨.ref _,_,I4.laid (t':=s3.toks) (o:=.lst (stpV i xs)) (fun b ob q=>zaz _ q) (zac _) ?_,rfl,q _ (I4.hok.fresh (zac _))⟩;exact⟨by unfold stpV;split<;>first|exact hz|(rw[List.length_reverse];exact hz),_,0,jzz r,zbz _ rfl⟩
def gInS:D->D->Option D
 | .str i,.str j=>some (.bl (!(Builtin.Str.occurrences j i 0 j.length 1).isEmpty))
 | _,_=>none
def jDi:OpD X.K gInS (fun x y H Q=>∃ i j,x=.str i/\y=.str j/\Q (.bl (!(Builtin.Str.occurrences j i 0 j.length 1).isEmpty)) H):=by
 intro x y d hd J H G u v Q hG ru rv k;unfold gInS at hd
 split at hd
 ·rename_i i j;cases hd;exact⟨i,j,rep_str.mp ru,rep_str.mp rv,k _ _ (Same.refl _) (rep_bl.mpr rfl)⟩
 ·cases hd
end
def jyy{s sub:Str}{lo hi limit:Nat}(h:∀ i,i+sub.length<=hi->Builtin.Str.subAt s sub i=false):Builtin.Str.occurrences s sub lo hi limit=[]:=by
 unfold Builtin.Str.occurrences;simp[Id.run];have go:∀ (l:List Nat),(forIn (m:=Id) l ((#[],lo):Array Nat×Nat) fun i r =>
    if ((r.fst.size<limit/\r.snd<=i)/\i+sub.length<=hi)/\Builtin.Str.subAt s sub i=true then
     pure (ForInStep.yield (r.fst.push i,i+sub.length))
    else pure (ForInStep.yield (r.fst,r.snd)))=(((#[],lo):Array Nat×Nat)):=by
  intro l
  induction l with
  | nil=>rfl
  | cons i l ih =>
   rw[List.forIn_cons,if_neg (fun z=>by rw[h i z.1.2] at z;exact absurd z.2 (by decide))];exact ih
 show ((fun a:Array Nat×Nat=>a.fst.toList) <$> (forIn (m:=Id) (List.range' lo (hi+1-lo)) ((#[],lo):Array Nat×Nat) _))=[];rw[go];rfl
end DL
namespace MyLaw
open L2 DL
abbrev LL:=List (List Nat)
abbrev oK{α:Type}(a:α):M α:=some (.ok a)
abbrev oL(a:List D):Option D:=some (.lst a)
abbrev oI(i:Int):Option D:=some (.int i)
abbrev oS(i:Str):Option D:=some (.str i)
abbrev cI(i:Int):DSt->M D:=fC (.int i)
abbrev cS(i:Str):DSt->M D:=fC (.str i)
abbrev nX(d:DSt):M Out:=oK (.nx d)
def top(i:Nat):Stmt:=PySem.Challenge.pw_apartbook_k03_names_that_lack.main.body.getD i (.Pass ⟨0,0,0,0⟩)
abbrev jix:Stmt:=top 41
abbrev jkd:Stmt:=top 40
abbrev jhh:Stmt:=top 43
abbrev jgh:Stmt:=top 44
abbrev jgi:Stmt:=top 49
abbrev je8:Stmt:=top 50
abbrev jef:Stmt:=top 47
abbrev je7:Stmt:=top 48
abbrev jhi:Stmt:=top 51
abbrev jgg:Stmt:=top 52
abbrev jhj:Stmt:=top 53
abbrev jes:Stmt:=top 54
abbrev jgf:Stmt:=top 55
abbrev jge:Stmt:=top 18
abbrev jgd:Stmt:=top 19
abbrev jeb:Stmt:=top 28
abbrev jgk:Stmt:=top 29
abbrev jhg:Stmt:=top 30
abbrev jd1:Stmt:=top 31
abbrev jgm:Stmt:=top 27
abbrev jch:Stmt:=jkj (top 3) 0
abbrev jb3:Stmt:=jkj (top 33) 0
abbrev jlb:Stmt:=top 36
abbrev jft:Stmt:=top 38
abbrev jiy:Stmt:=top 37
abbrev jbc:Stmt:=jkj (top 33) 1
abbrev jla:Stmt:=top 35
abbrev jci:Stmt:=jkj (top 33) 3
abbrev jbg:Stmt:=jkj (top 33) 2
abbrev jcq:Stmt:=top 21
abbrev jgl:Stmt:=top 20
abbrev jdd:Stmt:=top 34
abbrev jhk:Stmt:=top 32
abbrev jew:Stmt:=top 26
abbrev jgj:Stmt:=top 42
abbrev jer:Stmt:=top 56
abbrev jd0:Stmt:=top 45
abbrev jtb:Stmt:=top 57
abbrev xcs:List Str:=["Broken","Folded","NoBook","NoDeed","NoLine","NoName","NoPaper","NoRule","NoText","NotPlain","OutOfRange","ShortShare"]
abbrev xfs:List Str:=["place","name","line","lack"]
abbrev jdm(P:Program)(w:World)(K:W.Frag)(mg:qa)(base:Heap)(n:Nat)(x:Str)(t:Stmt)(N:List Str)(g:DSt->M Out):Prop:=∀ (f:Addr) (da:Value) (A:Around) (outer:List Env) (s:Shared) (H:Hp) (E:XK),Room n (A.deeper (PyProof.Rows.envOfC x (jaf t) s.heap.objs.size f da))->DSs (cxOf CX0 P w K mg base N x (jaf t) f da A outer s H E).nox [] [] [] E (ja1 t) g
abbrev jod(P:Program)(w:World)(K:W.Frag)(mg:qa)(base:Heap)(n:Nat)(x:Str)(t:Stmt)(N:List Str)(g:DSt->MS Out):Prop:=∀ (f:Addr) (da:Value) (A:Around) (outer:List Env) (s:Shared) (H:Hp) (E:XK),Room n (A.deeper (PyProof.Rows.envOfC x (jaf t) s.heap.objs.size f da))->MSs (cxOf CX0 P w K mg base N x (jaf t) f da A outer s H E).nox [] [] [] (ja1 t) g
structure Txt(K:W.Frag)(mg:qa):Prop where
 c_OpenSum:ClsAt K mg "OpenSum" ["star","term","term_sign","total"]
 errs:ErrT K mg xcs xfs "BookError"
 errm:ErrM K mg xcs "BookError"
 f_law_mix:jcd K mg "_law_mix" jix ["_law_number","_law_place"]
 f_law_at:jcd K mg "_law_at" jkd ["_law_script","_law_k"]
 f_law_name:jcd K mg "_law_name" jhh ["_law_number"]
 f_law_names:jcd K mg "_law_names" jgh ["_law_number","_law_most"]
 f_law_plain:jcd K mg "_law_plain" jgi ["_law_names_here","_law_number","_law_cell"]
 f_law_named:jcd K mg "_law_named" je8 ["_law_names_here","_law_number"]
 f_law_scaled:jcd K mg "_law_scaled" jef ["_law_form","_law_many"]
 f_law_added:jcd K mg "_law_added" je7 ["_law_one","_law_other"]
 f_law_term:jcd K mg "_law_term" jhi ["_law_names_here","_law_number","_law_cell"]
 f_law_grown:jcd K mg "_law_grown" jgg ["_law_tree_here","_law_names_here","_law_number","_law_cell"]
 f_law_tree:jcd K mg "_law_tree" jhj ["_law_script","_law_names_here","_law_first_here","_law_last"]
 f_law_written:jcd K mg "_law_written" jes ["_law_tokens","_law_number"]
 f_law_first:jcd K mg "_law_first" jgf ["_law_written_here","_law_listed"]
 f_is_letter:jcd K mg "is_letter" jge ["sign"]
 f_is_figure:jcd K mg "is_figure" jgd ["sign"]
 f_end_of_piece:jcd K mg "end_of_piece" jeb ["text","place"]
 f_may_stand:jcd K mg "may_stand" jgk ["sign","wanted","depth"]
 f_depth_by:jcd K mg "depth_by" jhg ["word"]
 f_wanted_behind:jcd K mg "wanted_behind" jd1 ["word"]
 f_pieces_of:jcd K mg "pieces_of" jgm ["text"]
 f_NoName_init__:IniXAt K mg "NoName" "NoName.__init__" jch ["self","name","place"]
 f_OpenSum_init__:IniAt K mg "OpenSum" "OpenSum.__init__" jb3 ["self","width"]
 f_times:jcd K mg "times" jlb ["form","number"]
 f_is_plain:jcd K mg "is_plain" jft ["form"]
 f_product:jcd K mg "product" jiy ["left","right","place"]
 f_OpenSum_take_factor:MetAt K mg "OpenSum" "take_factor" "OpenSum.take_factor" jbc ["self","form"]
 f_added:jcd K mg "added" jla ["left","right"]
 f_OpenSum_whole:MetAt K mg "OpenSum" "whole" "OpenSum.whole" jci ["self"]
 f_OpenSum_take_sign:MetAt K mg "OpenSum" "take_sign" "OpenSum.take_sign" jbg ["self","sign","place"]
 f_number_of_figures:jcd K mg "number_of_figures" jcq ["word"]
 f_number_of:jcd K mg "number_of" jgl ["word"]
 f_form_of_word:jcd K mg "form_of_word" jdd ["names","word"]
 f_reckoned:jcd K mg "reckoned" jhk ["names","pieces"]
 f_read_sum:jcd K mg "read_sum" jew ["names","text"]
 f_law_whole:jcd K mg "_law_whole" jgj ["_law_found"]
 f_law_refused:jcd K mg "_law_refused" jer ["_law_listed","_law_written_here","_law_due"]
 f_law_is_form:jcd K mg "_law_is_form" jd0 ["_law_found","_law_due"]
 f_law:jcd K mg "law" jtb ["_law_script"]
 g_BEGINNING:∃ t,mg "BEGINNING"=some (.str "beginning" t)
 g_BEHIND:∃ t,mg "BEHIND"=some (.str "behind" t)
 g_FACTOR:∃ t,mg "FACTOR"=some (.str "factor" t)
 g_NAME_LENGTH:∃ t,mg "NAME_LENGTH"=some (.int 10 t)
 g_PART_FIGURES:∃ t,mg "PART_FIGURES"=some (.int 18 t)
 g_PART_SIZE:∃ t,mg "PART_SIZE"=some (.int 1000000000000000000 t)
 b_ValueError:mg "ValueError"=none
 b_all:mg "all"=none
 b_bool:mg "bool"=none
 b_int:mg "int"=none
 b_isinstance:mg "isinstance"=none
 b_len:mg "len"=none
 b_list:mg "list"=none
 b_max:mg "max"=none
 b_range:mg "range"=none
 b_str:mg "str"=none
 b_sum:mg "sum"=none
 b_tuple:mg "tuple"=none
 b_zip:mg "zip"=none
section
variable {P:Program}{w:World}{K:W.Frag}{mg:qa}{base:Heap}
def sc_law_mix:FnScope ["_law_number","_law_place","_law_part"] ["_law_number","_law_place"] (jaf jix):=.m rfl rfl rfl rfl (by decide +kernel)
def jkq:DSt->M Out:=(gSeq (gSet 2 (f2 gMod (f2 jdt (f2 gCat (f2 gCat (f2 gMod (vR 0) (cI 2147483629)) (vR 1)) (cI 1)) (f2 gCat (f2 jdt (f2 jdt (cI 8) (vR 1)) (vR 1)) (cI 48271))) (cI 2147483647)))
  (gRet (f2 gMod (f2 jdt (vR 2) (vR 2)) (cI 2147483587))))
def jb6:List D->M D:=mir 2 3 jkq
def joj(T:Txt K mg):jdm P w K mg base 1 "_law_mix" jix ["_law_number","_law_place","_law_part"] jkq:=fun _ _ _ _ _ _ _ hr=>
 (jag (ja5 (i:=2) sc_law_mix.nd (jal jcw jbs (jal jdz jcx (jal jaj jak (jal jaj jak (jal jcw jbs (jab 0) jae) (jab 1)) jae) (jal jaj jak (jal jdz jcx (jal jdz jcx jae (jab 1)) (jab 1)) jae)) jae))
  (jah (jav (jal jcw jbs (jal jdz jcx (jab 2) (jab 2)) jae))))
def jd6(T:Txt K mg):Cal P w K mg base 2 "_law_mix" 2 jb6:=jb4 T.f_law_mix sc_law_mix (joj T)
def jw5:FnScope ["_law_script","_law_k"] ["_law_script","_law_k"] (jaf jkd):=.m rfl rfl rfl rfl (by decide +kernel)
def jnc:DSt->M Out:=(gSeq (gIf (t2 gLt (vR 1) (fL kLen (jac (vR 0) fNil))) (gRet (f2 gIx (vR 0) (vR 1))) gNx)
  (gRet (f2 gCat (f2 jdt (cI 19) (vR 1)) (cI 8))))
def jdw:List D->M D:=mir 2 2 jnc
def jp0(T:Txt K mg):jdm P w K mg base 1 "_law_at" jkd ["_law_script","_law_k"] jnc:=fun _ _ _ _ _ _ _ hr=>
 (jag (jcz (jax jg3 jco (jab 1) (ja8 jbe jcj rfl T.b_len jdn (jaa (jab 0) jad)) (jau _)) (jah (jav (jba jap jar (jab 0) (jab 1)))) ja2)
  (jah (jav (jal jaj jak (jal jdz jcx jae (jab 1)) jae))))
def jit(T:Txt K mg):Cal P w K mg base 2 "_law_at" 2 jdw:=jb4 T.f_law_at jw5 (jp0 T)
def sc_law_name:FnScope ["_law_number","_law_name_here","_law_k"] ["_law_number"] (jaf jhh):=.m rfl rfl rfl rfl (by decide +kernel)
def jfv:DSt->M Out:=(gSet 1 (f2 gCat (vR 1) (f2 gIx (cS "abcdefghijklmnopqrstuvwxyz") (f2 gMod (jay jb6 (jac (vR 0) (jac (vR 2) fNil))) (f2 gIx (fL jaw (jac (cI 26) (jac (cI 2) fNil))) (f2 gMod (f2 jdf (vR 0) (cI 10)) (cI 2)))))))
def jhb:DSt->M Out:=(gSeq (gSet 1 (cS ""))
  (gSeq (gFor (jf6 jb1 (jac (f2 gCat (cI 1) (f2 gMod (vR 0) (cI 10))) fNil)) (DL.gName 2) jfv)
  (gRet (vR 1))))
def jfp:List D->M D:=mir 1 3 jhb
def jmr(T:Txt K mg):jdm P w K mg base 2 "_law_name" jhh ["_law_number","_law_name_here","_law_k"] jhb:=fun _ _ _ _ _ _ _ hr=>
 (jag (ja5 (i:=1) sc_law_name.nd jaq)
  (jag (jma PassesOwn.never rfl (jha rfl T.b_range (jaa (jal jaj jak jae (jal jcw jbs (jab 0) jae)) jad)) (jdr (i:=2) sc_law_name.nd) (jah (ja5 (i:=1) sc_law_name.nd (jal jaj jak (jab 1) (jba jap jar jaq (jal jcw jbs (jan (jd6 T) (hr.m rfl) (jaa (jab 0) (jaa (jab 2) jad))) (jba jap jar (jbv (jaa jae (jaa jae jad))) (jal jcw jbs (jal jcn jcp (jab 0) jae) jae))))))))
  (jah (jav (jab 1)))))
def jqj(T:Txt K mg):Cal P w K mg base 3 "_law_name" 1 jfp:=jb4 T.f_law_name sc_law_name (jmr T)
def sc_law_names:FnScope ["_law_number","_law_most","_law_names_here","_law_k","_law_name_here"] ["_law_number","_law_most"] (jaf jgh):=.m rfl rfl rfl rfl (by decide +kernel)
def jec:DSt->M Out:=(gSeq (gSet 4 (jay jfp (jac (jay jb6 (jac (vR 0) (jac (f2 gCat (cI 20) (vR 3)) fNil))) fNil)))
  (gIf (t2 jey (vR 4) (vR 2)) (gApp 2 (vR 4)) gNx))
def jf3:DSt->M Out:=(gSeq (gSet 2 (fL jaw fNil))
  (gSeq (gFor (jf6 jb1 (jac (f2 gCat (cI 1) (f2 gMod (vR 0) (vR 1))) fNil)) (DL.gName 3) jec)
  (gRet (vR 2))))
def jf9:List D->M D:=mir 2 5 jf3
def jlt(T:Txt K mg):jdm P w K mg base 3 "_law_names" jgh ["_law_number","_law_most","_law_names_here","_law_k","_law_name_here"] jf3:=fun _ _ _ _ _ _ _ hr=>
 (jag (jup (i:=2) sc_law_names.nd jad)
  (jag (jma PassesOwn.never rfl (jha rfl T.b_range (jaa (jal jaj jak jae (jal jcw jbs (jab 0) (jab 1))) jad)) (jdr (i:=3) sc_law_names.nd) (jag (ja5 (i:=4) sc_law_names.nd (jan (jqj T) (hr.m rfl) (jaa (jan (jd6 T) (hr.m rfl) (jaa (jab 0) (jaa (jal jaj jak jae (jab 3)) jad))) jad)))
  (jah (jcz (jCe (O':=[]) (by decide) (jax jfa jiu (jab 4) (jab 2) rfl)) (jah (jrl (i:=2) rfl (jab 4))) ja2))))
  (juq (O':=[]) (by decide) (jah (jav (jab 2))))))
def jo6(T:Txt K mg):Cal P w K mg base 4 "_law_names" 2 jf9:=jb4 T.f_law_names sc_law_names (jlt T)
def sc_law_plain:FnScope ["_law_names_here","_law_number","_law_cell","_law_value"] ["_law_names_here","_law_number","_law_cell"] (jaf jgi):=.m rfl rfl rfl rfl (by decide +kernel)
def jf4:DSt->M Out:=(gSeq (gSet 3 (f2 gMod (f2 jdf (vR 1) (cI 8)) (cI 4)))
  (gSeq (gIf (t2 gEq (f2 gMod (vR 1) (cI 4)) (cI 0)) (gSet 3 (f2 gMod (vR 2) (f2 gIx (fL jaw (jac (cI 100) (jac (f2 gPow (cI 10) (cI 30)) fNil))) (f2 jdf (f2 gMod (f2 jdf (vR 1) (cI 32)) (cI 4)) (cI 3))))) gNx)
  (gRet (fL jb2 (jac (fL jaw (jac (fL kStr (jac (vR 3) fNil)) fNil)) (jac (fL jb2 (jac (f2 jdt (fL jb2 (jac (cI 0) fNil)) (fL kLen (jac (vR 0) fNil))) (jac (vR 3) fNil))) fNil))))))
def je4:List D->M D:=mir 3 4 jf4
def jlu(T:Txt K mg):jdm P w K mg base 1 "_law_plain" jgi ["_law_names_here","_law_number","_law_cell","_law_value"] jf4:=fun _ _ _ _ _ _ _ hr=>
 (jag (ja5 (i:=3) sc_law_plain.nd (jal jcw jbs (jal jcn jcp (jab 1) jae) jae))
  (jag (jcz (jax (jbh (hu30 hr)) jbi (jal jcw jbs (jab 1) jae) jae (jau _)) (jah (ja5 (i:=3) sc_law_plain.nd (jal jcw jbs (jab 2) (jba jap jar (jbv (jaa jae (jaa (jal jGr jDk jae jae) jad))) (jal jcn jcp (jal jcw jbs (jal jcn jcp (jab 1) jae) jae) jae))))) ja2)
  (jah (jav (jbp (jaa (jbv (jaa (jbk jgv jp1 rfl T.b_str jt0 (jaa (jab 3) jad)) jad)) (jaa (jbp (jaa (jal jdz jcx (jbp (jaa jae jad)) (ja8 jbe jcj rfl T.b_len jdn (jaa (jab 0) jad))) (jaa (jab 3) jad))) jad)))))))
def jo7(T:Txt K mg):Cal P w K mg base 2 "_law_plain" 3 je4:=jb4 T.f_law_plain sc_law_plain (jlu T)
def sc_law_named:FnScope ["_law_names_here","_law_number","_law_at_here"] ["_law_names_here","_law_number"] (jaf je8):=.m rfl rfl rfl rfl (by decide +kernel)
def jgu:DSt->M D:=(fL kIntT (jac (f2 gEq (vR 0) (vR 1)) fNil))
def jf2:DSt->M Out:=(gSeq (gSet 2 (f2 gMod (vR 1) (fL kLen (jac (vR 0) fNil))))
  (gRet (fL jb2 (jac (fL jaw (jac (f2 gIx (vR 0) (vR 2)) fNil)) (jac (fL jb2 (jac (fL kTuple (jac (jgx 1 [("_law_at_here",2)] (jf6 jb1 (jac (fL kLen (jac (vR 0) fNil)) fNil)) (DL.gName 0) tYes jgu) fNil)) (jac (cI 0) fNil))) fNil)))))
def je3:List D->M D:=mir 2 3 jf2
def jls(T:Txt K mg):jdm P w K mg base 1 "_law_named" je8 ["_law_names_here","_law_number","_law_at_here"] jf2:=fun _ _ _ _ _ _ _ hr=>
 (jag (ja5 (i:=2) sc_law_named.nd (jal jcw jbs (jab 1) (ja8 jbe jcj rfl T.b_len jdn (jaa (jab 0) jad))))
  (jah (jav (jbp (jaa (jbv (jaa (jba jap jar (jab 0) (jab 2)) jad)) (jaa (jbp (jaa (jbk jbr jdq rfl T.b_tuple jdo (jaa (jfy (own:=["_law_k"]) (caps:=[("_law_at_here",2)]) rfl (jfc (N:=["_law_names_here","_law_number","_law_at_here"]) (osc:=jaf je8) rfl rfl rfl (by decide +kernel)) (jha rfl T.b_range (jaa (ja8 jbe jcj rfl T.b_len jdn (jaa (jab 0) jad)) jad)) (fun _ _ _ _=>(jdr (i:=0) (show (["_law_k","_law_at_here"]:List Str).Nodup from by decide +kernel))) (fun _ _ _ _=>jhx) (fun _ _ _ _=>(jbk jki jm0 rfl T.b_int jq7 (jaa (jjp (jbh (hu30 hr)) jbi (jab 0) (jab 1) (jau _)) jad)))) jad)) (jaa jae jad))) jad))))))
def jo5(T:Txt K mg):Cal P w K mg base 2 "_law_named" 2 je3:=jb4 T.f_law_named sc_law_named (jls T)
def jn5:FnScope ["_law_form","_law_many"] ["_law_form","_law_many"] (jaf jef):=.m rfl rfl rfl rfl (by decide +kernel)
def jfx:DSt->M D:=(f2 jdt (vR 1) (vR 0))
def jgz:DSt->M Out:=(gRet (fL jb2 (jac (fL kTuple (jac (jgx 1 [("_law_many",1)] (jil (f2 gIx (vR 0) (cI 0))) (DL.gName 0) tYes jfx) fNil)) (jac (f2 jdt (vR 1) (f2 gIx (vR 0) (cI 1))) fNil))))
def jbf:List D->M D:=mir 2 2 jgz
def jkh(T:Txt K mg):jdm P w K mg base 1 "_law_scaled" jef ["_law_form","_law_many"] jgz:=fun _ _ _ _ _ _ _ hr=>
 (jah (jav (jbp (jaa (jbk jbr jdq rfl T.b_tuple jdo (jaa (jfy (own:=["_law_number"]) (caps:=[("_law_many",1)]) rfl (jfc (N:=["_law_form","_law_many"]) (osc:=jaf jef) rfl rfl rfl (by decide +kernel)) (jih (jba jap jar (jab 0) jae)) (fun _ _ _ _=>(jdr (i:=0) (show (["_law_number","_law_many"]:List Str).Nodup from by decide +kernel))) (fun _ _ _ _=>jhx) (fun _ _ _ _=>(jal jdz jcx (jab 1) (jab 0)))) jad)) (jaa (jal jdz jcx (jab 1) (jba jap jar (jab 0) jae)) jad)))))
def jb7(T:Txt K mg):Cal P w K mg base 2 "_law_scaled" 2 jbf:=jb4 T.f_law_scaled jn5 (jkh T)
def jpo:FnScope ["_law_one","_law_other"] ["_law_one","_law_other"] (jaf je7):=.m rfl rfl rfl rfl (by decide +kernel)
def jgt:DSt->M D:=(f2 gCat (vR 0) (vR 1))
def jh1:DSt->M Out:=(gRet (fL jb2 (jac (fL kTuple (jac (jgx 2 [] (jf6 jgp (jac (f2 gIx (vR 0) (cI 0)) (jac (f2 gIx (vR 1) (cI 0)) fNil))) (jf1 0 1) tYes jgt) fNil)) (jac (f2 gCat (f2 gIx (vR 0) (cI 1)) (f2 gIx (vR 1) (cI 1))) fNil))))
def jcb:List D->M D:=mir 2 2 jh1
def jlp(T:Txt K mg):jdm P w K mg base 1 "_law_added" je7 ["_law_one","_law_other"] jh1:=fun _ _ _ _ _ _ _ hr=>
 (jah (jav (jbp (jaa (jbk jbr jdq rfl T.b_tuple jdo (jaa (jfy (own:=["_law_x","_law_y"]) (caps:=[]) rfl (jfc (N:=["_law_one","_law_other"]) (osc:=jaf je7) rfl rfl rfl (by decide +kernel)) (jAa rfl T.b_zip (jaa (jba jap jar (jab 0) jae) (jaa (jba jap jar (jab 1) jae) jad))) (fun _ _ _ _=>(ji6 (i:=0) (j:=1) rfl (show (["_law_x","_law_y"]:List Str).Nodup from by decide +kernel))) (fun _ _ _ _=>jhx) (fun _ _ _ _=>(jal jaj jak (jab 0) (jab 1)))) jad)) (jaa (jal jaj jak (jba jap jar (jab 0) jae) (jba jap jar (jab 1) jae)) jad)))))
def jdk(T:Txt K mg):Cal P w K mg base 2 "_law_added" 2 jcb:=jb4 T.f_law_added jpo (jlp T)
def sc_law_term:FnScope ["_law_names_here","_law_number","_law_cell","_law_one","_law_other","_law_value","_law_form","_law_way","_law_both"] ["_law_names_here","_law_number","_law_cell"] (jaf jhi):=.m rfl rfl rfl rfl (by decide +kernel)
def jfi:DSt->M Out:=(gSeq (gSet 3 (jay je4 (jac (vR 0) (jac (f2 jdf (vR 1) (cI 8)) (jac (vR 2) fNil)))))
  (gSeq (gSet 4 (jay je3 (jac (vR 0) (jac (f2 jdf (vR 1) (cI 64)) fNil))))
  (gSeq (gSet 5 (f2 gIx (f2 gIx (vR 3) (cI 1)) (cI 1)))
  (gSeq (gSet 6 (jay jbf (jac (f2 gIx (vR 4) (cI 1)) (jac (vR 5) fNil))))
  (gSeq (gSet 7 (f2 gMod (vR 1) (cI 8)))
  (gSeq (gIf (t2 gEq (vR 7) (cI 0)) (gRet (vR 3)) gNx)
  (gSeq (gIf (t2 gLt (vR 7) (cI 3)) (gRet (vR 4)) gNx)
  (gSeq (gIf (t2 gEq (vR 7) (cI 3)) (gRet (fL jb2 (jac (f2 gCat (f2 gCat (f2 gIx (vR 3) (cI 0)) (fL jaw (jac (cS "*") fNil))) (f2 gIx (vR 4) (cI 0))) (jac (vR 6) fNil)))) gNx)
  (gSeq (gIf (t2 gEq (vR 7) (cI 4)) (gRet (fL jb2 (jac (f2 gCat (f2 gCat (f2 gIx (vR 4) (cI 0)) (fL jaw (jac (cS "*") fNil))) (f2 gIx (vR 3) (cI 0))) (jac (vR 6) fNil)))) gNx)
  (gSeq (gIf (t2 gEq (vR 7) (cI 5)) (gRet (fL jb2 (jac (f2 gCat (f2 gCat (f2 gCat (f2 gCat (f2 gCat (f2 gCat (f2 gCat (fL jaw (jac (fC (.str "(")) fNil)) (f2 gIx (vR 4) (cI 0))) (fL jaw (jac (cS "-") fNil))) (f2 gIx (vR 4) (cI 0))) (fL jaw (jac (cS "+") fNil))) (f2 gIx (vR 3) (cI 0))) (fL jaw (jac (fC (.str ")")) (jac (cS "*") fNil)))) (f2 gIx (vR 4) (cI 0))) (jac (vR 6) fNil)))) gNx)
  (gSeq (gSet 8 (f2 gCat (f2 gCat (f2 gCat (f2 gCat (fL jaw (jac (fC (.str "(")) fNil)) (f2 gIx (vR 4) (cI 0))) (fL jaw (jac (cS "+") fNil))) (f2 gIx (vR 3) (cI 0))) (fL jaw (jac (fC (.str ")")) fNil))))
  (gSeq (gSet 6 (jay jcb (jac (f2 gIx (vR 4) (cI 1)) (jac (f2 gIx (vR 3) (cI 1)) fNil))))
  (gSeq (gIf (t2 gEq (vR 7) (cI 6)) (gRet (fL jb2 (jac (vR 8) (jac (vR 6) fNil)))) gNx)
  (gRet (fL jb2 (jac (f2 gCat (f2 gCat (vR 8) (fL jaw (jac (cS "*") (jac (cS "2") (jac (cS "*") fNil))))) (f2 gIx (vR 3) (cI 0))) (jac (jay jbf (jac (vR 6) (jac (f2 jdt (cI 2) (vR 5)) fNil))) fNil)))))))))))))))))
def jd5:List D->M D:=mir 3 9 jfi
def jms(T:Txt K mg):jdm P w K mg base 2 "_law_term" jhi ["_law_names_here","_law_number","_law_cell","_law_one","_law_other","_law_value","_law_form","_law_way","_law_both"] jfi:=fun _ _ _ _ _ _ _ hr=>
 (jag (ja5 (i:=3) sc_law_term.nd (jan (jo7 T) (hr.m rfl) (jaa (jab 0) (jaa (jal jcn jcp (jab 1) jae) (jaa (jab 2) jad)))))
  (jag (ja5 (i:=4) sc_law_term.nd (jan (jo5 T) (hr.m rfl) (jaa (jab 0) (jaa (jal jcn jcp (jab 1) jae) jad))))
  (jag (ja5 (i:=5) sc_law_term.nd (jba jap jar (jba jap jar (jab 3) jae) jae))
  (jag (ja5 (i:=6) sc_law_term.nd (jan (jb7 T) (hr.m rfl) (jaa (jba jap jar (jab 4) jae) (jaa (jab 5) jad))))
  (jag (ja5 (i:=7) sc_law_term.nd (jal jcw jbs (jab 1) jae))
  (jag (jcz (jax (jbh (hu30 hr)) jbi (jab 7) jae (jau _)) (jah (jav (jab 3))) ja2)
  (jag (jcz (jax jg3 jco (jab 7) jae (jau _)) (jah (jav (jab 4))) ja2)
  (jag (jcz (jax (jbh (hu30 hr)) jbi (jab 7) jae (jau _)) (jah (jav (jbp (jaa (jal jaj jak (jal jaj jak (jba jap jar (jab 3) jae) (jbv (jaa jaq jad))) (jba jap jar (jab 4) jae)) (jaa (jab 6) jad))))) ja2)
  (jag (jcz (jax (jbh (hu30 hr)) jbi (jab 7) jae (jau _)) (jah (jav (jbp (jaa (jal jaj jak (jal jaj jak (jba jap jar (jab 4) jae) (jbv (jaa jaq jad))) (jba jap jar (jab 3) jae)) (jaa (jab 6) jad))))) ja2)
  (jag (jcz (jax (jbh (hu30 hr)) jbi (jab 7) jae (jau _)) (jah (jav (jbp (jaa (jal jaj jak (jal jaj jak (jal jaj jak (jal jaj jak (jal jaj jak (jal jaj jak (jal jaj jak (jbv (jaa jaq jad)) (jba jap jar (jab 4) jae)) (jbv (jaa jaq jad))) (jba jap jar (jab 4) jae)) (jbv (jaa jaq jad))) (jba jap jar (jab 3) jae)) (jbv (jaa jaq (jaa jaq jad)))) (jba jap jar (jab 4) jae)) (jaa (jab 6) jad))))) ja2)
  (jag (ja5 (i:=8) sc_law_term.nd (jal jaj jak (jal jaj jak (jal jaj jak (jal jaj jak (jbv (jaa jaq jad)) (jba jap jar (jab 4) jae)) (jbv (jaa jaq jad))) (jba jap jar (jab 3) jae)) (jbv (jaa jaq jad))))
  (jag (ja5 (i:=6) sc_law_term.nd (jan (jdk T) (hr.m rfl) (jaa (jba jap jar (jab 4) jae) (jaa (jba jap jar (jab 3) jae) jad))))
  (jag (jcz (jax (jbh (hu30 hr)) jbi (jab 7) jae (jau _)) (jah (jav (jbp (jaa (jab 8) (jaa (jab 6) jad))))) ja2)
  (jah (jav (jbp (jaa (jal jaj jak (jal jaj jak (jab 8) (jbv (jaa jaq (jaa jaq (jaa jaq jad))))) (jba jap jar (jab 3) jae)) (jaa (jan (jb7 T) (hr.m rfl) (jaa (jab 6) (jaa (jal jdz jcx jae (jab 5)) jad))) jad))))))))))))))))))
def jk6(T:Txt K mg):Cal P w K mg base 3 "_law_term" 3 jd5:=jb4 T.f_law_term sc_law_term (jms T)
def sc_law_grown:FnScope ["_law_tree_here","_law_names_here","_law_number","_law_cell","_law_tokens","_law_form","_law_depth","_law_more","_law_extra","_law_way","_law_many","_law_inner"] ["_law_tree_here","_law_names_here","_law_number","_law_cell"] (jaf jgg):=.m rfl rfl rfl rfl (by decide +kernel)
def je0:DSt->M Out:=(gSeq (gAsg (jst 4 5 6) (vR 0))
  (gSeq (gAsg (jf1 7 8) (jay jd5 (jac (vR 1) (jac (f2 jdf (vR 2) (cI 16)) (jac (vR 3) fNil)))))
  (gSeq (gSet 9 (f2 gMod (vR 2) (cI 16)))
  (gSeq (gSet 10 (f2 gMod (f2 jdf (vR 2) (cI 16)) (cI 4)))
  (gSeq (gIf (DL.tOr (t2 gLt (vR 9) (cI 6)) (t2 gGt (vR 6) (cI 8))) (gRet (fL jb2 (jac (f2 gCat (f2 gCat (vR 4) (fL jaw (jac (cS "+") fNil))) (vR 7)) (jac (jay jcb (jac (vR 5) (jac (vR 8) fNil))) (jac (vR 6) fNil))))) gNx)
  (gSeq (gIf (t2 gLt (vR 9) (cI 9)) (gRet (fL jb2 (jac (f2 gCat (f2 gCat (vR 4) (fL jaw (jac (cS "-") fNil))) (vR 7)) (jac (jay jcb (jac (vR 5) (jac (jay jbf (jac (vR 8) (jac (f2 gSub (cI 0) (cI 1)) fNil))) fNil))) (jac (vR 6) fNil))))) gNx)
  (gSeq (gSet 11 (f2 gCat (f2 gCat (fL jaw (jac (fC (.str "(")) fNil)) (vR 4)) (fL jaw (jac (fC (.str ")")) fNil))))
  (gSeq (gIf (t2 gEq (vR 9) (cI 9)) (gRet (fL jb2 (jac (f2 gCat (vR 11) (fL jaw (jac (cS "*") (jac (fL kStr (jac (vR 10) fNil)) fNil)))) (jac (jay jbf (jac (vR 5) (jac (vR 10) fNil))) (jac (f2 gCat (vR 6) (cI 1)) fNil))))) gNx)
  (gSeq (gIf (t2 gEq (vR 9) (cI 10)) (gRet (fL jb2 (jac (f2 gCat (fL jaw (jac (fL kStr (jac (vR 10) fNil)) (jac (cS "*") fNil))) (vR 11)) (jac (jay jbf (jac (vR 5) (jac (vR 10) fNil))) (jac (f2 gCat (vR 6) (cI 1)) fNil))))) gNx)
  (gSeq (gIf (t2 gEq (vR 9) (cI 11)) (gRet (fL jb2 (jac (f2 gCat (fL jaw (jac (cS "-") fNil)) (vR 11)) (jac (jay jbf (jac (vR 5) (jac (f2 gSub (cI 0) (cI 1)) fNil))) (jac (f2 gCat (vR 6) (cI 1)) fNil))))) gNx)
  (gSeq (gIf (t2 gEq (vR 9) (cI 12)) (gRet (fL jb2 (jac (f2 gCat (f2 gCat (f2 gCat (fL jaw (jac (cS "-") fNil)) (vR 7)) (fL jaw (jac (cS "+") fNil))) (vR 11)) (jac (jay jcb (jac (vR 5) (jac (jay jbf (jac (vR 8) (jac (f2 gSub (cI 0) (cI 1)) fNil))) fNil))) (jac (f2 gCat (vR 6) (cI 1)) fNil))))) gNx)
  (gSeq (gIf (t2 gEq (vR 9) (cI 13)) (gRet (fL jb2 (jac (f2 gCat (f2 gCat (vR 7) (fL jaw (jac (cS "-") fNil))) (vR 11)) (jac (jay jcb (jac (vR 8) (jac (jay jbf (jac (vR 5) (jac (f2 gSub (cI 0) (cI 1)) fNil))) fNil))) (jac (f2 gCat (vR 6) (cI 1)) fNil))))) gNx)
  (gSeq (gIf (t2 gEq (vR 9) (cI 14)) (gRet (fL jb2 (jac (vR 11) (jac (vR 5) (jac (f2 gCat (vR 6) (cI 1)) fNil))))) gNx)
  (gRet (fL jb2 (jac (f2 gCat (f2 gCat (vR 7) (fL jaw (jac (cS "+") fNil))) (vR 11)) (jac (jay jcb (jac (vR 5) (jac (vR 8) fNil))) (jac (f2 gCat (vR 6) (cI 1)) fNil))))))))))))))))))
def jf8:List D->M D:=mir 4 12 je0
def jlr(T:Txt K mg):jdm P w K mg base 3 "_law_grown" jgg ["_law_tree_here","_law_names_here","_law_number","_law_cell","_law_tokens","_law_form","_law_depth","_law_more","_law_extra","_law_way","_law_many","_law_inner"] je0:=fun _ _ _ _ _ _ _ hr=>
 (jag (jrm (jab 0) (jul (i:=4) (j:=5) (l:=6) rfl sc_law_grown.nd))
  (jag (jrm (jan (jk6 T) (hr.m rfl) (jaa (jab 1) (jaa (jal jcn jcp (jab 2) jae) (jaa (jab 3) jad)))) (ji6 (i:=7) (j:=8) rfl sc_law_grown.nd))
  (jag (ja5 (i:=9) sc_law_grown.nd (jal jcw jbs (jab 2) jae))
  (jag (ja5 (i:=10) sc_law_grown.nd (jal jcw jbs (jal jcn jcp (jab 2) jae) jae))
  (jag (jcz (DW.dt (jus (jax jg3 jco (jab 9) jae (jau _)) (jut (jax jr1 jco (jab 6) jae (jau _))))) (jah (jav (jbp (jaa (jal jaj jak (jal jaj jak (jab 4) (jbv (jaa jaq jad))) (jab 7)) (jaa (jan (jdk T) (hr.m rfl) (jaa (jab 5) (jaa (jab 8) jad))) (jaa (jab 6) jad)))))) ja2)
  (jag (jcz (jax jg3 jco (jab 9) jae (jau _)) (jah (jav (jbp (jaa (jal jaj jak (jal jaj jak (jab 4) (jbv (jaa jaq jad))) (jab 7)) (jaa (jan (jdk T) (hr.m rfl) (jaa (jab 5) (jaa (jan (jb7 T) (hr.m rfl) (jaa (jab 8) (jaa (jal jpc jk9 jae jae) jad))) jad))) (jaa (jab 6) jad)))))) ja2)
  (jag (ja5 (i:=11) sc_law_grown.nd (jal jaj jak (jal jaj jak (jbv (jaa jaq jad)) (jab 4)) (jbv (jaa jaq jad))))
  (jag (jcz (jax (jbh (hu30 hr)) jbi (jab 9) jae (jau _)) (jah (jav (jbp (jaa (jal jaj jak (jab 11) (jbv (jaa jaq (jaa (jbk jgv jp1 rfl T.b_str jt0 (jaa (jab 10) jad)) jad)))) (jaa (jan (jb7 T) (hr.m rfl) (jaa (jab 5) (jaa (jab 10) jad))) (jaa (jal jaj jak (jab 6) jae) jad)))))) ja2)
  (jag (jcz (jax (jbh (hu30 hr)) jbi (jab 9) jae (jau _)) (jah (jav (jbp (jaa (jal jaj jak (jbv (jaa (jbk jgv jp1 rfl T.b_str jt0 (jaa (jab 10) jad)) (jaa jaq jad))) (jab 11)) (jaa (jan (jb7 T) (hr.m rfl) (jaa (jab 5) (jaa (jab 10) jad))) (jaa (jal jaj jak (jab 6) jae) jad)))))) ja2)
  (jag (jcz (jax (jbh (hu30 hr)) jbi (jab 9) jae (jau _)) (jah (jav (jbp (jaa (jal jaj jak (jbv (jaa jaq jad)) (jab 11)) (jaa (jan (jb7 T) (hr.m rfl) (jaa (jab 5) (jaa (jal jpc jk9 jae jae) jad))) (jaa (jal jaj jak (jab 6) jae) jad)))))) ja2)
  (jag (jcz (jax (jbh (hu30 hr)) jbi (jab 9) jae (jau _)) (jah (jav (jbp (jaa (jal jaj jak (jal jaj jak (jal jaj jak (jbv (jaa jaq jad)) (jab 7)) (jbv (jaa jaq jad))) (jab 11)) (jaa (jan (jdk T) (hr.m rfl) (jaa (jab 5) (jaa (jan (jb7 T) (hr.m rfl) (jaa (jab 8) (jaa (jal jpc jk9 jae jae) jad))) jad))) (jaa (jal jaj jak (jab 6) jae) jad)))))) ja2)
  (jag (jcz (jax (jbh (hu30 hr)) jbi (jab 9) jae (jau _)) (jah (jav (jbp (jaa (jal jaj jak (jal jaj jak (jab 7) (jbv (jaa jaq jad))) (jab 11)) (jaa (jan (jdk T) (hr.m rfl) (jaa (jab 8) (jaa (jan (jb7 T) (hr.m rfl) (jaa (jab 5) (jaa (jal jpc jk9 jae jae) jad))) jad))) (jaa (jal jaj jak (jab 6) jae) jad)))))) ja2)
  (jag (jcz (jax (jbh (hu30 hr)) jbi (jab 9) jae (jau _)) (jah (jav (jbp (jaa (jab 11) (jaa (jab 5) (jaa (jal jaj jak (jab 6) jae) jad)))))) ja2)
  (jah (jav (jbp (jaa (jal jaj jak (jal jaj jak (jab 7) (jbv (jaa jaq jad))) (jab 11)) (jaa (jan (jdk T) (hr.m rfl) (jaa (jab 5) (jaa (jab 8) jad))) (jaa (jal jaj jak (jab 6) jae) jad)))))))))))))))))))
def jo4(T:Txt K mg):Cal P w K mg base 4 "_law_grown" 4 jf8:=jb4 T.f_law_grown sc_law_grown (jlr T)
def sc_law_tree:FnScope ["_law_script","_law_names_here","_law_first_here","_law_last","_law_tokens","_law_form","_law_tree_here","_law_cell"] ["_law_script","_law_names_here","_law_first_here","_law_last"] (jaf jhj):=.m rfl rfl rfl rfl (by decide +kernel)
def jfw:DSt->M Out:=(gSet 6 (jay jf8 (jac (vR 6) (jac (vR 1) (jac (jay jb6 (jac (vR 7) (jac (cI 4) fNil))) (jac (vR 7) fNil))))))
def jhc:DSt->M Out:=(gSeq (gAsg (jf1 4 5) (jay jd5 (jac (vR 1) (jac (jay jb6 (jac (jay jdw (jac (vR 0) (jac (cI 1) fNil))) (jac (cI 3) fNil))) (jac (jay jdw (jac (vR 0) (jac (cI 1) fNil))) fNil)))))
  (gSeq (gSet 6 (fL jb2 (jac (vR 4) (jac (vR 5) (jac (cI 1) fNil)))))
  (gSeq (gFor (jil (fSl (vR 0) (jcv (vR 2)) (jcv (vR 3)))) (DL.gName 7) jfw)
  (gRet (vR 6)))))
def jhf:List D->M D:=mir 4 8 jhc
def jmt(T:Txt K mg):jdm P w K mg base 4 "_law_tree" jhj ["_law_script","_law_names_here","_law_first_here","_law_last","_law_tokens","_law_form","_law_tree_here","_law_cell"] jhc:=fun _ _ _ _ _ _ _ hr=>
 (jag (jrm (jan (jk6 T) (hr.m rfl) (jaa (jab 1) (jaa (jan (jd6 T) (hr.m rfl) (jaa (jan (jit T) (hr.m rfl) (jaa (jab 0) (jaa jae jad))) (jaa jae jad))) (jaa (jan (jit T) (hr.m rfl) (jaa (jab 0) (jaa jae jad))) jad)))) (ji6 (i:=4) (j:=5) rfl sc_law_tree.nd))
  (jag (ja5 (i:=6) sc_law_tree.nd (jbp (jaa (jab 4) (jaa (jab 5) (jaa jae jad)))))
  (jag (jma PassesOwn.never rfl (jih (jf0 (jab 0) (jeh (jab 2)) (jeh (jab 3)))) (jdr (i:=7) sc_law_tree.nd) (jah (ja5 (i:=6) sc_law_tree.nd (jan (jo4 T) (hr.m rfl) (jaa (jab 6) (jaa (jab 1) (jaa (jan (jd6 T) (hr.m rfl) (jaa (jab 7) (jaa jae jad))) (jaa (jab 7) jad))))))))
  (jah (jav (jab 6))))))
def jqk(T:Txt K mg):Cal P w K mg base 5 "_law_tree" 4 jhf:=jb4 T.f_law_tree sc_law_tree (jmt T)
def sc_law_written:FnScope ["_law_tokens","_law_number","_law_written_here","_law_k"] ["_law_tokens","_law_number"] (jaf jes):=.m rfl rfl rfl rfl (by decide +kernel)
def jd8:DSt->M Out:=(gSet 2 (f2 gCat (f2 gCat (vR 2) (f2 jdt (fC (.str " ")) (f2 gIx (fL jaw (jac (cI 0) (jac (cI 0) (jac (cI 1) (jac (cI 1) (jac (cI 0) (jac (cI 2) fNil))))))) (f2 gMod (jay jb6 (jac (vR 1) (jac (vR 3) fNil))) (cI 6))))) (f2 gIx (vR 0) (vR 3))))
def jen:DSt->M Out:=(gSeq (gSet 2 (cS ""))
  (gSeq (gFor (jf6 jb1 (jac (fL kLen (jac (vR 0) fNil)) fNil)) (DL.gName 3) jd8)
  (gRet (f2 gCat (vR 2) (f2 jdt (fC (.str " ")) (f2 jdf (f2 gMod (vR 1) (cI 7)) (cI 5)))))))
def jep:List D->M D:=mir 2 4 jen
def jjy(T:Txt K mg):jdm P w K mg base 2 "_law_written" jes ["_law_tokens","_law_number","_law_written_here","_law_k"] jen:=fun _ _ _ _ _ _ _ hr=>
 (jag (ja5 (i:=2) sc_law_written.nd jaq)
  (jag (jma PassesOwn.never rfl (jha rfl T.b_range (jaa (ja8 jbe jcj rfl T.b_len jdn (jaa (jab 0) jad)) jad)) (jdr (i:=3) sc_law_written.nd) (jah (ja5 (i:=2) sc_law_written.nd (jal jaj jak (jal jaj jak (jab 2) (jal jdz jcx jaq (jba jap jar (jbv (jaa jae (jaa jae (jaa jae (jaa jae (jaa jae (jaa jae jad))))))) (jal jcw jbs (jan (jd6 T) (hr.m rfl) (jaa (jab 1) (jaa (jab 3) jad))) jae)))) (jba jap jar (jab 0) (jab 3))))))
  (jah (jav (jal jaj jak (jab 2) (jal jdz jcx jaq (jal jcn jcp (jal jcw jbs (jab 1) jae) jae)))))))
def jl5(T:Txt K mg):Cal P w K mg base 3 "_law_written" 2 jep:=jb4 T.f_law_written sc_law_written (jjy T)
def sc_law_first:FnScope ["_law_written_here","_law_listed","_law_k","_law_end"] ["_law_written_here","_law_listed"] (jaf jgf):=.m rfl rfl rfl rfl (by decide +kernel)
def jdl:DSt->M Bool:=(DL.tAnd (t2 gLt (vR 3) (fL kLen (jac (vR 0) fNil))) (t2 gInS (f2 gIx (vR 0) (vR 3)) (cS "abcdefghijklmnopqrstuvwxyz")))
def je9:DSt->M Out:=(gSet 3 (f2 gCat (vR 3) (cI 1)))
def jbd:DSt->M Bool:=(t2 gLt (vR 2) (fL kLen (jac (vR 0) fNil)))
def jbt:DSt->M Out:=(gSeq (gSet 3 (vR 2))
  (gSeq (jbo jdl je9 FUEL)
  (gSeq (gIf (DL.tAnd (t2 gGt (vR 3) (vR 2)) (t2 jey (fSl (vR 0) (jcv (vR 2)) (jcv (vR 3))) (vR 1))) (gRet (fL jb2 (jac (fSl (vR 0) (jcv (vR 2)) (jcv (vR 3))) (jac (vR 2) fNil)))) gNx)
  (gSet 2 (fL kMax (jac (vR 3) (jac (f2 gCat (vR 2) (cI 1)) fNil)))))))
def jh2:DSt->M Out:=(gSeq (gSet 2 (cI 0))
  (gSeq (jbo jbd jbt FUEL)
  (gRet (fC .non))))
def jf7:List D->M D:=mir 2 4 jh2
def jlq(T:Txt K mg):jdm P w K mg base 1 "_law_first" jgf ["_law_written_here","_law_listed","_law_k","_law_end"] jh2:=fun _ _ _ _ _ _ _ hr=>
 (jag (ja5 (i:=2) sc_law_first.nd jae)
  (jag (jii (fuel:=FUEL) PassesOwn.never (jax jg3 jco (jab 2) (ja8 jbe jcj rfl T.b_len jdn (jaa (jab 0) jad)) (jau _)) (jag (ja5 (i:=3) sc_law_first.nd (jab 2))
  (jag (jii (fuel:=FUEL) PassesOwn.never (DW.dt (jjq (jax jg3 jco (jab 3) (ja8 jbe jcj rfl T.b_len jdn (jaa (jab 0) jad)) (jau _)) (jhy (jax jwa jDi (jba jap jar (jab 0) (jab 3)) jaq rfl)))) (jah (ja5 (i:=3) sc_law_first.nd (jal jaj jak (jab 3) jae))))
  (jag (jcz (DW.dt (jjq (jax jr1 jco (jab 3) (jab 2) (jau _)) (jhy (jax jfa jiu (jf0 (jab 0) (jeh (jab 2)) (jeh (jab 3))) (jab 1) rfl)))) (jah (jav (jbp (jaa (jf0 (jab 0) (jeh (jab 2)) (jeh (jab 3))) (jaa (jab 2) jad))))) ja2)
  (jah (ja5 (i:=2) sc_law_first.nd (ja8 (jt4 rfl) jB0 rfl T.b_max jE6 (jaa (jab 3) (jaa (jal jaj jak (jab 2) jae) jad)))))))))
  (jah (jav jl9))))
def jo3(T:Txt K mg):Cal P w K mg base 2 "_law_first" 2 jf7:=jb4 T.f_law_first sc_law_first (jlq T)
def jpn:FnScope ["sign"] ["sign"] (jaf jge):=.m rfl rfl rfl rfl (by decide +kernel)
def jh0:DSt->M Out:=(gRet (jos gLe gLe (cS "a") (vR 0) (cS "z")))
def jbq:List D->M D:=mir 1 1 jh0
def jlo(T:Txt K mg):jdm P w K mg base 1 "is_letter" jge ["sign"] jh0:=fun _ _ _ _ _ _ _ hr=>
 (jah (jav (jri jr2 jco jr2 jco jaq (jab 0) jaq)))
def jee(T:Txt K mg):Cal P w K mg base 2 "is_letter" 1 jbq:=jb4 T.f_is_letter jpn (jlo T)
def jpm:FnScope ["sign"] ["sign"] (jaf jgd):=.m rfl rfl rfl rfl (by decide +kernel)
def jhz:DSt->M Out:=(gRet (jos gLe gLe (cS "0") (vR 0) (cS "9")))
def jc4:List D->M D:=mir 1 1 jhz
def jln(T:Txt K mg):jdm P w K mg base 1 "is_figure" jgd ["sign"] jhz:=fun _ _ _ _ _ _ _ hr=>
 (jah (jav (jri jr2 jco jr2 jco jaq (jab 0) jaq)))
def jg2(T:Txt K mg):Cal P w K mg base 2 "is_figure" 1 jc4:=jb4 T.f_is_figure jpm (jln T)
def sc_end_of_piece:FnScope ["text","place","end"] ["text","place"] (jaf jeb):=.m rfl rfl rfl rfl (by decide +kernel)
def jbl:DSt->M Bool:=(DL.tAnd (t2 gLt (vR 2) (fL kLen (jac (vR 0) fNil))) (DL.tAnd (tTru (jay jbq (jac (f2 gIx (vR 0) (vR 2)) fNil))) (t2 gLt (f2 gSub (vR 2) (vR 1)) (cI 10))))
def jc0:DSt->M Out:=(gAug 2 gAdd (cI 1))
def jbn:DSt->M Bool:=(DL.tAnd (t2 gLt (vR 2) (fL kLen (jac (vR 0) fNil))) (tTru (jay jc4 (jac (f2 gIx (vR 0) (vR 2)) fNil))))
def jc1:DSt->M Out:=(gAug 2 gAdd (cI 1))
def jd9:DSt->M Out:=(gSeq (gSet 2 (f2 gCat (vR 1) (cI 1)))
  (gSeq (gIf (tTru (jay jbq (jac (f2 gIx (vR 0) (vR 1)) fNil))) (jbo jbl jc0 FUEL) (gIf (DL.tAnd (tTru (jay jc4 (jac (f2 gIx (vR 0) (vR 1)) fNil))) (t2 gNe (f2 gIx (vR 0) (vR 1)) (cS "0"))) (jbo jbn jc1 FUEL) gNx))
  (gRet (vR 2))))
def jct:List D->M D:=mir 2 3 jd9
def ji3(T:Txt K mg):jdm P w K mg base 2 "end_of_piece" jeb ["text","place","end"] jd9:=fun _ _ _ _ _ _ _ hr=>
 (jag (ja5 (i:=2) sc_end_of_piece.nd (jal jaj jak (jab 1) jae))
  (jag (jcz (jff (jan (jee T) (hr.m rfl) (jaa (jba jap jar (jab 0) (jab 1)) jad))) (jah (jii (fuel:=FUEL) PassesOwn.never (DW.dt (jjq (jax jg3 jco (jab 2) (ja8 jbe jcj rfl T.b_len jdn (jaa (jab 0) jad)) (jau _)) (jjq (jff (jan (jee T) (hr.m rfl) (jaa (jba jap jar (jab 0) (jab 2)) jad))) (jhy (jax jg3 jco (jal jpc jk9 (jab 2) (jab 1)) (jig rfl T.g_NAME_LENGTH.choose_spec) (jau _)))))) (jah (juo (i:=2) sc_end_of_piece.nd (iop_add.or jh5) jqm jae)))) (jah (jcz (DW.dt (jjq (jff (jan (jg2 T) (hr.m rfl) (jaa (jba jap jar (jab 0) (jab 1)) jad))) (jhy (jax (jpb (hu30 hr)) jpd (jba jap jar (jab 0) (jab 1)) jaq (jau _))))) (jah (jii (fuel:=FUEL) PassesOwn.never (DW.dt (jjq (jax jg3 jco (jab 2) (ja8 jbe jcj rfl T.b_len jdn (jaa (jab 0) jad)) (jau _)) (jhy (jff (jan (jg2 T) (hr.m rfl) (jaa (jba jap jar (jab 0) (jab 2)) jad)))))) (jah (juo (i:=2) sc_end_of_piece.nd (iop_add.or jh5) jqm jae)))) ja2)))
  (jah (jav (jab 2)))))
def jk3(T:Txt K mg):Cal P w K mg base 3 "end_of_piece" 2 jct:=jb4 T.f_end_of_piece sc_end_of_piece (ji3 T)
def jpq:FnScope ["sign","wanted","depth"] ["sign","wanted","depth"] (jaf jgk):=.m rfl rfl rfl rfl (by decide +kernel)
def jd4:DSt->M Out:=(gSeq (gIf (t2 gEq (vR 1) (cS "behind")) (gRet (fOr (f2 gIn (vR 0) (fL jb2 (jac (cS "+") (jac (cS "-") (jac (cS "*") fNil))))) (fAnd (f2 gEq (vR 0) (fC (.str ")"))) (f2 gGt (vR 2) (cI 0))))) gNx)
  (gSeq (gIf (t2 gEq (vR 0) (cS "-")) (gRet (f2 gEq (vR 1) (cS "beginning"))) gNx)
  (gRet (fOr (f2 gEq (vR 0) (fC (.str "("))) (fOr (jay jbq (jac (vR 0) fNil)) (jay jc4 (jac (vR 0) fNil)))))))
def jbb:List D->M D:=mir 3 3 jd4
def jlw(T:Txt K mg):jdm P w K mg base 2 "may_stand" jgk ["sign","wanted","depth"] jd4:=fun _ _ _ _ _ _ _ hr=>
 (jag (jcz (jax (jbh (hu30 hr)) jbi (jab 1) (jfz rfl T.g_BEHIND.choose_spec) (jau _)) (jah (jav (jCa (jjp jk8 jwd (jab 0) (jbp (jaa jaq (jaa jaq (jaa jaq jad)))) rfl) (jrj (jz8 (jjp (jbh (hu30 hr)) jbi (jab 0) jaq (jau _)) (jrj (jjp jr1 jco (jab 2) jae (jau _)))))))) ja2)
  (jag (jcz (jax (jbh (hu30 hr)) jbi (jab 0) jaq (jau _)) (jah (jav (jjp (jbh (hu30 hr)) jbi (jab 1) (jfz rfl T.g_BEGINNING.choose_spec) (jau _)))) ja2)
  (jah (jav (jCa (jjp (jbh (hu30 hr)) jbi (jab 0) jaq (jau _)) (jCa (jan (jee T) (hr.m rfl) (jaa (jab 0) jad)) (jrj (jan (jg2 T) (hr.m rfl) (jaa (jab 0) jad)))))))))
def jo8(T:Txt K mg):Cal P w K mg base 3 "may_stand" 3 jbb:=jb4 T.f_may_stand jpq (jlw T)
def jqv:FnScope ["word"] ["word"] (jaf jhg):=.m rfl rfl rfl rfl (by decide +kernel)
def ji9:DSt->M Out:=(gSeq (gIf (t2 gEq (vR 0) (fC (.str "("))) (gRet (cI 1)) gNx)
  (gRet (fIf (t2 gEq (vR 0) (fC (.str ")"))) (f1 gNeg (cI 1)) (cI 0))))
def jfn:List D->M D:=mir 1 1 ji9
def jmp(T:Txt K mg):jdm P w K mg base 1 "depth_by" jhg ["word"] ji9:=fun _ _ _ _ _ _ _ hr=>
 (jag (jcz (jax (jbh (hu30 hr)) jbi (jab 0) jaq (jau _)) (jah (jav jae)) ja2)
  (jah (jav (joq (jax (jbh (hu30 hr)) jbi (jab 0) jaq (jau _)) (jm5 ji2 jgn jae) jae))))
def jqi(T:Txt K mg):Cal P w K mg base 2 "depth_by" 1 jfn:=jb4 T.f_depth_by jqv (jmp T)
def jj4:FnScope ["word"] ["word"] (jaf jd1):=.m rfl rfl rfl rfl (by decide +kernel)
def je1:DSt->M Out:=(gSeq (gIf (t2 gEq (vR 0) (fC (.str "("))) (gRet (cS "beginning")) gNx)
  (gRet (fIf (t2 gIn (vR 0) (fL jb2 (jac (cS "+") (jac (cS "-") (jac (cS "*") fNil))))) (cS "factor") (cS "behind"))))
def jc6:List D->M D:=mir 1 1 je1
def jic(T:Txt K mg):jdm P w K mg base 1 "wanted_behind" jd1 ["word"] je1:=fun _ _ _ _ _ _ _ hr=>
 (jag (jcz (jax (jbh (hu30 hr)) jbi (jab 0) jaq (jau _)) (jah (jav (jfz rfl T.g_BEGINNING.choose_spec))) ja2)
  (jah (jav (joq (jax jk8 jwd (jab 0) (jbp (jaa jaq (jaa jaq (jaa jaq jad)))) rfl) (jfz rfl T.g_FACTOR.choose_spec) (jfz rfl T.g_BEHIND.choose_spec)))))
def jj1(T:Txt K mg):Cal P w K mg base 2 "wanted_behind" 1 jc6:=jb4 T.f_wanted_behind jj4 (jic T)
def sc_pieces_of:FnScope ["text","pieces","depth","wanted","place","end","word"] ["text"] (jaf jgm):=.m rfl rfl rfl rfl (by decide +kernel)
def jbm:DSt->M Bool:=(t2 gLt (vR 4) (fL kLen (jac (vR 0) fNil)))
def jbj:DSt->M Out:=(gSeq (gSet 5 (jay jct (jac (vR 0) (jac (vR 4) fNil))))
  (gSeq (gSet 6 (fSl (vR 0) (jcv (vR 4)) (jcv (vR 5))))
  (gSeq (gIf (t2 gNe (vR 6) (fC (.str " "))) (gSeq (gIf (DL.tNot (tTru (jay jbb (jac (f2 gIx (vR 6) (cI 0)) (jac (vR 3) (jac (vR 2) fNil)))))) jmc gNx)
  (gSeq (gApp 1 (fL jb2 (jac (vR 6) (jac (vR 4) fNil))))
  (gSeq (gAug 2 gAdd (jay jfn (jac (vR 6) fNil)))
  (gSet 3 (jay jc6 (jac (vR 6) fNil)))))) gNx)
  (gSet 4 (vR 5)))))
def jh4:DSt->M Out:=(gSeq (gSet 1 (fL jaw fNil))
  (gSeq (gSet 2 (cI 0))
  (gSeq (gSet 3 (cS "beginning"))
  (gSeq (gSet 4 (cI 0))
  (gSeq (jbo jbm jbj FUEL)
  (gSeq (gIf (DL.tOr (t2 gNe (vR 3) (cS "behind")) (t2 gGt (vR 2) (cI 0))) jmc gNx)
  (gRet (vR 1))))))))
def jgb:List D->M D:=mir 1 7 jh4
def jly(T:Txt K mg):jdm P w K mg base 3 "pieces_of" jgm ["text","pieces","depth","wanted","place","end","word"] jh4:=fun _ _ _ _ _ _ _ hr=>
 (jag (jup (i:=1) sc_pieces_of.nd jad)
  (jag (ja5 (i:=2) sc_pieces_of.nd jae)
  (jag (ja5 (i:=3) sc_pieces_of.nd (jfz rfl T.g_BEGINNING.choose_spec))
  (jag (ja5 (i:=4) sc_pieces_of.nd jae)
  (jag (jii (fuel:=FUEL) PassesOwn.never (jax jg3 jco (jab 4) (ja8 jbe jcj rfl T.b_len jdn (jaa (jab 0) jad)) (jau _)) (jag (ja5 (i:=5) sc_pieces_of.nd (jan (jk3 T) (hr.m rfl) (jaa (jab 0) (jaa (jab 4) jad))))
  (jag (ja5 (i:=6) sc_pieces_of.nd (jf0 (jab 0) (jeh (jab 4)) (jeh (jab 5))))
  (jag (jcz (jax (jpb (hu30 hr)) jpd (jab 6) jaq (jau _)) (jag (jcz (jrn (jff (jan (jo8 T) (hr.m rfl) (jaa (jba jap jar (jab 6) jae) (jaa (jab 3) (jaa (jab 2) jad)))))) (jah jm6) ja2)
  (jag (jrl (i:=1) rfl (jbp (jaa (jab 6) (jaa (jab 4) jad))))
  (jag (juo (i:=2) sc_pieces_of.nd (iop_add.or jh5) jqm (jan (jqi T) (hr.m rfl) (jaa (jab 6) jad)))
  (jah (ja5 (i:=3) sc_pieces_of.nd (jan (jj1 T) (hr.m rfl) (jaa (jab 6) jad))))))) ja2)
  (jah (ja5 (i:=4) sc_pieces_of.nd (jab 5)))))))
  (jag (jcz (DW.dt (jus (jax (jpb (hu30 hr)) jpd (jab 3) (jfz rfl T.g_BEHIND.choose_spec) (jau _)) (jut (jax jr1 jco (jab 2) jae (jau _))))) (jah jm6) ja2)
  (juq (O':=[]) (by decide) (jah (jav (jab 1))))))))))
def jpa(T:Txt K mg):Cal P w K mg base 4 "pieces_of" 1 jgb:=jb4 T.f_pieces_of sc_pieces_of (jly T)
def jj2:FnScope ["self","name","place"] ["self","name","place"] (jaf jch):=.m rfl rfl rfl rfl (by decide +kernel)
def jdu:DSt->MS Out:=(eSeq (jsq xcs "name" (lF (vR 0)) (lF (vR 1)))
  (jsq xcs "place" (lF (vR 0)) (lF (vR 2))))
def jcf:List D->MS D:=mirE 3 3 jdu
def jia(T:Txt K mg):jod P w K mg base 1 "NoName.__init__" jch ["self","name","place"] jdu:=fun _ _ _ _ _ _ _ hr=>
 (ja0 (jvx T.errs rfl (jat (jab 0)) (jat (jab 1)))
  (jb0 (jvx T.errs rfl (jat (jab 0)) (jat (jab 2)))))
def jj0(T:Txt K mg):IniXE P w K mg base 2 "NoName" 3 jcf:=jyh T.f_NoName_init__ jj2 (jia T) (by decide)
def jjj:FnScope ["self","width"] ["self","width"] (jaf jb3):=.m rfl rfl rfl rfl (by decide +kernel)
def jei:DSt->MS Out:=(eSeq (ePut ["OpenSum"] "total" (lF (vR 0)) (lF (fL jb2 (jac (fL kTuple (jac (fRep (jac (cI 0) fNil) (vR 1)) fNil)) (jac (cI 0) fNil)))))
  (eSeq (ePut ["OpenSum"] "term" (lF (vR 0)) (mGet ["OpenSum"] "total" (lF (vR 0))))
  (eSeq (ePut ["OpenSum"] "term_sign" (lF (vR 0)) (lF (cI 1)))
  (ePut ["OpenSum"] "star" (lF (vR 0)) (lF (fC .non))))))
def ja4:List D->MS D:=mirE 2 2 jei
def jhv(T:Txt K mg):jod P w K mg base 1 "OpenSum.__init__" jb3 ["self","width"] jei:=fun _ _ _ _ _ _ _ hr=>
 (ja0 (jhs (T.c_OpenSum.is (by decide +kernel)) (jat (jab 0)) (jat (jbp (jaa (jbk jbr jdq rfl T.b_tuple jdo (jaa (juj (jaa jae jad) (jab 1)) jad)) (jaa jae jad)))))
  (ja0 (jhs (T.c_OpenSum.is (by decide +kernel)) (jat (jab 0)) (jky (T.c_OpenSum.is (by decide +kernel)) (jat (jab 0))))
  (ja0 (jhs (T.c_OpenSum.is (by decide +kernel)) (jat (jab 0)) (jat jae))
  (jb0 (jhs (T.c_OpenSum.is (by decide +kernel)) (jat (jab 0)) (jat jl9))))))
def jfr(T:Txt K mg):IniE P w K mg base 2 "OpenSum" 2 ja4:=jCx T.f_OpenSum_init__ jjj (jhv T)
def jzn:FnScope ["form","number"] ["form","number"] (jaf jlb):=.m rfl rfl rfl rfl (by decide +kernel)
def jmz:DSt->M D:=(f2 jdt (vR 0) (vR 1))
def jp5:DSt->M Out:=(gRet (fL jb2 (jac (fL kTuple (jac (jgx 1 [("number",1)] (jil (f2 gIx (vR 0) (cI 0))) (DL.gName 0) tYes jmz) fNil)) (jac (f2 jdt (f2 gIx (vR 0) (cI 1)) (vR 1)) fNil))))
def jjd:List D->M D:=mir 2 2 jp5
def jsn(T:Txt K mg):jdm P w K mg base 1 "times" jlb ["form","number"] jp5:=fun _ _ _ _ _ _ _ hr=>
 (jah (jav (jbp (jaa (jbk jbr jdq rfl T.b_tuple jdo (jaa (jfy (own:=["coefficient"]) (caps:=[("number",1)]) rfl (jfc (N:=["form","number"]) (osc:=jaf jlb) rfl rfl rfl (by decide +kernel)) (jih (jba jap jar (jab 0) jae)) (fun _ _ _ _=>(jdr (i:=0) (show (["coefficient","number"]:List Str).Nodup from by decide +kernel))) (fun _ _ _ _=>jhx) (fun _ _ _ _=>(jal jdz jcx (jab 0) (jab 1)))) jad)) (jaa (jal jdz jcx (jba jap jar (jab 0) jae) (jab 1)) jad)))))
def jnv(T:Txt K mg):Cal P w K mg base 2 "times" 2 jjd:=jb4 T.f_times jzn (jsn T)
def jqw:FnScope ["form"] ["form"] (jaf jft):=.m rfl rfl rfl rfl (by decide +kernel)
def jhw:DSt->M D:=(f2 gEq (vR 0) (cI 0))
def jja:DSt->M Out:=(gRet (fL kAll (jac (jgx 1 [] (jil (f2 gIx (vR 0) (cI 0))) (DL.gName 0) tYes jhw) fNil)))
def jfo:List D->M D:=mir 1 1 jja
def jmq(T:Txt K mg):jdm P w K mg base 1 "is_plain" jft ["form"] jja:=fun _ _ _ _ _ _ _ hr=>
 (jah (jav (ja8 (jt2 rfl) jBz rfl T.b_all jE5 (jaa (jfy (own:=["coefficient"]) (caps:=[]) rfl (jfc (N:=["form"]) (osc:=jaf jft) rfl rfl rfl (by decide +kernel)) (jih (jba jap jar (jab 0) jae)) (fun _ _ _ _=>(jdr (i:=0) (show (["coefficient"]:List Str).Nodup from by decide +kernel))) (fun _ _ _ _=>jhx) (fun _ _ _ _=>(jjp (jbh (hu30 hr)) jbi (jab 0) jae (jau _)))) jad))))
def jk5(T:Txt K mg):Cal P w K mg base 2 "is_plain" 1 jfo:=jb4 T.f_is_plain jqw (jmq T)
def jtc:FnScope ["left","right","place"] ["left","right","place"] (jaf jiy):=.m rfl rfl rfl rfl (by decide +kernel)
def jkr:DSt->M Out:=(gSeq (gIf (tTru (jay jfo (jac (vR 1) fNil))) (gRet (jay jjd (jac (vR 0) (jac (f2 gIx (vR 1) (cI 1)) fNil)))) gNx)
  (gSeq (gIf (tTru (jay jfo (jac (vR 0) fNil))) (gRet (jay jjd (jac (vR 1) (jac (f2 gIx (vR 0) (cI 1)) fNil)))) gNx)
  jmc))
def jio:List D->M D:=mir 3 3 jkr
def jok(T:Txt K mg):jdm P w K mg base 2 "product" jiy ["left","right","place"] jkr:=fun _ _ _ _ _ _ _ hr=>
 (jag (jcz (jff (jan (jk5 T) (hr.m rfl) (jaa (jab 1) jad))) (jah (jav (jan (jnv T) (hr.m rfl) (jaa (jab 0) (jaa (jba jap jar (jab 1) jae) jad))))) ja2)
  (jag (jcz (jff (jan (jk5 T) (hr.m rfl) (jaa (jab 0) jad))) (jah (jav (jan (jnv T) (hr.m rfl) (jaa (jab 1) (jaa (jba jap jar (jab 0) jae) jad))))) ja2)
  (jah jm6)))
def js3(T:Txt K mg):Cal P w K mg base 3 "product" 3 jio:=jb4 T.f_product jtc (jok T)
def jgs:FnScope ["self","form"] ["self","form"] (jaf jbc):=.m rfl rfl rfl rfl (by decide +kernel)
def jc3:DSt->MS Out:=(eIf (mB (m2 gIs (mGet ["OpenSum"] "star" (lF (vR 0))) (lF (fC .non)))) (ePut ["OpenSum"] "term" (lF (vR 0)) (jin jjd (jfm (lF (vR 1)) (jfm (mGet ["OpenSum"] "term_sign" (lF (vR 0))) (lF fNil))))) (ePut ["OpenSum"] "term" (lF (vR 0)) (jin jio (jfm (mGet ["OpenSum"] "term" (lF (vR 0))) (jfm (lF (vR 1)) (jfm (mGet ["OpenSum"] "star" (lF (vR 0))) (lF fNil)))))))
def ja3:List D->MS D:=mirE 2 2 jc3
def jfe(T:Txt K mg):jod P w K mg base 3 "OpenSum.take_factor" jbc ["self","form"] jc3:=fun _ _ _ _ _ _ _ hr=>
 (jb0 (jnq (jGi jGq jGt (jky (T.c_OpenSum.is (by decide +kernel)) (jat (jab 0))) (jat jl9) (jau _)) (jb0 (jhs (T.c_OpenSum.is (by decide +kernel)) (jat (jab 0)) (jip (jnv T) (hr.m rfl) (je5 (jat (jab 1)) (je5 (jky (T.c_OpenSum.is (by decide +kernel)) (jat (jab 0))) (jc7 jad)))))) (jb0 (jhs (T.c_OpenSum.is (by decide +kernel)) (jat (jab 0)) (jip (js3 T) (hr.m rfl) (je5 (jky (T.c_OpenSum.is (by decide +kernel)) (jat (jab 0))) (je5 (jat (jab 1)) (je5 (jky (T.c_OpenSum.is (by decide +kernel)) (jat (jab 0))) (jc7 jad)))))))))
def jd2(T:Txt K mg):MetE P w K mg base 4 "OpenSum" "take_factor" 2 ja3:=jqe T.f_OpenSum_take_factor jgs (jfe T)
def jzm:FnScope ["left","right"] ["left","right"] (jaf jla):=.m rfl rfl rfl rfl (by decide +kernel)
def jmy:DSt->M D:=(f2 gCat (vR 0) (vR 1))
def jp4:DSt->M Out:=(gRet (fL jb2 (jac (fL kTuple (jac (jgx 2 [] (jf6 jgp (jac (f2 gIx (vR 0) (cI 0)) (jac (f2 gIx (vR 1) (cI 0)) fNil))) (jf1 0 1) tYes jmy) fNil)) (jac (f2 gCat (f2 gIx (vR 0) (cI 1)) (f2 gIx (vR 1) (cI 1))) fNil))))
def jnm:List D->M D:=mir 2 2 jp4
def jsm(T:Txt K mg):jdm P w K mg base 1 "added" jla ["left","right"] jp4:=fun _ _ _ _ _ _ _ hr=>
 (jah (jav (jbp (jaa (jbk jbr jdq rfl T.b_tuple jdo (jaa (jfy (own:=["a","b"]) (caps:=[]) rfl (jfc (N:=["left","right"]) (osc:=jaf jla) rfl rfl rfl (by decide +kernel)) (jAa rfl T.b_zip (jaa (jba jap jar (jab 0) jae) (jaa (jba jap jar (jab 1) jae) jad))) (fun _ _ _ _=>(ji6 (i:=0) (j:=1) rfl (show (["a","b"]:List Str).Nodup from by decide +kernel))) (fun _ _ _ _=>jhx) (fun _ _ _ _=>(jal jaj jak (jab 0) (jab 1)))) jad)) (jaa (jal jaj jak (jba jap jar (jab 0) jae) (jba jap jar (jab 1) jae)) jad)))))
def jyz(T:Txt K mg):Cal P w K mg base 2 "added" 2 jnm:=jb4 T.f_added jzm (jsm T)
def jj3:FnScope ["self"] ["self"] (jaf jci):=.m rfl rfl rfl rfl (by decide +kernel)
def jez:DSt->MS Out:=(eRet (jin jnm (jfm (mGet ["OpenSum"] "total" (lF (vR 0))) (jfm (mGet ["OpenSum"] "term" (lF (vR 0))) (lF fNil)))))
def ja9:List D->MS D:=mirE 1 1 jez
def jib(T:Txt K mg):jod P w K mg base 2 "OpenSum.whole" jci ["self"] jez:=fun _ _ _ _ _ _ _ hr=>
 (jb0 (jmk (jip (jyz T) (hr.m rfl) (je5 (jky (T.c_OpenSum.is (by decide +kernel)) (jat (jab 0))) (je5 (jky (T.c_OpenSum.is (by decide +kernel)) (jat (jab 0))) (jc7 jad))))))
def jej(T:Txt K mg):MetE P w K mg base 3 "OpenSum" "whole" 1 ja9:=jqe T.f_OpenSum_whole jj3 (jib T)
def jhp:FnScope ["self","sign","place"] ["self","sign","place"] (jaf jbg):=.m rfl rfl rfl rfl (by decide +kernel)
def jdg:DSt->MS Out:=(eIf (lF (t2 gEq (vR 1) (cS "*"))) (ePut ["OpenSum"] "star" (lF (vR 0)) (lF (vR 2))) (eSeq (ePut ["OpenSum"] "total" (lF (vR 0)) (jl2 "OpenSum" "whole" ja9 (lF (vR 0)) (lF fNil)))
  (eSeq (ePut ["OpenSum"] "term_sign" (lF (vR 0)) (lF (fIf (t2 gEq (vR 1) (cS "-")) (f1 gNeg (cI 1)) (cI 1))))
  (ePut ["OpenSum"] "star" (lF (vR 0)) (lF (fC .non))))))
def jbx:List D->MS D:=mirE 3 3 jdg
def jgq(T:Txt K mg):jod P w K mg base 3 "OpenSum.take_sign" jbg ["self","sign","place"] jdg:=fun _ _ _ _ _ _ _ hr=>
 (jb0 (jnq (jje (jax (jbh (hu30 hr)) jbi (jab 1) jaq (jau _))) (jb0 (jhs (T.c_OpenSum.is (by decide +kernel)) (jat (jab 0)) (jat (jab 2)))) (ja0 (jhs (T.c_OpenSum.is (by decide +kernel)) (jat (jab 0)) (jnn (jej T) (hr.m rfl) (jat (jab 0))))
  (ja0 (jhs (T.c_OpenSum.is (by decide +kernel)) (jat (jab 0)) (jat (joq (jax (jbh (hu30 hr)) jbi (jab 1) jaq (jau _)) (jm5 ji2 jgn jae) jae)))
  (jb0 (jhs (T.c_OpenSum.is (by decide +kernel)) (jat (jab 0)) (jat jl9)))))))
def jhn(T:Txt K mg):MetE P w K mg base 4 "OpenSum" "take_sign" 3 jbx:=jqe T.f_OpenSum_take_sign jhp (jgq T)
def sc_number_of_figures:FnScope ["word","first","number","place"] ["word"] (jaf jcq):=.m rfl rfl rfl rfl (by decide +kernel)
def jdb:DSt->M Out:=(gSet 2 (f2 gCat (f2 jdt (vR 2) (cI 1000000000000000000)) (fL kIntT (jac (fSl (vR 0) (jcv (vR 3)) (jcv (f2 gCat (vR 3) (cI 18)))) fNil))))
def jck:DSt->M Out:=(gSeq (gSet 1 (f2 gMod (fL kLen (jac (vR 0) fNil)) (cI 18)))
  (gSeq (gSet 2 (fIf (t2 gEq (vR 1) (cI 0)) (cI 0) (fL kIntT (jac (fSl (vR 0) jv5 (jcv (vR 1))) fNil))))
  (gSeq (gFor (jf6 jfs (jac (vR 1) (jac (fL kLen (jac (vR 0) fNil)) (jac (cI 18) fNil)))) (DL.gName 3) jdb)
  (gRet (vR 2)))))
def jby:List D->M D:=mir 1 4 jck
def jgr(T:Txt K mg):jdm P w K mg base 1 "number_of_figures" jcq ["word","first","number","place"] jck:=fun _ _ _ _ _ _ _ hr=>
 (jag (ja5 (i:=1) sc_number_of_figures.nd (jal jcw jbs (ja8 jbe jcj rfl T.b_len jdn (jaa (jab 0) jad)) (jig rfl T.g_PART_FIGURES.choose_spec)))
  (jag (ja5 (i:=2) sc_number_of_figures.nd (joq (jax (jbh (hu30 hr)) jbi (jab 1) jae (jau _)) jae (jbk jki jm0 rfl T.b_int jq7 (jaa (jf0 (jab 0) jun (jeh (jab 1))) jad))))
  (jag (jma PassesOwn.never rfl (jum rfl T.b_range (jaa (jab 1) (jaa (ja8 jbe jcj rfl T.b_len jdn (jaa (jab 0) jad)) (jaa (jig rfl T.g_PART_FIGURES.choose_spec) jad)))) (jdr (i:=3) sc_number_of_figures.nd) (jah (ja5 (i:=2) sc_number_of_figures.nd (jal jaj jak (jal jdz jcx (jab 2) (jig rfl T.g_PART_SIZE.choose_spec)) (jbk jki jm0 rfl T.b_int jq7 (jaa (jf0 (jab 0) (jeh (jab 3)) (jeh (jal jaj jak (jab 3) (jig rfl T.g_PART_FIGURES.choose_spec)))) jad))))))
  (jah (jav (jab 2))))))
def jek(T:Txt K mg):Cal P w K mg base 2 "number_of_figures" 1 jby:=jb4 T.f_number_of_figures sc_number_of_figures (jgr T)
def jpr:FnScope ["word"] ["word"] (jaf jgl):=.m rfl rfl rfl rfl (by decide +kernel)
def jf5:DSt->M Out:=(gSeq (gIf (tTru (fSm jnb (vR 0) (cS "-"))) (gRet (f1 gNeg (jay jby (jac (fSl (vR 0) (jcv (cI 1)) jv5) fNil)))) gNx)
  (gRet (jay jby (jac (vR 0) fNil))))
def jga:List D->M D:=mir 1 1 jf5
def jlx(T:Txt K mg):jdm P w K mg base 2 "number_of" jgl ["word"] jf5:=fun _ _ _ _ _ _ _ hr=>
 (jag (jcz (jff (jIy jxa jth (jab 0) jaq)) (jah (jav (jm5 ji2 jgn (jan (jek T) (hr.m rfl) (jaa (jf0 (jab 0) (jeh jae) jun) jad))))) ja2)
  (jah (jav (jan (jek T) (hr.m rfl) (jaa (jab 0) jad)))))
def jo9(T:Txt K mg):Cal P w K mg base 3 "number_of" 1 jga:=jb4 T.f_number_of jpr (jlx T)
def jlc:FnScope ["names","word"] ["names","word"] (jaf jdd):=.m rfl rfl rfl rfl (by decide +kernel)
def jdp:DSt->M D:=(fIf (t2 gEq (vR 0) (vR 1)) (cI 1) (cI 0))
def jea:DSt->M Out:=(gSeq (gIf (tTru (jay jbq (jac (f2 gIx (vR 1) (cI 0)) fNil))) (gRet (fL jb2 (jac (fL kTuple (jac (jgx 1 [("word",1)] (jil (vR 0)) (DL.gName 0) tYes jdp) fNil)) (jac (cI 0) fNil)))) gNx)
  (gRet (fL jb2 (jac (fL kTuple (jac (fRep (jac (cI 0) fNil) (fL kLen (jac (vR 0) fNil))) fNil)) (jac (jay jga (jac (vR 1) fNil)) fNil)))))
def jcu:List D->M D:=mir 2 2 jea
def ji4(T:Txt K mg):jdm P w K mg base 3 "form_of_word" jdd ["names","word"] jea:=fun _ _ _ _ _ _ _ hr=>
 (jag (jcz (jff (jan (jee T) (hr.m rfl) (jaa (jba jap jar (jab 1) jae) jad))) (jah (jav (jbp (jaa (jbk jbr jdq rfl T.b_tuple jdo (jaa (jfy (own:=["name"]) (caps:=[("word",1)]) rfl (jfc (N:=["names","word"]) (osc:=jaf jdd) rfl rfl rfl (by decide +kernel)) (jih (jab 0)) (fun _ _ _ _=>(jdr (i:=0) (show (["name","word"]:List Str).Nodup from by decide +kernel))) (fun _ _ _ _=>jhx) (fun _ _ _ _=>(joq (jax (jbh (hu30 hr)) jbi (jab 0) (jab 1) (jau _)) jae jae))) jad)) (jaa jae jad))))) ja2)
  (jah (jav (jbp (jaa (jbk jbr jdq rfl T.b_tuple jdo (jaa (juj (jaa jae jad) (ja8 jbe jcj rfl T.b_len jdn (jaa (jab 0) jad))) jad)) (jaa (jan (jo9 T) (hr.m rfl) (jaa (jab 1) jad)) jad))))))
def jk4(T:Txt K mg):Cal P w K mg base 4 "form_of_word" 2 jcu:=jb4 T.f_form_of_word jlc (ji4 T)
def sc_reckoned:FnScope ["names","pieces","sums","word","place","inner"] ["names","pieces"] (jaf jhk):=.m rfl rfl rfl rfl (by decide +kernel)
def jbu:DSt->MS Out:=(eIf (lF (t2 gEq (vR 3) (fC (.str "(")))) (eApp 2 (joy "OpenSum" ja4 (lF (jac (fL kLen (jac (vR 0) fNil)) fNil)))) (eIf (lF (t2 gEq (vR 3) (fC (.str ")")))) (eSeq (ePop 5 2)
  (juu (jl2 "OpenSum" "take_factor" ja3 (lF (f2 gIx (vR 2) (f1 gNeg (cI 1)))) (jfm (jl2 "OpenSum" "whole" ja9 (lF (vR 5)) (lF fNil)) (lF fNil))))) (eIf (lF (t2 gIn (vR 3) (fL jb2 (jac (cS "+") (jac (cS "-") (jac (cS "*") fNil)))))) (juu (jl2 "OpenSum" "take_sign" jbx (lF (f2 gIx (vR 2) (f1 gNeg (cI 1)))) (lF (jac (vR 3) (jac (vR 4) fNil))))) (juu (jl2 "OpenSum" "take_factor" ja3 (lF (f2 gIx (vR 2) (f1 gNeg (cI 1)))) (lF (jac (jay jcu (jac (vR 0) (jac (vR 3) fNil))) fNil)))))))
def jhd:DSt->MS Out:=(eSeq (eSet 2 (mL jaw (jfm (joy "OpenSum" ja4 (lF (jac (fL kLen (jac (vR 0) fNil)) fNil))) (lF fNil))))
  (eSeq (eFor (lF (jil (vR 1))) (jf1 3 4) jbu)
  (eRet (jl2 "OpenSum" "whole" ja9 (lF (f2 gIx (vR 2) (cI 0))) (lF fNil)))))
def jfq:List D->MS D:=mirE 2 6 jhd
def jmv(T:Txt K mg):jod P w K mg base 4 "reckoned" jhk ["names","pieces","sums","word","place","inner"] jhd:=fun _ _ _ _ _ _ _ hr=>
 (ja0 (jGf (i:=2) sc_reckoned.nd (je5 (jvu (jfr T) (hr.m rfl) (jc7 (jaa (ja8 jbe jcj rfl T.b_len jdn (jaa (jab 0) jad)) jad))) (jc7 jad)))
  (ja0 (jGe PassesOwn.never rfl (jvw (jih (jab 1))) (ji6 (i:=3) (j:=4) rfl sc_reckoned.nd) (jb0 (jnq (jje (jax (jbh (hu30 hr)) jbi (jab 3) jaq (jau _))) (jb0 (jGd (i:=2) rfl (jvu (jfr T) (hr.m rfl) (jc7 (jaa (ja8 jbe jcj rfl T.b_len jdn (jaa (jab 0) jad)) jad))))) (jb0 (jnq (jje (jax (jbh (hu30 hr)) jbi (jab 3) jaq (jau _))) (ja0 (jGg (i:=5) (j:=2) sc_reckoned.nd rfl)
  (jb0 (jqg (jqd (jd2 T) (hr.m rfl) (jat (jui 2 rfl (jm5 ji2 jgn jae))) (je5 (jnn (jej T) (hr.m rfl) (jat (jab 5))) (jc7 jad)))))) (jb0 (jnq (jje (jax jk8 jwd (jab 3) (jbp (jaa jaq (jaa jaq (jaa jaq jad)))) rfl)) (jb0 (jqg (jqd (jhn T) (hr.m rfl) (jat (jui 2 rfl (jm5 ji2 jgn jae))) (jc7 (jaa (jab 3) (jaa (jab 4) jad)))))) (jb0 (jqg (jqd (jd2 T) (hr.m rfl) (jat (jui 2 rfl (jm5 ji2 jgn jae))) (jc7 (jaa (jan (jk4 T) (hr.m rfl) (jaa (jab 0) (jaa (jab 3) jad))) jad))))))))))))
  (jqh (O':=[]) (by decide) (jb0 (jmk (jnn (jej T) (hr.m rfl) (jat (jba jap jar (jab 2) jae))))))))
def jql(T:Txt K mg):CalE P w K mg base 5 "reckoned" 2 jfq:=jt1 T.f_reckoned sc_reckoned (jmv T)
def sc_read_sum:FnScope ["names","text","pieces","word","place"] ["names","text"] (jaf jew):=.m rfl rfl rfl rfl (by decide +kernel)
def jde:DSt->MS Out:=(eIf (lF (DL.tAnd (tTru (jay jbq (jac (f2 gIx (vR 3) (cI 0)) fNil))) (t2 jey (vR 3) (vR 0)))) (jro xcs (joz "NoName" jcf (lF (jac (vR 3) (jac (vR 4) fNil))))) eNx)
def jet:DSt->MS Out:=(eSeq (lF (gSet 2 (jay jgb (jac (vR 1) fNil))))
  (eSeq (eFor (lF (jil (vR 2))) (jf1 3 4) jde)
  (eRet (jh8 jfq (lF (jac (vR 0) (jac (vR 2) fNil)))))))
def jcg:List D->MS D:=mirE 2 5 jet
def jmu(T:Txt K mg)(f:Addr)(da:Value)(A:Around)(outer:List Env)(s:Shared)(H:Hp)(E:XK)(hr:Room 5 (A.deeper (PyProof.Rows.envOfC "read_sum" (jaf jew) s.heap.objs.size f da))) :
  MSsr (cxOf (CX1 P w) P w K mg base ["names","text","pieces","word","place"] "read_sum" (jaf jew) f da A outer s H E) [] [] [] E (ja1 jew) jet :=
 (jo0 (jAt (jcm (ja5 (i:=2) sc_read_sum.nd (jan (jpa T) (hr.m rfl) (jaa (jab 1) jad)))))
  (jo0 (jC5 PassesOwn.leaving rfl (jvw (jih (jab 2))) (ji6 (i:=3) (j:=4) rfl sc_read_sum.nd) (jnr (jGh (jje (DW.dt (jjq (jff (jan (jee T) (hr.m rfl) (jaa (jba jap jar (jab 3) jae) jad))) (jhy (jax jfa jiu (jab 3) (jab 0) rfl))))) (jnr (jvy T.errs rfl jKh (jyp (jj0 T) (hr.m rfl) (jc7 (jaa (jab 3) (jaa (jab 4) jad)))))) (jC6 jk1))))
  (jnr (jAt (jmk (jqb (jql T) (hr.m rfl) (jc7 (jaa (jab 0) (jaa (jab 2) jad)))))))))
def jk7(T:Txt K mg):CalR P w K mg base 6 "read_sum" 2 jcg:=jB2 T.f_read_sum sc_read_sum (jmu T)
def jpp:FnScope ["_law_found"] ["_law_found"] (jaf jgj):=.m rfl rfl rfl rfl (by decide +kernel)
def jh3:DSt->M Out:=(gRet (fAnd (fL kIsi (jac (vR 0) (jac (fC (.ty "int")) fNil))) (f1 gNot (fL kIsi (jac (vR 0) (jac (fC (.ty "bool")) fNil))))))
def jc5:List D->M D:=mir 1 1 jh3
def jlv(T:Txt K mg):jdm P w K mg base 1 "_law_whole" jgj ["_law_found"] jh3:=fun _ _ _ _ _ _ _ hr=>
 (jah (jav (jz8 (ja8 jid jm1 rfl T.b_isinstance jc8 (jaa (jab 0) (jaa (jm4 rfl T.b_int jq7) jad))) (jrj (jFf (ja8 jid jm1 rfl T.b_isinstance jc8 (jaa (jab 0) (jaa (jm4 rfl T.b_bool jBx) jad))))))))
def jjt(T:Txt K mg):Cal P w K mg base 2 "_law_whole" 1 jc5:=jb4 T.f_law_whole jpp (jlv T)
def sc_law_refused:FnScope ["_law_listed","_law_written_here","_law_due","_law_kept","e"] ["_law_listed","_law_written_here","_law_due"] (jaf jer):=.m rfl rfl rfl rfl (by decide +kernel)
def jem:DSt->MS Out:=(eSeq (lF (gSet 3 (fC .non)))
  (eSeq (jxz jcg xcs 4 3 (lF (jac (vR 0) (jac (vR 1) fNil))))
  (eSeq (eIf (mOr (mNot (mTru (mIsX xcs (fun c=>c == "NoName") (lF (vR 3))))) (mNot (mTru (mIsX xcs (fun _=>true) (lF (vR 3)))))) (lF (gRet (fC (.bl false)))) eNx)
  (eSeq (eIf (mTru (mIsX xcs (fun c=>(["Broken","Folded","NoBook","NoDeed","NoLine","NoPaper","NoRule","NoText"]:List Str).contains c) (lF (vR 3)))) (lF (gRet (fC (.bl false)))) eNx)
  (eSeq (eIf (mOr (mTru (mIsX xcs (fun c=>(["NotPlain","OutOfRange","ShortShare"]:List Str).contains c) (lF (vR 3)))) (mNot (mTru (jin jc5 (jfm (jkw xcs "place" (lF (vR 3))) (lF fNil)))))) (lF (gRet (fC (.bl false)))) eNx)
  (eRet (jvp (m2 gEq (jkw xcs "name" (lF (vR 3))) (lF (f2 gIx (vR 2) (cI 0)))) (m2 gEq (jkw xcs "place" (lF (vR 3))) (lF (f2 gIx (vR 2) (cI 1)))))))))))
def jdx:List D->MS D:=mirE 3 5 jem
def jjx(T:Txt K mg):jod P w K mg base 6 "_law_refused" jer ["_law_listed","_law_written_here","_law_due","_law_kept","e"] jem:=fun _ _ _ _ _ _ _ hr=>
 (ja0 (jcm (ja5 (i:=3) sc_law_refused.nd jl9))
  (ja0 (jC4 (j:=4) (l:=3) (jk7 T) T.errm (hr.m rfl) (fun _=>(jc7 (jaa (jab 0) (jaa (jab 1) jad)))) rfl rfl sc_law_refused.nd rfl rfl (by decide))
  (ja0 (jnq (MW.mt (jGl (jvz (jo1 (jGb (d:="NoName") T.errs rfl T.b_isinstance (jat (jab 3))))) (jAu (jvz (jo1 (jGc T.errs T.b_isinstance T.b_ValueError (jat (jab 3)))))))) (jb0 (jcm (jav juh))) jk1)
  (ja0 (jnq (jo1 (jAr (ds:=["Broken","Folded","NoBook","NoDeed","NoLine","NoPaper","NoRule","NoText"]) T.errs (jex (d:="Broken") T.errs (jex (d:="Folded") T.errs (jex (d:="NoBook") T.errs (jex (d:="NoDeed") T.errs (jex (d:="NoLine") T.errs (jex (d:="NoPaper") T.errs (jex (d:="NoRule") T.errs (jex (d:="NoText") T.errs jz7)))))))) rfl T.b_isinstance (jat (jab 3)) (by decide))) (jb0 (jcm (jav juh))) jk1)
  (ja0 (jnq (MW.mt (jGl (jo1 (jAr (ds:=["NotPlain","OutOfRange","ShortShare"]) T.errs (jex (d:="NotPlain") T.errs (jex (d:="OutOfRange") T.errs (jex (d:="ShortShare") T.errs jz7))) rfl T.b_isinstance (jat (jab 3)) (by decide))) (jAu (jvz (jo1 (jip (jjt T) (hr.m rfl) (je5 (jqc T.errs rfl (jat (jab 3))) (jc7 jad)))))))) (jb0 (jcm (jav juh))) jk1)
  (jb0 (jmk (jAo (jAp (jbh (hu30 hr)) jbi (jqc T.errs rfl (jat (jab 3))) (jat (jba jap jar (jab 2) jae)) (jau _)) (jAs (jAp (jbh (hu30 hr)) jbi (jqc T.errs rfl (jat (jab 3))) (jat (jba jap jar (jab 2) jae)) (jau _)))))))))))
def jhu(T:Txt K mg):CalE P w K mg base 7 "_law_refused" 3 jdx:=jt1 T.f_law_refused sc_law_refused (jjx T)
def jl7:FnScope ["_law_found","_law_due"] ["_law_found","_law_due"] (jaf jd0):=.m rfl rfl rfl rfl (by decide +kernel)
def jhq:DSt->M D:=(vR 0)
def jel:DSt->M Out:=(gSeq (gIf (DL.tOr (DL.tNot (tTru (fL kIsi (jac (vR 0) (jac (fC (.ty "tuple")) fNil))))) (DL.tOr (t2 gNe (fL kLen (jac (vR 0) fNil)) (cI 2)) (DL.tOr (DL.tNot (tTru (fL kIsi (jac (f2 gIx (vR 0) (cI 0)) (jac (fC (.ty "tuple")) fNil))))) (t2 gNe (vR 0) (vR 1))))) (gRet (fC (.bl false))) gNx)
  (gRet (f2 gEq (fL kLen (jac (jgx 1 [] (jil (f2 jx8 (f2 gIx (vR 0) (cI 0)) (fL jb2 (jac (f2 gIx (vR 0) (cI 1)) fNil)))) (DL.gName 0) (DL.tNot (tTru (jay jc5 (jac (vR 0) fNil)))) jhq) fNil)) (cI 0))))
def jeo:List D->M D:=mir 2 2 jel
def jjw(T:Txt K mg):jdm P w K mg base 2 "_law_is_form" jd0 ["_law_found","_law_due"] jel:=fun _ _ _ _ _ _ _ hr=>
 (jag (jcz (DW.dt (jus (jrn (jff (ja8 jid jm1 rfl T.b_isinstance jc8 (jaa (jab 0) (jaa (jm4 rfl T.b_tuple jdo) jad))))) (jus (jax (jpb (hu30 hr)) jpd (ja8 jbe jcj rfl T.b_len jdn (jaa (jab 0) jad)) jae (jau _)) (jus (jrn (jff (ja8 jid jm1 rfl T.b_isinstance jc8 (jaa (jba jap jar (jab 0) jae) (jaa (jm4 rfl T.b_tuple jdo) jad))))) (jut (jax (jpb (hu30 hr)) jpd (jab 0) (jab 1) (jau _))))))) (jah (jav juh)) ja2)
  (jah (jav (jjp (jbh (hu30 hr)) jbi (ja8 jbe jcj rfl T.b_len jdn (jaa (jfy (own:=["_law_number"]) (caps:=[]) rfl (jfc (N:=["_law_found","_law_due"]) (osc:=jaf jd0) rfl rfl rfl (by decide +kernel)) (jih (jal jDf jy0 (jba jap jar (jab 0) jae) (jbp (jaa (jba jap jar (jab 0) jae) jad)))) (fun _ _ _ _=>(jdr (i:=0) (show (["_law_number"]:List Str).Nodup from by decide +kernel))) (fun _ _ _ _=>(jug (jrn (jff (jan (jjt T) (hr.m rfl) (jaa (jab 0) jad)))))) (fun _ _ _ _=>(jab 0))) jad)) jae (jau _)))))
def jl4(T:Txt K mg):Cal P w K mg base 3 "_law_is_form" 2 jeo:=jb4 T.f_law_is_form jl7 (jjw T)
def sc_law:FnScope ["_law_script","_law_number","_law_names_here","_law_tokens","_law_form","_law_depth","_law_bits","_law_listed","_law_written_here","_law_due","_law_coefficients","_law_name_here"] ["_law_script"] (jaf jtb):=.m rfl rfl rfl rfl (by decide +kernel)
def jA6:DSt->MS Out:=(lF (gSet 1 (jay jb6 (jac (jay jdw (jac (vR 0) (jac (cI 0) fNil))) (jac (cI 1) fNil)))))
def jA7:DSt->MS Out:=(lF (gSet 2 (jay jf9 (jac (vR 1) (jac (cI 4) fNil)))))
def jA8:DSt->MS Out:=(lF (gAsg (jst 3 4 5) (jay jhf (jac (vR 0) (jac (vR 2) (jac (cI 2) (jac (cI 32) fNil)))))))
def jA9:DSt->MS Out:=(lF (gSet 6 (jay jb6 (jac (jay jdw (jac (vR 0) (jac (cI 0) fNil))) (jac (cI 6) fNil)))))
def jq8:DSt->M D:=(f2 gIx (vR 1) (vR 0))
def jwz:DSt->MS Out:=(lF (gSet 7 (jgx 1 [("_law_names_here",2),("_law_bits",6)] (jf6 jb1 (jac (fL kLen (jac (vR 2) fNil)) fNil)) (DL.gName 0) (t2 gEq (f2 gMod (f2 jdf (vR 2) (f2 gIx (fL jaw (jac (cI 1) (jac (cI 2) (jac (cI 4) (jac (cI 8) fNil))))) (vR 0))) (cI 2)) (cI 1)) jq8)))
def jw0:DSt->MS Out:=(lF (gIf (DL.tAnd (t2 jey (cS "q") (vR 2)) (t2 gEq (f2 gMod (f2 jdf (vR 6) (cI 16)) (cI 2)) (cI 1))) (gApp 7 (cS "q")) gNx))
def jw1:DSt->MS Out:=(lF (gSet 7 (f2 gStp (vR 7) (f2 gIx (fL jaw (jac (cI 1) (jac (f1 gNeg (cI 1)) fNil))) (f2 gMod (f2 jdf (vR 6) (cI 32)) (cI 2))))))
def jsb:DSt->MS Out:=(lF (gIf (t2 gEq (f2 gMod (f2 jdf (vR 6) (cI 64)) (cI 4)) (cI 0)) (gSet 3 (f2 gCat (f2 gCat (fL jaw (jac (f2 gIx (vR 2) (cI 0)) (jac (cS "*") (jac (fC (.str "(")) fNil)))) (vR 3)) (fL jaw (jac (fC (.str ")")) (jac (cS "*") (jac (f2 gIx (vR 2) (f1 gNeg (cI 1))) fNil)))))) gNx))
def jww:DSt->MS Out:=(lF (gIf (t2 gEq (f2 gMod (f2 jdf (vR 6) (cI 64)) (cI 4)) (cI 1)) (gSet 3 (f2 gCat (vR 3) (fL jaw (jac (cS "+") (jac (f2 gIx (vR 2) (cI 0)) (jac (cS "*") (jac (f2 gIx (vR 2) (f1 gNeg (cI 1))) fNil))))))) gNx))
def jwx:DSt->MS Out:=(lF (gSet 8 (jay jep (jac (vR 3) (jac (vR 1) fNil)))))
def jwy:DSt->MS Out:=(lF (gSet 9 (jay jf7 (jac (vR 8) (jac (vR 7) fNil)))))
def jji:DSt->MS Out:=(eIf (lF (t2 jAh (vR 9) (fC .non))) (eRet (jvp (jh8 jdx (lF (jac (fL kList (jac (vR 7) fNil)) (jac (vR 8) (jac (vR 9) fNil))))) (jh8 jdx (lF (jac (fL kList (jac (vR 7) fNil)) (jac (vR 8) (jac (vR 9) fNil))))))) eNx)
def jn4:DSt->MS Out:=(lF (gIf (t2 gLt (f2 gMod (f2 jdf (vR 6) (cI 64)) (cI 4)) (cI 2)) (gRet (fC (.bl true))) gNx))
def jqr:DSt->MS Out:=(lF (gSet 10 (fL jaw fNil)))
def jmx:DSt->M D:=(f2 gIx (f2 gIx (vR 2) (cI 0)) (vR 0))
def jkg:DSt->M Out:=(gApp 10 (fL kSum (jac (jgx 1 [("_law_names_here",2),("_law_form",4),("_law_name_here",11)] (jf6 jb1 (jac (fL kLen (jac (vR 2) fNil)) fNil)) (DL.gName 0) (t2 gEq (f2 gIx (vR 1) (vR 0)) (vR 3)) jmx) fNil)))
def jqs:DSt->MS Out:=(lF (gFor (jil (vR 7)) (DL.gName 11) jkg))
def jqt:DSt->MS Out:=(eRet (jin jeo (jfm (jmj jcg (lF (jac (vR 7) (jac (vR 8) fNil)))) (lF (jac (fL jb2 (jac (fL kTuple (jac (vR 10) fNil)) (jac (f2 gIx (vR 4) (cI 1)) fNil))) fNil)))))
def jx9:DSt->MS Out:=(eSeq jA6
  (eSeq jA7
  (eSeq jA8
  (eSeq jA9
  (eSeq jwz
  (eSeq jw0
  (eSeq jw1
  (eSeq jsb
  (eSeq jww
  (eSeq jwx
  (eSeq jwy
  (eSeq jji
  (eSeq jn4
  (eSeq jqr
  (eSeq jqs
  jqt)))))))))))))))
def jvq:List D->MS D:=mirE 1 12 jx9
def jxt(T:Txt K mg):jod P w K mg base 7 "law" jtb ["_law_script","_law_number","_law_names_here","_law_tokens","_law_form","_law_depth","_law_bits","_law_listed","_law_written_here","_law_due","_law_coefficients","_law_name_here"] jx9:=fun _ _ _ _ _ _ _ hr=>
 (ja0 (jcm (ja5 (i:=1) sc_law.nd (jan (jd6 T) (hr.m rfl) (jaa (jan (jit T) (hr.m rfl) (jaa (jab 0) (jaa jae jad))) (jaa jae jad)))))
  (ja0 (jcm (ja5 (i:=2) sc_law.nd (jan (jo6 T) (hr.m rfl) (jaa (jab 1) (jaa jae jad)))))
  (ja0 (jcm (jrm (jan (jqk T) (hr.m rfl) (jaa (jab 0) (jaa (jab 2) (jaa jae (jaa jae jad))))) (jul (i:=3) (j:=4) (l:=5) rfl sc_law.nd)))
  (ja0 (jcm (ja5 (i:=6) sc_law.nd (jan (jd6 T) (hr.m rfl) (jaa (jan (jit T) (hr.m rfl) (jaa (jab 0) (jaa jae jad))) (jaa jae jad)))))
  (ja0 (jcm (jCd (i:=7) sc_law.nd (own:=["_law_k"]) (caps:=[("_law_names_here",2),("_law_bits",6)]) rfl (jfc (N:=["_law_script","_law_number","_law_names_here","_law_tokens","_law_form","_law_depth","_law_bits","_law_listed","_law_written_here","_law_due","_law_coefficients","_law_name_here"]) (osc:=jaf jtb) rfl rfl rfl (by decide +kernel)) (jha rfl T.b_range (jaa (ja8 jbe jcj rfl T.b_len jdn (jaa (jab 2) jad)) jad)) (fun _ _ _ _=>(jdr (i:=0) (show (["_law_k","_law_names_here","_law_bits"]:List Str).Nodup from by decide +kernel))) (fun _ _ _ _=>(jug (jax (jbh (hu30 hr)) jbi (jal jcw jbs (jal jcn jcp (jab 2) (jba jap jar (jbv (jaa jae (jaa jae (jaa jae (jaa jae jad))))) (jab 0))) jae) jae (jau _)))) (fun _ _ _ _=>(jba jap jar (jab 1) (jab 0)))))
  (ja0 (jcm (jcz (DW.dt (jjq (jax jfa jiu jaq (jab 2) rfl) (jhy (jax (jbh (hu30 hr)) jbi (jal jcw jbs (jal jcn jcp (jab 6) jae) jae) jae (jau _))))) (jah (jrl (i:=7) rfl jaq)) ja2))
  (jqh (O':=[]) (by decide) (ja0 (jcm (ja5 (i:=7) sc_law.nd (jFg (jab 7) (jba jap jar (jbv (jaa jae (jaa (jm5 ji2 jgn jae) jad))) (jal jcw jbs (jal jcn jcp (jab 6) jae) jae)))))
  (ja0 (jcm (jcz (jax (jbh (hu30 hr)) jbi (jal jcw jbs (jal jcn jcp (jab 6) jae) jae) jae (jau _)) (jah (ja5 (i:=3) sc_law.nd (jal jaj jak (jal jaj jak (jbv (jaa (jba jap jar (jab 2) jae) (jaa jaq (jaa jaq jad)))) (jab 3)) (jbv (jaa jaq (jaa jaq (jaa (jba jap jar (jab 2) (jm5 ji2 jgn jae)) jad))))))) ja2))
  (ja0 (jcm (jcz (jax (jbh (hu30 hr)) jbi (jal jcw jbs (jal jcn jcp (jab 6) jae) jae) jae (jau _)) (jah (ja5 (i:=3) sc_law.nd (jal jaj jak (jab 3) (jbv (jaa jaq (jaa (jba jap jar (jab 2) jae) (jaa jaq (jaa (jba jap jar (jab 2) (jm5 ji2 jgn jae)) jad)))))))) ja2))
  (ja0 (jcm (ja5 (i:=8) sc_law.nd (jan (jl5 T) (hr.m rfl) (jaa (jab 3) (jaa (jab 1) jad)))))
  (ja0 (jcm (ja5 (i:=9) sc_law.nd (jan (jo3 T) (hr.m rfl) (jaa (jab 8) (jaa (jab 7) jad)))))
  (ja0 (jnq (jje (jax jDg jwe (jab 9) jl9 (jau _))) (jb0 (jmk (jAo (jqb (jhu T) (hr.m rfl) (jc7 (jaa (jbk jjm jq9 rfl T.b_list jtz (jaa (jab 7) jad)) (jaa (jab 8) (jaa (jab 9) jad))))) (jAs (jqb (jhu T) (hr.m rfl) (jc7 (jaa (jbk jjm jq9 rfl T.b_list jtz (jaa (jab 7) jad)) (jaa (jab 8) (jaa (jab 9) jad))))))))) jk1)
  (ja0 (jcm (jcz (jax jg3 jco (jal jcw jbs (jal jcn jcp (jab 6) jae) jae) jae (jau _)) (jah (jav juh)) ja2))
  (ja0 (jcm (jup (i:=10) sc_law.nd jad))
  (ja0 (jcm (jma PassesOwn.never rfl (jih (jab 7)) (jdr (i:=11) sc_law.nd) (jah (jrl (i:=10) rfl (ja8 (jt5 rfl) jB1 rfl T.b_sum jE8 (jaa (jfy (own:=["_law_k"]) (caps:=[("_law_names_here",2),("_law_form",4),("_law_name_here",11)]) rfl (jfc (N:=["_law_script","_law_number","_law_names_here","_law_tokens","_law_form","_law_depth","_law_bits","_law_listed","_law_written_here","_law_due","_law_coefficients","_law_name_here"]) (osc:=jaf jtb) rfl rfl rfl (by decide +kernel)) (jha rfl T.b_range (jaa (ja8 jbe jcj rfl T.b_len jdn (jaa (jab 2) jad)) jad)) (fun _ _ _ _=>(jdr (i:=0) (show (["_law_k","_law_names_here","_law_form","_law_name_here"]:List Str).Nodup from by decide +kernel))) (fun _ _ _ _=>(jug (jax (jbh (hu30 hr)) jbi (jba jap jar (jab 1) (jab 0)) (jab 3) (jau _)))) (fun _ _ _ _=>(jba jap jar (jba jap jar (jab 2) jae) (jab 0)))) jad))))))
  (jqh (O':=[]) (by decide) (jb0 (jmk (jip (jl4 T) (hr.m rfl) (je5 (jyo (jk7 T) (hr.m rfl) (jc7 (jaa (jab 7) (jaa (jab 8) jad)))) (jc7 (jaa (jbp (jaa (jbk jbr jdq rfl T.b_tuple jdo (jaa (jab 10) jad)) (jaa (jba jap jar (jab 4) jae) jad))) jad)))))))))))))))))))))))
end
def jl1{us:List Value}{n:Nat}(h:us.length=n+1):∃ a r,us=a::r/\r.length=n:=by
 cases us with
 | nil=>cases h
 | cons a r=>exact⟨a,r,rfl,Nat.succ.inj h⟩
def jEz{fd:FuncData}{p0:Str}(h:∀ a0:Value,bindArgs fd ⟨[a0],[]⟩=pure ([p0].zip [a0]))(us:List Value)(hl:us.length=([p0]:List Str).length):bindArgs fd ⟨us,[]⟩=pure ([p0].zip us):=by
 obtain⟨a0,r0,rfl,q0⟩:=jl1 hl;cases List.eq_nil_of_length_eq_zero q0;exact h a0
def jBq{fd:FuncData}{p0 p1:Str}(h:∀ a0 a1:Value,bindArgs fd ⟨[a0,a1],[]⟩=pure ([p0,p1].zip [a0,a1]))(us:List Value)(hl:us.length=([p0,p1]:List Str).length):bindArgs fd ⟨us,[]⟩=pure ([p0,p1].zip us):=by
 obtain⟨a0,r0,rfl,q0⟩:=jl1 hl;obtain⟨a1,r1,rfl,q1⟩:=jl1 q0;cases List.eq_nil_of_length_eq_zero q1;exact h a0 a1
def jBr{fd:FuncData}{p0 p1 p2:Str}(h:∀ a0 a1 a2:Value,bindArgs fd ⟨[a0,a1,a2],[]⟩=pure ([p0,p1,p2].zip [a0,a1,a2]))(us:List Value)(hl:us.length=([p0,p1,p2]:List Str).length):bindArgs fd ⟨us,[]⟩=pure ([p0,p1,p2].zip us):=by
 obtain⟨a0,r0,rfl,q0⟩:=jl1 hl;obtain⟨a1,r1,rfl,q1⟩:=jl1 q0;obtain⟨a2,r2,rfl,q2⟩:=jl1 q1;cases List.eq_nil_of_length_eq_zero q2;exact h a0 a1 a2
def jIt{fd:FuncData}{p0 p1 p2 p3:Str}(h:∀ a0 a1 a2 a3:Value,bindArgs fd ⟨[a0,a1,a2,a3],[]⟩=pure ([p0,p1,p2,p3].zip [a0,a1,a2,a3]))(us:List Value)(hl:us.length=([p0,p1,p2,p3]:List Str).length):bindArgs fd ⟨us,[]⟩=pure ([p0,p1,p2,p3].zip us):=by
 obtain⟨a0,r0,rfl,q0⟩:=jl1 hl;obtain⟨a1,r1,rfl,q1⟩:=jl1 q0;obtain⟨a2,r2,rfl,q2⟩:=jl1 q1;obtain⟨a3,r3,rfl,q3⟩:=jl1 q2;cases List.eq_nil_of_length_eq_zero q3;exact h a0 a1 a2 a3
inductive Fct(K:W.Frag)(x:Str)(s:Stmt):Prop
 | mk {f:Addr} {oc kV dc pm cd ct:Value} {od an:Option Addr} {sl:qe} (a:W.nsIn K mainGlobals x=some (some (.ref f))) (l:K.lookup f=some ⟨oc,od,.func (W.fnOf x x (jbw s) (ja1 s) (jaf s) .none kV dc pm an cd ct),sl⟩) (c:W.codeIn K cd x=true) (k:W.keepIn K (.ref f)=true):Fct K x s
def fct1{K:W.Frag}{h:Heap}{mg:qa}{x:Str}{s:Stmt}{p0:Str}(X:K.In h)(G:h.Ns mainGlobals mg)(q:∀ (kV dc pm:Value) (an:Option Addr) (cd ct a0:Value),bindArgs (W.fnOf x x (jbw s) (ja1 s) (jaf s) .none kV dc pm an cd ct) ⟨[a0],[]⟩=pure ([p0].zip [a0]))(F:Fct K x s):jcd K mg x s [p0]:=by
 obtain⟨a,l,c,k⟩:=F;exact jkb X G (fun kV dc pm an cd ct=>jEz (q kV dc pm an cd ct)) a l c k
def fct2{K:W.Frag}{h:Heap}{mg:qa}{x:Str}{s:Stmt}{p0 p1:Str}(X:K.In h)(G:h.Ns mainGlobals mg)(q:∀ (kV dc pm:Value) (an:Option Addr) (cd ct a0 a1:Value),bindArgs (W.fnOf x x (jbw s) (ja1 s) (jaf s) .none kV dc pm an cd ct) ⟨[a0,a1],[]⟩=pure ([p0,p1].zip [a0,a1]))(F:Fct K x s):jcd K mg x s [p0,p1]:=by
 obtain⟨a,l,c,k⟩:=F;exact jkb X G (fun kV dc pm an cd ct=>jBq (q kV dc pm an cd ct)) a l c k
def fct3{K:W.Frag}{h:Heap}{mg:qa}{x:Str}{s:Stmt}{p0 p1 p2:Str}(X:K.In h)(G:h.Ns mainGlobals mg)(q:∀ (kV dc pm:Value) (an:Option Addr) (cd ct a0 a1 a2:Value),bindArgs (W.fnOf x x (jbw s) (ja1 s) (jaf s) .none kV dc pm an cd ct) ⟨[a0,a1,a2],[]⟩=pure ([p0,p1,p2].zip [a0,a1,a2]))(F:Fct K x s):jcd K mg x s [p0,p1,p2]:=by
 obtain⟨a,l,c,k⟩:=F;exact jkb X G (fun kV dc pm an cd ct=>jBr (q kV dc pm an cd ct)) a l c k
def fct4{K:W.Frag}{h:Heap}{mg:qa}{x:Str}{s:Stmt}{p0 p1 p2 p3:Str}(X:K.In h)(G:h.Ns mainGlobals mg)(q:∀ (kV dc pm:Value) (an:Option Addr) (cd ct a0 a1 a2 a3:Value),bindArgs (W.fnOf x x (jbw s) (ja1 s) (jaf s) .none kV dc pm an cd ct) ⟨[a0,a1,a2,a3],[]⟩=pure ([p0,p1,p2,p3].zip [a0,a1,a2,a3]))(F:Fct K x s):jcd K mg x s [p0,p1,p2,p3]:=by
 obtain⟨a,l,c,k⟩:=F;exact jkb X G (fun kV dc pm an cd ct=>jIt (q kV dc pm an cd ct)) a l c k
def txt_mk{K:W.Frag}{h:Heap}{mg:qa}(X:K.In h)(G:h.Ns mainGlobals mg)
    {ah:Addr}
    {bo:Addr}
    {be:Addr}
    {bd:Addr}
    {bc:Addr}
    {bb:Addr}
    {ba:Addr}
    {aq:Addr}
    {ap:Addr}
    {az:Addr}
    {ay:Addr}
    {am:Addr}
    {ak:Addr}
    {aj:Addr}
    {en:Addr} {gv g6 iv gj dz i9:Value} {gq je:Option Addr} {gc:qe}
    {em:Addr} {gu g0 iu gi dy i8:Value} {gn jd:Option Addr} {f9:qe}
    {ek:Addr} {gt gz iq gg dw i7:Value} {gm jc:Option Addr} {fz:qe}
    {ej:Addr} {gs gy ip gf dv iz:Value} {gl jb:Option Addr} {fu:qe}
    {ec:Addr} {gr gx io ge du iw:Value} {gk ja:Option Addr} {ft:qe}
    {t0:Tok}
    {t1:Tok}
    {t2:Tok}
    {t3:Tok}
    {t4:Tok}
    {t5:Tok}
    (ai:W.nsIn K mainGlobals "OpenSum"=some (some (.ref ah)))
    (bj:W.plainGet K ah Str.empty=true)
    (bi:W.hasDictIn K ah=true)
    (bh:W.plainOver K ah=true)
    (bg:W.findIn K (.ref ah) "__setattr__"=some (some (.builtin "object.__setattr__")))
    (ax:W.findIn K (.ref ah) "star"=some none)
    (aw:W.findIn K (.ref ah) "term"=some none)
    (av:W.findIn K (.ref ah) "term_sign"=some none)
    (au:W.findIn K (.ref ah) "total"=some none)
    (bq:W.nsIn K mainGlobals "BookError"=some (some (.ref bo)))
    (cq:W.nsIn K mainGlobals "Broken"=some (some (.ref be)))
    (cm:W.nsIn K mainGlobals "Folded"=some (some (.ref bd)))
    (cj:W.nsIn K mainGlobals "NoBook"=some (some (.ref bc)))
    (ci:W.nsIn K mainGlobals "NoDeed"=some (some (.ref bb)))
    (cg:W.nsIn K mainGlobals "NoLine"=some (some (.ref ba)))
    (br:W.nsIn K mainGlobals "NoName"=some (some (.ref aq)))
    (b9:W.nsIn K mainGlobals "NoPaper"=some (some (.ref ap)))
    (ce:W.nsIn K mainGlobals "NoRule"=some (some (.ref az)))
    (cc:W.nsIn K mainGlobals "NoText"=some (some (.ref ay)))
    (b0:W.nsIn K mainGlobals "NotPlain"=some (some (.ref am)))
    (bw:W.nsIn K mainGlobals "OutOfRange"=some (some (.ref ak)))
    (bu:W.nsIn K mainGlobals "ShortShare"=some (some (.ref aj)))
    (tab:xTab K [("Broken",be),("Folded",bd),("NoBook",bc),("NoDeed",bb),("NoLine",ba),("NoName",aq),("NoPaper",ap),("NoRule",az),("NoText",ay),("NotPlain",am),("OutOfRange",ak),("ShortShare",aj)] bo xfs=true)
    (fq:jIf K [("Broken",be),("Folded",bd),("NoBook",bc),("NoDeed",bb),("NoLine",ba),("NoName",aq),("NoPaper",ap),("NoRule",az),("NoText",ay),("NotPlain",am),("OutOfRange",ak),("ShortShare",aj)] bo=true)
    (h0:Fct K "_law_mix" jix)
    (h1:Fct K "_law_at" jkd)
    (h2:Fct K "_law_name" jhh)
    (h3:Fct K "_law_names" jgh)
    (h4:Fct K "_law_plain" jgi)
    (h5:Fct K "_law_named" je8)
    (h6:Fct K "_law_scaled" jef)
    (h7:Fct K "_law_added" je7)
    (h8:Fct K "_law_term" jhi)
    (h9:Fct K "_law_grown" jgg)
    (h10:Fct K "_law_tree" jhj)
    (h11:Fct K "_law_written" jes)
    (h12:Fct K "_law_first" jgf)
    (h13:Fct K "is_letter" jge)
    (h14:Fct K "is_figure" jgd)
    (h15:Fct K "end_of_piece" jeb)
    (h16:Fct K "may_stand" jgk)
    (h17:Fct K "depth_by" jhg)
    (h18:Fct K "wanted_behind" jd1)
    (h19:Fct K "pieces_of" jgm)
    (a20:W.findIn K (.ref aq) "__init__"=some (some (.ref en)))
    (b20:W.isFn K (.ref en)=true)
    (l20:K.lookup en=some ⟨gv,gq,.func (W.fnOf "__init__" "NoName.__init__" (jbw jch) (ja1 jch) (jaf jch) .none g6 iv gj je dz i9),gc⟩)
    (c20:W.codeIn K dz "NoName.__init__"=true)
    (k20:W.keepIn K (.ref en)=true)
    (a21:W.findIn K (.ref ah) "__init__"=some (some (.ref em)))
    (b21:W.isFn K (.ref em)=true)
    (i21:W.makesIn K ah=true)
    (j21:W.keepIn K (.ref ah)=true)
    (l21:K.lookup em=some ⟨gu,gn,.func (W.fnOf "__init__" "OpenSum.__init__" (jbw jb3) (ja1 jb3) (jaf jb3) .none g0 iu gi jd dy i8),f9⟩)
    (c21:W.codeIn K dy "OpenSum.__init__"=true)
    (k21:W.keepIn K (.ref em)=true)
    (h22:Fct K "times" jlb)
    (h23:Fct K "is_plain" jft)
    (h24:Fct K "product" jiy)
    (a25:W.findIn K (.ref ah) "take_factor"=some (some (.ref ek)))
    (b25:W.isFn K (.ref ek)=true)
    (l25:K.lookup ek=some ⟨gt,gm,.func (W.fnOf "take_factor" "OpenSum.take_factor" (jbw jbc) (ja1 jbc) (jaf jbc) .none gz iq gg jc dw i7),fz⟩)
    (c25:W.codeIn K dw "OpenSum.take_factor"=true)
    (k25:W.keepIn K (.ref ek)=true)
    (h26:Fct K "added" jla)
    (a27:W.findIn K (.ref ah) "whole"=some (some (.ref ej)))
    (b27:W.isFn K (.ref ej)=true)
    (l27:K.lookup ej=some ⟨gs,gl,.func (W.fnOf "whole" "OpenSum.whole" (jbw jci) (ja1 jci) (jaf jci) .none gy ip gf jb dv iz),fu⟩)
    (c27:W.codeIn K dv "OpenSum.whole"=true)
    (k27:W.keepIn K (.ref ej)=true)
    (a28:W.findIn K (.ref ah) "take_sign"=some (some (.ref ec)))
    (b28:W.isFn K (.ref ec)=true)
    (l28:K.lookup ec=some ⟨gr,gk,.func (W.fnOf "take_sign" "OpenSum.take_sign" (jbw jbg) (ja1 jbg) (jaf jbg) .none gx io ge ja du iw),ft⟩)
    (c28:W.codeIn K du "OpenSum.take_sign"=true)
    (k28:W.keepIn K (.ref ec)=true)
    (h29:Fct K "number_of_figures" jcq)
    (h30:Fct K "number_of" jgl)
    (h31:Fct K "form_of_word" jdd)
    (d9:Fct K "reckoned" jhk)
    (h33:Fct K "read_sum" jew)
    (h34:Fct K "_law_whole" jgj)
    (h35:Fct K "_law_refused" jer)
    (h36:Fct K "_law_is_form" jd0)
    (h37:Fct K "law" jtb)
    (y0:W.nsIn K mainGlobals "BEGINNING"=some (some (.str "beginning" t0)))
    (y1:W.nsIn K mainGlobals "BEHIND"=some (some (.str "behind" t1)))
    (y2:W.nsIn K mainGlobals "FACTOR"=some (some (.str "factor" t2)))
    (y3:W.nsIn K mainGlobals "NAME_LENGTH"=some (some (.int 10 t3)))
    (y4:W.nsIn K mainGlobals "PART_FIGURES"=some (some (.int 18 t4)))
    (y5:W.nsIn K mainGlobals "PART_SIZE"=some (some (.int 1000000000000000000 t5)))
    (z0:W.nsIn K mainGlobals "ValueError"=some none)
    (z1:W.nsIn K mainGlobals "all"=some none)
    (z2:W.nsIn K mainGlobals "bool"=some none)
    (z3:W.nsIn K mainGlobals "int"=some none)
    (z4:W.nsIn K mainGlobals "isinstance"=some none)
    (z5:W.nsIn K mainGlobals "len"=some none)
    (z6:W.nsIn K mainGlobals "list"=some none)
    (z7:W.nsIn K mainGlobals "max"=some none)
    (z8:W.nsIn K mainGlobals "range"=some none)
    (z9:W.nsIn K mainGlobals "str"=some none)
    (z10:W.nsIn K mainGlobals "sum"=some none)
    (z11:W.nsIn K mainGlobals "tuple"=some none)
    (z12:W.nsIn K mainGlobals "zip"=some none):Txt K mg:=by
  have d4:∀ p∈([("Broken",be),("Folded",bd),("NoBook",bc),("NoDeed",bb),("NoLine",ba),("NoName",aq),("NoPaper",ap),("NoRule",az),("NoText",ay),("NotPlain",am),("OutOfRange",ak),("ShortShare",aj)]:List (Str×Addr)),mg p.1=some (.ref p.2):=(List.forall_mem_cons.mpr ⟨W.mg_of X G cq,(List.forall_mem_cons.mpr ⟨W.mg_of X G cm,(List.forall_mem_cons.mpr ⟨W.mg_of X G cj,(List.forall_mem_cons.mpr ⟨W.mg_of X G ci,(List.forall_mem_cons.mpr ⟨W.mg_of X G cg,(List.forall_mem_cons.mpr ⟨W.mg_of X G br,(List.forall_mem_cons.mpr ⟨W.mg_of X G b9,(List.forall_mem_cons.mpr ⟨W.mg_of X G ce,(List.forall_mem_cons.mpr ⟨W.mg_of X G cc,(List.forall_mem_cons.mpr ⟨W.mg_of X G b0,(List.forall_mem_cons.mpr ⟨W.mg_of X G bw,(List.forall_mem_cons.mpr ⟨W.mg_of X G bu,(List.forall_mem_nil _)⟩)⟩)⟩)⟩)⟩)⟩)⟩)⟩)⟩)⟩)⟩)⟩)
  have errs:ErrT K mg xcs xfs "BookError":=jCq (es:=[("Broken",be),("Folded",bd),("NoBook",bc),("NoDeed",bb),("NoLine",ba),("NoName",aq),("NoPaper",ap),("NoRule",az),("NoText",ay),("NotPlain",am),("OutOfRange",ak),("ShortShare",aj)]) d4 (W.mg_of X G bq) tab;exact⟨jj8 X G ai bj bi bh bg (List.forall_mem_cons.mpr ⟨ax,(List.forall_mem_cons.mpr ⟨aw,(List.forall_mem_cons.mpr ⟨av,(List.forall_mem_cons.mpr ⟨au,(List.forall_mem_nil _)⟩)⟩)⟩)⟩),
   errs,
   jCp (es:=[("Broken",be),("Folded",bd),("NoBook",bc),("NoDeed",bb),("NoLine",ba),("NoName",aq),("NoPaper",ap),("NoRule",az),("NoText",ay),("NotPlain",am),("OutOfRange",ak),("ShortShare",aj)]) d4 (W.mg_of X G bq) fq,
   fct2 X G (fun _ _ _ _ _ _ _ _=>rfl) h0,
   fct2 X G (fun _ _ _ _ _ _ _ _=>rfl) h1,
   fct1 X G (fun _ _ _ _ _ _ _=>rfl) h2,
   fct2 X G (fun _ _ _ _ _ _ _ _=>rfl) h3,
   fct3 X G (fun _ _ _ _ _ _ _ _ _=>rfl) h4,
   fct2 X G (fun _ _ _ _ _ _ _ _=>rfl) h5,
   fct2 X G (fun _ _ _ _ _ _ _ _=>rfl) h6,
   fct2 X G (fun _ _ _ _ _ _ _ _=>rfl) h7,
   fct3 X G (fun _ _ _ _ _ _ _ _ _=>rfl) h8,
   fct4 X G (fun _ _ _ _ _ _ _ _ _ _=>rfl) h9,
   fct4 X G (fun _ _ _ _ _ _ _ _ _ _=>rfl) h10,
   fct2 X G (fun _ _ _ _ _ _ _ _=>rfl) h11,
   fct2 X G (fun _ _ _ _ _ _ _ _=>rfl) h12,
   fct1 X G (fun _ _ _ _ _ _ _=>rfl) h13,
   fct1 X G (fun _ _ _ _ _ _ _=>rfl) h14,
   fct2 X G (fun _ _ _ _ _ _ _ _=>rfl) h15,
   fct3 X G (fun _ _ _ _ _ _ _ _ _=>rfl) h16,
   fct1 X G (fun _ _ _ _ _ _ _=>rfl) h17,
   fct1 X G (fun _ _ _ _ _ _ _=>rfl) h18,
   fct1 X G (fun _ _ _ _ _ _ _=>rfl) h19,
   ju6 X G (fun _ _ _ _ _ _=>jBr (fun _ _ _=>rfl)) (W.mg_of X G br) (errs.cls "NoName" (zbc.mp rfl) _ (W.mg_of X G br)) a20 b20 l20 c20 k20,
   jyg X G (fun _ _ _ _ _ _=>jBq (fun _ _=>rfl)) ai i21 a21 b21 j21 l21 c21 k21,
   fct2 X G (fun _ _ _ _ _ _ _ _=>rfl) h22,
   fct1 X G (fun _ _ _ _ _ _ _=>rfl) h23,
   fct3 X G (fun _ _ _ _ _ _ _ _ _=>rfl) h24,
   jno X G (jj8 X G ai bj bi bh bg (List.forall_mem_cons.mpr ⟨ax,(List.forall_mem_cons.mpr ⟨aw,(List.forall_mem_cons.mpr ⟨av,(List.forall_mem_cons.mpr ⟨au,(List.forall_mem_nil _)⟩)⟩)⟩)⟩)) (fun _ _ _ _ _ _=>jBq (fun _ _=>rfl)) ai a25 b25 l25 c25 k25,
   fct2 X G (fun _ _ _ _ _ _ _ _=>rfl) h26,
   jno X G (jj8 X G ai bj bi bh bg (List.forall_mem_cons.mpr ⟨ax,(List.forall_mem_cons.mpr ⟨aw,(List.forall_mem_cons.mpr ⟨av,(List.forall_mem_cons.mpr ⟨au,(List.forall_mem_nil _)⟩)⟩)⟩)⟩)) (fun _ _ _ _ _ _=>jEz (fun _=>rfl)) ai a27 b27 l27 c27 k27,
   jno X G (jj8 X G ai bj bi bh bg (List.forall_mem_cons.mpr ⟨ax,(List.forall_mem_cons.mpr ⟨aw,(List.forall_mem_cons.mpr ⟨av,(List.forall_mem_cons.mpr ⟨au,(List.forall_mem_nil _)⟩)⟩)⟩)⟩)) (fun _ _ _ _ _ _=>jBr (fun _ _ _=>rfl)) ai a28 b28 l28 c28 k28,
   fct1 X G (fun _ _ _ _ _ _ _=>rfl) h29,
   fct1 X G (fun _ _ _ _ _ _ _=>rfl) h30,
   fct2 X G (fun _ _ _ _ _ _ _ _=>rfl) h31,
   fct2 X G (fun _ _ _ _ _ _ _ _=>rfl) d9,
   fct2 X G (fun _ _ _ _ _ _ _ _=>rfl) h33,
   fct1 X G (fun _ _ _ _ _ _ _=>rfl) h34,
   fct3 X G (fun _ _ _ _ _ _ _ _ _=>rfl) h35,
   fct2 X G (fun _ _ _ _ _ _ _ _=>rfl) h36,
   fct1 X G (fun _ _ _ _ _ _ _=>rfl) h37,
   ⟨_,W.mg_of X G y0⟩,
   ⟨_,W.mg_of X G y1⟩,
   ⟨_,W.mg_of X G y2⟩,
   ⟨_,W.mg_of X G y3⟩,
   ⟨_,W.mg_of X G y4⟩,
   ⟨_,W.mg_of X G y5⟩,
   W.mg_none_of X G z0,
   W.mg_none_of X G z1,
   W.mg_none_of X G z2,
   W.mg_none_of X G z3,
   W.mg_none_of X G z4,
   W.mg_none_of X G z5,
   W.mg_none_of X G z6,
   W.mg_none_of X G z7,
   W.mg_none_of X G z8,
   W.mg_none_of X G z9,
   W.mg_none_of X G z10,
   W.mg_none_of X G z11,
   W.mg_none_of X G z12⟩
def walk{l:W.OpenLaw}{q:Program}{bz:List Str}{XP:(qa)->Heap->Prop}{YP:World->Heap->Prop}{d:DefRec}{K:Params->W.Frag}(hn:l.most=some 63)(im:d.params.defaults=[])
  (hY:∀ (w:World) (h:Heap),YP w h->(K w.params).In h)
  (F:∀ (w:World) (mg:qa) (fa:Addr) (h:Heap),(K w.params).In h->h.Ns mainGlobals mg->mg d.name=some (.ref fa)->Txt (K w.params) mg/\mg "law"=some (.ref fa))
  (hm:∀ ns:List Int,ns.length<=63->∃ Ω,jvq [.lst (ns.map .int)] []=some (.ok (.bl true),Ω)) :
  W.WalkO q bz XP YP l.row.toRowW d [] (fun f vs=>PySem.call f vs) :=
 L2.walk_of (n:=63) (k:=8) (x:="_law_script") (CX:=fun _=>CX0) (sp:=fun w=>spA (K w.params) 1 jvq) hn (by decide) im ⟨rfl,by decide,by decide⟩ hY
  (fun w mg fa h KX G hmg=>by
   obtain⟨T,hf⟩:=F w mg fa h KX G hmg;obtain⟨fd,FF,hb⟩:=ju0 T.f_law hf (fun _ _ _ _ _ _ _ _=>.of_eq rfl);exact⟨fd,hb,fun base _ _=>(fn_E FF sc_law (jxt T)).imp fun vs H Q E z=>z mg⟩)
  (fun _ _ a ns hl _ hS=>fun mg=>let ⟨Ω,e⟩:=hm ns hl;jC0 hS e) fun _ _ _ _ _ z=>z
def jz0{q:Program}{bz:List Str}{XP:(qa)->Heap->Prop}{K:Params->W.Frag}{as:List Addr}{n t:Nat}{r:W.RowW}{d:DefRec}{jm:List (Str×Expr)}{run:Value->List Value->Sem Value}
  (he:∀ P,as=(K P).map (·.1)) (h:W.WalkO q bz XP (fun w h=>(K w.params).In h) r d jm run):W.WalkX q bz XP (W.X.obsZ as) (W.X.valZ K n t) r d jm run:=by
 intro w s₀ s₁ mg mb G y a o pm cd doc dV kV ho hd hcd hD hmg hg args vals as' L;refine h w s₀ s₁ mg mb G ?_ a o pm cd doc dV kV ho hd hcd hD hmg hg args vals as';have e:(K w.params).In s₀.heap:=(W.X.z_facts he y).2.1;exact fun b o' q=>L.keeps b o' (e b o' q)
def walkZ{l:W.OpenLaw}{q:Program}{bz:List Str}{XP:(qa)->Heap->Prop}{d:DefRec}{K:Params->W.Frag}{as:List Addr}{n t:Nat}(he:∀ P,as=(K P).map (·.1))(hn:l.most=some 63)(im:d.params.defaults=[])
  (F:∀ (w:World) (mg:qa) (fa:Addr) (h:Heap),(K w.params).In h->h.Ns mainGlobals mg->mg d.name=some (.ref fa)->Txt (K w.params) mg/\mg "law"=some (.ref fa))
  (hm:∀ ns:List Int,ns.length<=63->∃ Ω,jvq [.lst (ns.map .int)] []=some (.ok (.bl true),Ω)) :
  W.WalkX q bz XP (W.X.obsZ as) (W.X.valZ K n t) l.row.toRowW d [] (fun f vs=>PySem.call f vs) :=
 jz0 he (walk (K:=K) hn im (fun _ _ y=>y) F hm)
section
abbrev Fm:=List Int×Int
def fm(f:Fm):D:=.tup [.tup (f.1.map .int),.int f.2]
abbrev of(a:Fm):Option D:=some (fm a)
def addF(a b:Fm):Fm:=((a.1.zip b.1).map fun p=>p.1+p.2,a.2+b.2)
def mulF(a:Fm)(n:Int):Fm:=(a.1.map (·*n),a.2*n)
def BF(k:Nat)(f:Fm):Prop:=(∀ c∈f.1,Bt k c)/\Bt k f.2
def jb9(f:Fm):Bool:=f.1.all (· == 0)
def jCm(own:Nat)(caps:qf)(Y:DSt):jed own caps Y=List.replicate own none++caps.map fun p=>(Y[p.2]?).join:=rfl
def zip_tt(xs ys:List D):jgp [.tup xs,.tup ys]=some (zipD xs ys):=rfl
def stpA:=And.intro stp (And.intro (@jCm) True.intro)
def lst_le{ds:List D}(h:ds.length<=1000):jaw ds=oL ds:=jvo (zdy h (by decide))
def jxs(a b:Fm)(h:a.1.length<=1000):jnm [fm a,fm b]=oK (fm (addF a b)):=by
 have e:=joo (c:=[]) (fe:=jmy) (K:=fun p:Int×Int=>(D.int p.1,D.int p.2)) (F:=fun p=>.int (p.1+p.2)) (a.1.zip b.1) none none (fun p hp=>by unfold jmy;simp only[stpA,Nat.reduceSub];rfl);unfold jnm;rw[jfg];unfold jp4 fm addF;simp only[stpA,Nat.reduceSub,e,lst_le (ds:=List.map (fun p:Int×Int=>D.int (p.1+p.2)) (a.1.zip b.1)) (by rw[zav,List.length_zip];omega)];rw[List.map_map];rfl
def jn9{k l:Nat}{a:Fm}{n:Int}(ha:BF k a)(hn:Bt l n)(hk:k<=100000)(hl:l<=100000)(h:a.1.length<=1000):jjd [fm a,.int n]=oK (fm (mulF a n)):=by
 have e:=jie (c:=[oI n]) (fe:=jmz) (K:=D.int) (F:=fun c=>.int (c*n)) a.1 none (fun c hc=>by unfold jmz;simp only[stpA,Nat.reduceSub,je6 (ha.1 c hc) hn hk hl];rfl);unfold jjd;rw[jfg];unfold jp5 fm mulF;simp only[stpA,Nat.reduceSub,e,je6 ha.2 hn hk hl,lst_le (ds:=List.map (fun c=>D.int (c*n)) a.1) (by rw[zav];omega)];rw[List.map_map];rfl
def jr5(a:Fm)(h:a.1.length<=1000):jfo [fm a]=oK (.bl (jb9 a)):=by
 have e:=jie (c:=[]) (fe:=jhw) (K:=D.int) (F:=fun c=>.bl (c == 0)) a.1 none (fun c hc=>by unfold jhw;simp only[stpA,Nat.reduceSub];rfl);unfold jfo;rw[jhr];unfold jja fm jb9;have e2:(a.1.map fun c=>D.bl (c == 0))=(a.1.map fun c=>(c == 0)).map .bl:=by rw[List.map_map];rfl
 rw[e2] at e;simp only[stpA,Nat.reduceSub,e,jBp,lst_le (ds:=List.map D.bl (List.map (fun c=>c == 0) a.1)) (by rw[zav,zav];omega)];simp[M.p,List.all_map,Function.comp_def]
def jfd(a b:Fm):Fm:=if jb9 b=true then mulF a b.2 else mulF b a.2
def js6{k:Nat}{a b:Fm}{p:D}(ha:BF k a)(hb:BF k b)(hk:k<=100000)(h1:a.1.length<=1000)(h2:b.1.length<=1000)(hp:jb9 a=true\/jb9 b=true) :
  jio [fm a,fm b,p]=oK (fm (jfd a b)):=by
 have tb:=jr5 b h2;have ta:=jr5 a h1;have x1:=jn9 ha hb.2 hk hk h1;have x2:=jn9 hb ha.2 hk hk h2;unfold jio;rw[jkm];unfold jkr jfd;have e1:∀ f:Fm,gIx (fm f) (.int 1)=oI f.2:=fun f=>by unfold fm;simp
 by_cases q:jb9 b=true
 ·rw[q] at tb;simp only[stpA,Nat.reduceSub,tb,e1,x1,q];rfl
 ·rw[Bool.not_eq_true] at q;have q2:jb9 a=true:=by rcases hp with hp|hp;exact hp;rw[q] at hp;cases hp
  rw[q] at tb;rw[q2] at ta;simp only[stpA,Nat.reduceSub,tb,ta,e1,x2,q];rfl
structure OS where
 total:Fm
 term:Fm
 sign:Int
 star:Option Int
def jn8:Option Int->D
 | none=>.non
 | some i=>.int i
def osO(o:OS):SO:=.ins "OpenSum" [("total",fm o.total),("term",fm o.term),("term_sign",.int o.sign),("star",jn8 o.star)]
section
variable {Ω:Sto}{i:Nat}{o:OS}
def ju3(h:Ω[i]? = some (osO o)):getO ["OpenSum"] "total" (.obj i) Ω=some (.ok (fm o.total),Ω):=by unfold getO;dsimp only;rw[h];rfl
def jru(h:Ω[i]? = some (osO o)):getO ["OpenSum"] "term" (.obj i) Ω=some (.ok (fm o.term),Ω):=by unfold getO;dsimp only;rw[h];rfl
def jyd(h:Ω[i]? = some (osO o)):getO ["OpenSum"] "term_sign" (.obj i) Ω=some (.ok (.int o.sign),Ω):=by unfold getO;dsimp only;rw[h];rfl
def jrt(h:Ω[i]? = some (osO o)):getO ["OpenSum"] "star" (.obj i) Ω=some (.ok (jn8 o.star),Ω):=by unfold getO;dsimp only;rw[h];rfl
def jwq(h:Ω[i]? = some (osO o))(f:Fm):putO ["OpenSum"] "total" (.obj i) (fm f) Ω=some (.ok (),Ω.set i (osO { o with total:=f })):=by unfold putO;dsimp only;rw[h];rfl
def jr9(h:Ω[i]? = some (osO o))(f:Fm):putO ["OpenSum"] "term" (.obj i) (fm f) Ω=some (.ok (),Ω.set i (osO { o with term:=f })):=by unfold putO;dsimp only;rw[h];rfl
def jze(h:Ω[i]? = some (osO o))(f:Int):putO ["OpenSum"] "term_sign" (.obj i) (.int f) Ω=some (.ok (),Ω.set i (osO { o with sign:=f })):=by unfold putO;dsimp only;rw[h];rfl
def jr8(h:Ω[i]? = some (osO o))(f:Option Int):putO ["OpenSum"] "star" (.obj i) (jn8 f) Ω=some (.ok (),Ω.set i (osO { o with star:=f })):=by unfold putO;dsimp only;rw[h];rfl
end
def stsA:=And.intro (@s_b) <| And.intro (@jho) <| And.intro (@s_p) <| And.intro (@s_lp) <| And.intro (@jJu) <| And.intro (@s_o) <| And.intro (@s_lF) <| And.intro (@jJt) <| And.intro (@jBa) <| And.intro (@s_2) <| And.intro (@s_L) <| And.intro (@jqu) <| And.intro (@jHj) <| And.intro (@jHp) <| And.intro (@jHo) <| And.intro (@jHk) <| And.intro (@jJw) <| And.intro (@s_if) <| And.intro (@s_nx) <| And.intro (@jJv) <| And.intro (@jJx) <| And.intro (@jBs) <| And.intro (@s_B) <| And.intro (@jqx) <| And.intro (@jD8) <| And.intro (@jD6) <| And.intro (@jzl) <| And.intro (@jzk) <| And.intro (@jBb) <| And.intro (@jw2) <| And.intro (@jHl) <| True.intro
section
variable {Ω:Sto}{i:Nat}{o:OS}
def wholeF(o:OS):Fm:=addF o.total o.term
def job(h:Ω[i]? = some (osO o))(w:o.total.1.length<=1000):ja9 [.obj i] Ω=some (.ok (fm (wholeF o)),Ω):=by
 unfold ja9;rw[jHm];unfold jez;simp only[stsA,stpA,Nat.reduceSub,ju3 h,jru h,jxs o.total o.term w];rfl
def jld{x:SO}(h:Ω[i]? = some x)(y:SO):(Ω.set i y)[i]? = some y:=by
 have:=(zbb.mp h).1;rw[zcz this]
def jle(x y:SO):(Ω.set i x).set i y=Ω.set i y:=by simp
def jHa{f:Str}{d:D}{fs:List (Str×D)}(h:Ω[i]? = some (.ins "OpenSum" fs))(hl:fs.length<1000):putO ["OpenSum"] f (.obj i) d Ω=some (.ok (),Ω.set i (.ins "OpenSum" (putD f d fs))):=by
 unfold putO;dsimp only;rw[h];dsimp only;rw[if_pos (by rw[decide_eq_true hl];rfl)]
def jDy{f:Str}{d:D}{fs ju:List (Str×D)}(h:Ω[i]? = some (.ins "OpenSum" []))(hl:fs.length<1000)(e:putD f d fs=ju):putO ["OpenSum"] f (.obj i) d (Ω.set i (.ins "OpenSum" fs))=some (.ok (),Ω.set i (.ins "OpenSum" ju)):=by
 rw[jHa (jld h _) hl,jle,e]
def jCy(h:Ω[i]? = some (.ins "OpenSum" []))(n:Nat)(hn:n<=1000):ja4 [.obj i,.int n] Ω=some (.ok .non,Ω.set i (osO ⟨(List.replicate n 0,0),(List.replicate n 0,0),1,none⟩)):=by
 unfold ja4;rw[jw3];unfold jei;have hr:=jFm (Y:=[some (.obj i),oI n]) (fl:=jac (cI 0) fNil) (fb:=vR 1) (.int 0) n rfl rfl hn
 let z:D:=.tup [.tup (List.replicate n (.int 0)),.int 0]
 have p1:putO ["OpenSum"] "total" (.obj i) (.tup [.tup (List.replicate n (.int 0)),.int 0]) Ω=some (.ok (),Ω.set i (.ins "OpenSum" [("total",z)])):=jHa h (by decide);have q1:(Ω.set i (.ins "OpenSum" [("total",z)]))[i]? = some (.ins "OpenSum" [("total",z)]):=jld h _;have g1:getO ["OpenSum"] "total" (.obj i) (Ω.set i (.ins "OpenSum" [("total",z)]))=some (.ok z,Ω.set i (.ins "OpenSum" [("total",z)])):=by unfold getO;dsimp only;rw[q1];rfl
 have p2:putO ["OpenSum"] "term" (.obj i) z (Ω.set i (.ins "OpenSum" [("total",z)]))=some (.ok (),Ω.set i (.ins "OpenSum" [("total",z),("term",z)])):=jDy h (by show 1<1000;decide) rfl;have p3:putO ["OpenSum"] "term_sign" (.obj i) (.int 1) (Ω.set i (.ins "OpenSum" [("total",z),("term",z)]))=some (.ok (),Ω.set i (.ins "OpenSum" [("total",z),("term",z),("term_sign",.int 1)])):=jDy h (by show 2<1000;decide) rfl;have p4:putO ["OpenSum"] "star" (.obj i) .non (Ω.set i (.ins "OpenSum" [("total",z),("term",z),("term_sign",.int 1)]))=some (.ok (),Ω.set i (.ins "OpenSum" [("total",z),("term",z),("term_sign",.int 1),("star",.non)])):=jDy h (by show 3<1000;decide) rfl;simp only[stsA,stpA,Nat.reduceSub,hr,p1,g1,p2,p3,p4];unfold osO fm;rw[List.map_replicate];rfl
def takeF(o:OS)(f:Fm):OS:={ o with term:=match o.star with
 | none=>mulF f o.sign
 | some _=>jfd o.term f }
def jot{k:Nat}{f:Fm}(h:Ω[i]? = some (osO o))(hf:BF k f)(jr:f.1.length<=1000)(hk:k<=100000)(hs:Bt k o.sign)(ht:o.star≠none->BF k o.term/\o.term.1.length<=1000/\(jb9 o.term=true\/jb9 f=true)) :
  ja3 [.obj i,fm f] Ω=some (.ok .non,Ω.set i (osO (takeF o f))):=by
 unfold ja3;rw[jw3];unfold jc3 takeF
 cases e:o.star with
 | none =>
  have g1:=jrt h;rw[e] at g1;have i1:gIs (jn8 none) .non=some (.bl true):=rfl;have x:=jn9 hf hs hk hk jr;simp only[stsA,stpA,Nat.reduceSub,g1,i1,jyd h,x,jr9 h];rw[e]
 | some p =>
  have g1:=jrt h;rw[e] at g1;obtain⟨t1,t2,t3⟩:=ht (by rw[e];exact nofun);have i1:gIs (jn8 (some p)) .non=some (.bl false):=rfl;have x:=js6 (p:=jn8 (some p)) t1 hf hk t2 jr t3;simp only[stsA,stpA,Nat.reduceSub,g1,i1,jru h,x,jr9 h];rw[e]
def signF(o:OS)(c:Str)(p:Int):OS:=if c="*" then { o with star:=some p } else { total:=wholeF o,term:=o.term,sign:=if c="-" then -1 else 1,star:=none }
def jc9(x y:Str):gEq (.str x) (.str y)=some (.bl (x == y)):=rfl
def jEb{c:Str}{p:Int}(h:Ω[i]? = some (osO o))(w:o.total.1.length<=1000):jbx [.obj i,.str c,.int p] Ω=some (.ok .non,Ω.set i (osO (signF o c p))):=by
 unfold jbx;rw[jHn];unfold jdg signF
 by_cases q:c="*"
 ·have q':(c == "*")=true:=by rw[q];rfl
  have x:=jr8 h (some p);rw[show jn8 (some p)=D.int p from rfl] at x;simp only[stsA,stpA,Nat.reduceSub,jc9,q',x,if_pos q]
 ·have q':(c == "*")=false:=beq_eq_false_iff_ne.mpr q;have x:=job h w;have y:jnp "OpenSum" "whole" ja9 i (lF fNil) [some (.obj i),oS c,oI p] Ω=some (.ok (fm (wholeF o)),Ω):=by
   unfold jnp;rw[h];show (if _/\_ then _ else _)=_;rw[if_pos ⟨rfl,rfl⟩];simp only[stsA,stpA,Nat.reduceSub,x]
  have p1:=jwq h (wholeF o);have h1:=jld h (osO { o with total:=wholeF o });have p2:=fun n=>jze h1 n
  have h2:∀ n,(Ω.set i (osO { o with total:=wholeF o,sign:=n }))[i]? = some (osO { o with total:=wholeF o,sign:=n }):=fun n=>jld h _
  have p3:=fun n=>jr8 (h2 n) none
  rw[show jn8 none=D.non from rfl] at p3
  by_cases q2:c="-"
  ·have gd:(c == "-")=true:=by rw[q2];rfl
   simp only[stsA,stpA,Nat.reduceSub,jc9,q',y,p1,gd,neg_int,p2,jle,p3,if_neg q,if_pos q2]
  ·have gd:(c == "-")=false:=beq_eq_false_iff_ne.mpr q2;simp only[stsA,stpA,Nat.reduceSub,jc9,q',y,p1,gd,p2,jle,p3,if_neg q,if_neg q2]
end
end
section
def Stk(Ω:Sto):List Nat->List OS->Prop
 | [],[]=>True
 | i::r,o::os=>Ω[i]? = some (osO o)/\i∉r/\Stk Ω r os
 | _,_=>False
theorem Stk.set{Ω:Sto}{i:Nat}{x:SO}:∀ {r:List Nat} {os:List OS},i∉r->Stk Ω r os->Stk (Ω.set i x) r os
 | [],[],_,_=>trivial
 | j::r,o::os,hi,h=>by
  obtain⟨h1,h2,h3⟩:=h;have df:i≠j:=fun e=>hi (by rw[e];exact zaa)
  exact⟨by rw[zbw df];exact h1,h2,Stk.set (fun z=>hi (zaw _ z)) h3⟩
 | [],_::_,_,h=>h.elim
 | _::_,[],_,h=>h.elim
theorem Stk.push{Ω:Sto}{x:SO}:∀ {r:List Nat} {os:List OS},Stk Ω r os->Stk (Ω++[x]) r os
 | [],[],_=>trivial
 | j::r,o::os,h=>by
  obtain⟨h1,h2,h3⟩:=h;have:=(zbb.mp h1).1;exact⟨by rw[List.getElem?_append_left this];exact h1,h2,Stk.push h3⟩
 | [],_::_,h=>h.elim
 | _::_,[],h=>h.elim
theorem Stk.lt{Ω:Sto}:∀ {r:List Nat} {os:List OS},Stk Ω r os->∀ i∈r,i<Ω.length
 | [],[],_=>fun i hi=>(nomatch hi)
 | j::r,o::os,h=>fun i hi=>by
  rcases List.mem_cons.mp hi with rfl|hi
  ·exact (zbb.mp h.1).1
  ·exact Stk.lt h.2.2 i hi
 | [],_::_,h=>h.elim
 | _::_,[],h=>h.elim
def fresh(n:Nat):OS:=⟨(List.replicate n 0,0),(List.replicate n 0,0),1,none⟩
def jvs{Ω:Sto}{n:Nat}(hn:n<=1000):jsx "OpenSum" ja4 [.int n] Ω=some (.ok (.obj Ω.length),Ω++[osO (fresh n)]):=by
 unfold jsx;have h:(Ω++[SO.ins "OpenSum" []])[Ω.length]? = some (.ins "OpenSum" []):=by simp
 rw[s_b,jCy h n hn];simp[fresh]
def KB:Nat:=90000
structure OkT(n:Nat)(b:OS)(f:Fm):Prop where
 lf:f.1.length=n
 bf:BF KB f
 bs:Bt KB b.sign
 pl:b.star≠none->BF KB b.term/\b.term.1.length=n/\(jb9 b.term=true\/jb9 f=true)
def jcr(w:Str):Bool:=inD (.str w) [.str "+",.str "-",.str "*"]
def jjr{w:Str}(h:jcr w=true):w="+"\/w="-"\/w="*":=by
 have:(("+":Str) == w || (("-":Str) == w || (("*":Str) == w || false)))=true:=h;simp only[Bool.or_eq_true,beq_iff_eq,Bool.false_eq_true,or_false] at this;rcases this with e|e|e
 ·exact .inl e.symm
 ·exact .inr (.inl e.symm)
 ·exact .inr (.inr e.symm)
def jhe(w:Str):gIn (.str w) (.tup [.str "+",.str "-",.str "*"])=some (.bl (jcr w)):=rfl
inductive Run(n:Nat)(ao:Str->Fm)(wd:Str->Prop):List (Str×Int)->List OS->List OS->Prop
 | nil (os:List OS):Run n ao wd [] os os
 | opn {ts:List (Str×Int)} {os bt:List OS} {p:Int}:Run n ao wd ts (fresh n::os) bt->Run n ao wd (("(",p)::ts) os bt
 | cls {ts:List (Str×Int)} {a b:OS} {r bt:List OS} {p:Int}:a.total.1.length=n->OkT n b (wholeF a)->Run n ao wd ts (takeF b (wholeF a)::r) bt->Run n ao wd ((")",p)::ts) (a::b::r) bt
 | sgn {ts:List (Str×Int)} {a:OS} {r bt:List OS} {c:Str} {p:Int}:jcr c=true->a.total.1.length=n->Run n ao wd ts (signF a c p::r) bt->Run n ao wd ((c,p)::ts) (a::r) bt
 | wrd {ts:List (Str×Int)} {a:OS} {r bt:List OS} {w:Str} {p:Int}:wd w->OkT n a (ao w)->Run n ao wd ts (takeF a (ao w)::r) bt->Run n ao wd ((w,p)::ts) (a::r) bt
def Run.append{n:Nat}{ao:Str->Fm}{wd:Str->Prop}{t1 t2:List (Str×Int)}{os jk ji:List OS}(h1:Run n ao wd t1 os jk)(h2:Run n ao wd t2 jk ji):Run n ao wd (t1++t2) os ji:=by
 induction h1 with
 | nil _=>exact h2
 | opn _ ih=>exact .opn (ih h2)
 | cls x y _ ih=>exact .cls x y (ih h2)
 | sgn x y _ ih=>exact .sgn x y (ih h2)
 | wrd x y _ ih=>exact .wrd x y (ih h2)
def jtv{α:Type}(xs:List α)(x:α):atI (xs++[x]) (-1)=some x:=by
 unfold atI ixN;rw[if_neg (by decide),if_pos (by rw[zcc];simp;omega)];have:(-1+(((xs++[x]).length:Nat):Int)).toNat=xs.length:=by rw[zcc];simp;omega
 rw[Option.bind_some,this];simp
def idsD(r:List Nat):D:=.lst (r.reverse.map .obj)
def jne(i:Nat)(r:List Nat):idsD (i::r)=.lst (r.reverse.map .obj++[.obj i]):=by unfold idsD;simp
section
variable {n:Nat}{nm pc:D}{x y z:Option D}{Ω:Sto}{i:Nat}{r:List Nat}{o:OS}{os:List OS}
def jp8:gIx (idsD (i::r)) (.int (-1))=some (.obj i):=by
 rw[jne];exact jtv _ _
def jkz{f:Str}{m:List D->MS D}{fl:DSt->MS (List D)}{Y:DSt}(h:Ω[i]? = some (osO o))(hf:([("total",fm o.total),("term",fm o.term),("term_sign",.int o.sign),("star",jn8 o.star)]:List (Str×D)).lookup f=none) :
  jnp "OpenSum" f m i fl Y Ω=((fl Y).b fun ds=>m (.obj i::ds)) Ω:=by
 unfold jnp;rw[h];show (if _/\_ then _ else _)=_;rw[if_pos ⟨rfl,hf⟩]
def RS1(nm pc:D)(r:List Nat)(Y:DSt):Prop:=∃ x y z,Y=[some nm,some pc,some (idsD r),x,y,z]
def jE0{i:Nat}{fa:DSt->MS D}{Y:DSt}{ds:List D}{d:D}{Ω Ω':Sto}(h:fa Y Ω=some (.ok d,Ω'))(hi:(Y[i]?).join=oL ds)(hl:ds.length<sizeLine):eApp i fa Y Ω=some (.ok (.nx (Y.set i (oL (ds++[d])))),Ω'):=by
 unfold eApp;rw[s_b,h,jho,hi];dsimp only;rw[if_pos hl];rfl
def jCw{r:List Nat}(hr:r.length<=1000000):(r.reverse.map D.obj).length<sizeLine:=by
 rw[zav,List.length_reverse,sizeLine_eq];exact Nat.lt_of_le_of_lt (by assumption) (by decide)
def jzp{p:Int}{L:List D}(hn:n<=1000)(hl:L.length=n)(S:Stk Ω r os)(hr:r.length<=1000000) :
  jbu [oL L,some pc,some (idsD r),some (.str "("),oI p,z] Ω=some (.ok (.nx [oL L,some pc,some (idsD (Ω.length::r)),some (.str "("),oI p,z]),Ω++[osO (fresh n)])/\Stk (Ω++[osO (fresh n)]) (Ω.length::r) (fresh n::os):=by
 refine⟨?_,by simp,fun hi=>Nat.lt_irrefl _ (S.lt _ hi),S.push⟩;unfold jbu;have q:((Str.ofString "(") == (Str.ofString "("))=true:=by decide +kernel
 have m:=jvs (Ω:=Ω) hn;have e:joy "OpenSum" ja4 (lF (jac (fL kLen (jac (vR 0) fNil)) fNil)) [oL L,some pc,some (idsD r),some (.str "("),oI p,z] Ω=some (.ok (.obj Ω.length),Ω++[osO (fresh n)]):=by
  have l:lF (jac (fL kLen (jac (vR 0) fNil)) fNil) [oL L,some pc,some (idsD r),some (.str "("),oI p,z] Ω=some (.ok [.int n],Ω):=by simp only[stsA,stpA,jnj,hl]
  rw[jw2,s_b,l,jho,m]
 generalize joy "OpenSum" ja4 (lF (jac (fL kLen (jac (vR 0) fNil)) fNil))=X at e |-
 have a:eApp 2 X [oL L,some pc,some (idsD r),some (.str "("),oI p,z] Ω=some (.ok (.nx [oL L,some pc,some (idsD (Ω.length::r)),some (.str "("),oI p,z]),Ω++[osO (fresh n)]):=by
  rw[jne];exact jE0 (i:=2) (ds:=r.reverse.map .obj) e rfl (jCw hr)
 have t:lF (t2 gEq (vR 3) (fC (.str "("))) [oL L,some pc,some (idsD r),some (.str "("),oI p,z] Ω=some (.ok true,Ω):=by simp only[stsA,stpA,jc9,q]
 rw[s_if,s_b,t,jho,if_pos rfl,a]
def jzq{c:Str}{p:Int}(hc:jcr c=true)(hn:n<=1000)(ht:o.total.1.length=n)(S:Stk Ω (i::r) (o::os)) :
  jbu [some nm,some pc,some (idsD (i::r)),oS c,oI p,z] Ω=some (.ok (.nx [some nm,some pc,some (idsD (i::r)),oS c,oI p,z]),Ω.set i (osO (signF o c p)))/\Stk (Ω.set i (osO (signF o c p))) (i::r) (signF o c p::os):=by
 refine⟨?_,jld S.1 _,S.2.1,S.2.2.set S.2.1⟩;unfold jbu;have q1:(c == Str.ofString "(")=false:=by rcases jjr hc with rfl|rfl|rfl<;>decide +kernel
 have q2:(c == Str.ofString ")")=false:=by rcases jjr hc with rfl|rfl|rfl<;>decide +kernel
 have x:=jEb (c:=c) (p:=p) S.1 (by omega);have y:=fun (fl:DSt->MS (List D)) (Y:DSt)=>jkz (m:=jbx) (fl:=fl) (Y:=Y) (f:="take_sign") S.1 rfl
 simp only[stsA,stpA,jc9,q1,q2,jhe,hc,neg_int,jp8,y,x]
def jzs{w:Str}{p:Int}{f:Fm}(h1:(w == Str.ofString "(")=false)(h2:(w == Str.ofString ")")=false)(h3:jcr w=false)(hf:jcu [nm,.str w]=oK (fm f))(hn:n<=1000)(T:OkT n o f)(S:Stk Ω (i::r) (o::os)) :
  jbu [some nm,some pc,some (idsD (i::r)),oS w,oI p,z] Ω=some (.ok (.nx [some nm,some pc,some (idsD (i::r)),oS w,oI p,z]),Ω.set i (osO (takeF o f)))/\Stk (Ω.set i (osO (takeF o f))) (i::r) (takeF o f::os):=by
 refine⟨?_,jld S.1 _,S.2.1,S.2.2.set S.2.1⟩;unfold jbu;have x:=jot (k:=KB) S.1 T.bf (by rw[T.lf];exact hn) (by decide) T.bs (fun z=>let ⟨a,b,c⟩:=T.pl z;⟨a,by omega,c⟩);have y:=fun (fl:DSt->MS (List D)) (Y:DSt)=>jkz (m:=ja3) (fl:=fl) (Y:=Y) (f:="take_factor") S.1 rfl
 simp only[stsA,stpA,jc9,h1,h2,jhe,h3,neg_int,jp8,y,hf,x]
def jzo{p:Int}{j:Nat}{b:OS}(hn:n<=1000)(ht:o.total.1.length=n)(T:OkT n b (wholeF o))(S:Stk Ω (i::j::r) (o::b::os)) :
  jbu [some nm,some pc,some (idsD (i::j::r)),some (.str ")"),oI p,z] Ω=some (.ok (.nx [some nm,some pc,some (idsD (j::r)),some (.str ")"),oI p,some (.obj i)]),Ω.set j (osO (takeF b (wholeF o))))/\Stk (Ω.set j (osO (takeF b (wholeF o)))) (j::r) (takeF b (wholeF o)::os):=by
 have Sb:=S.2.2;refine⟨?_,jld Sb.1 _,Sb.2.1,Sb.2.2.set Sb.2.1⟩;unfold jbu;have q1:(Str.ofString ")" == Str.ofString "(")=false:=by decide +kernel
 have q2:(Str.ofString ")" == Str.ofString ")")=true:=by decide +kernel
 have pp:ePop 5 2 [some nm,some pc,some (idsD (i::j::r)),some (.str ")"),oI p,z] Ω=some (.ok (.nx [some nm,some pc,some (idsD (j::r)),some (.str ")"),oI p,some (.obj i)]),Ω):=by
  unfold ePop;rw[jne];have e1:((j::r).reverse.map D.obj++[D.obj i])[((j::r).reverse.map D.obj++[D.obj i]).length-1]? = some (D.obj i):=by simp
  simp only[stpA];rw[e1];dsimp only;rw[List.dropLast_concat];rfl
 have w:=job S.1 (by omega);have x:=jot (k:=KB) Sb.1 T.bf (by rw[T.lf];exact hn) (by decide) T.bs (fun z=>let ⟨a,b,c⟩:=T.pl z;⟨a,by omega,c⟩);have y:=fun (fl:DSt->MS (List D)) (Y:DSt)=>jkz (m:=ja3) (fl:=fl) (Y:=Y) (f:="take_factor") Sb.1 rfl
 have y2:=fun (fl:DSt->MS (List D)) (Y:DSt)=>jkz (m:=ja9) (fl:=fl) (Y:=Y) (f:="whole") S.1 rfl
 simp only[stsA,stpA,jc9,q1,q2,pp,neg_int,jp8,y,y2,w,x]
end
end
section
def pcD(q:Str×Int):D:=.tup [.str q.1,.int q.2]
def jgy{g:DSt->MS Out}{tg:D->DSt->Option DSt}{d:D}{ds:List D}{Y Y1 Y2:DSt}{Ω Ω1:Sto}(h1:tg d Y=some Y1)(h2:g Y1 Ω=some (.ok (.nx Y2),Ω1)):forE g tg (d::ds) Y Ω=forE g tg ds Y2 Ω1:=by
 conv=>lhs;unfold forE
 rw[h1];dsimp only;rw[s_b,h2,jho]
structure Wd(nm:D)(ao:Str->Fm)(w:Str):Prop where
 p1:(w == Str.ofString "(")=false
 p2:(w == Str.ofString ")")=false
 p3:jcr w=false
 fw:jcu [nm,.str w]=oK (fm (ao w))
def Stk.inv{Ω:Sto}{a:OS}{os:List OS}{r:List Nat}(h:Stk Ω r (a::os)):∃ i r',r=i::r':=by
 cases r with
 | nil=>exact h.elim
 | cons i r'=>exact⟨i,r',rfl⟩
def jC1{n:Nat}{ao:Str->Fm}{L:List D}{pc:D}(hn:n<=1000)(hl:L.length=n){ts:List (Str×Int)}{os bt:List OS}(R:Run n ao (Wd (.lst L) ao) ts os bt) :
  ∀ (r:List Nat) (Ω:Sto) (Y:DSt),RS1 (.lst L) pc r Y->Stk Ω r os->r.length+ts.length<=1000000 ->
   ∃ Y' r' Ω',forE jbu (jf1 3 4) (ts.map pcD) Y Ω=some (.ok (.nx Y'),Ω')/\RS1 (.lst L) pc r' Y'/\Stk Ω' r' bt:=by
 induction R with
 | nil os=>intro r Ω Y h S _;exact⟨Y,r,Ω,rfl,h,S⟩
 | opn _ ih =>
  rename_i ts os bt p hR;intro r Ω Y h S hz;obtain⟨x,y,z,rfl⟩:=h;simp only[List.length_cons] at hz;obtain⟨e,S'⟩:=jzp (pc:=pc) (z:=z) (p:=p) hn hl S (by omega);rw[List.map_cons,jgy rfl e];exact ih _ _ _ ⟨_,_,_,rfl⟩ S' (by simp only[List.length_cons];omega)
 | cls ht T hR ih =>
  rename_i ts a b os bt p;intro r Ω Y h S hz;obtain⟨x,y,z,rfl⟩:=h;obtain⟨i,r1,rfl⟩:=S.inv;obtain⟨j,r2,rfl⟩:=Stk.inv S.2.2;simp only[List.length_cons] at hz;obtain⟨e,S'⟩:=jzo (nm:=.lst L) (pc:=pc) (z:=z) (p:=p) hn ht T S;rw[List.map_cons,jgy rfl e];exact ih _ _ _ ⟨_,_,_,rfl⟩ S' (by simp only[List.length_cons];omega)
 | sgn hc ht hR ih =>
  rename_i ts a os bt c p;intro r Ω Y h S hz;obtain⟨x,y,z,rfl⟩:=h;obtain⟨i,r1,rfl⟩:=S.inv;simp only[List.length_cons] at hz;obtain⟨e,S'⟩:=jzq (nm:=.lst L) (pc:=pc) (z:=z) (p:=p) hc hn ht S;rw[List.map_cons,jgy rfl e];exact ih _ _ _ ⟨_,_,_,rfl⟩ S' (by simp only[List.length_cons];omega)
 | wrd hw T hR ih =>
  rename_i ts a os bt w p;intro r Ω Y h S hz;obtain⟨x,y,z,rfl⟩:=h;obtain⟨i,r1,rfl⟩:=S.inv;simp only[List.length_cons] at hz;obtain⟨e,S'⟩:=jzs (pc:=pc) (z:=z) (p:=p) hw.p1 hw.p2 hw.p3 hw.fw hn T S;rw[List.map_cons,jgy rfl e];exact ih _ _ _ ⟨_,_,_,rfl⟩ S' (by simp only[List.length_cons];omega)
def jqo{n:Nat}{ao:Str->Fm}{L:List D}(hn:n<=1000)(hl:L.length=n){ts:List (Str×Int)}{a:OS}(R:Run n ao (Wd (.lst L) ao) ts [fresh n] [a])(ha:a.total.1.length=n)(hz:ts.length<=100000)(Ω:Sto) :
  ∃ Ω',jfq [.lst L,.lst (ts.map pcD)] Ω=some (.ok (fm (wholeF a)),Ω'):=by
 unfold jfq;rw[jw3];have m:=jvs (Ω:=Ω) hn;have e1:eSet 2 (mL jaw (jfm (joy "OpenSum" ja4 (lF (jac (fL kLen (jac (vR 0) fNil)) fNil))) (lF fNil))) [oL L,oL (ts.map pcD),none,none,none,none] Ω=some (.ok (.nx [oL L,oL (ts.map pcD),some (idsD [Ω.length]),none,none,none]),Ω++[osO (fresh n)]):=by
  have l:lF (jac (fL kLen (jac (vR 0) fNil)) fNil) [oL L,oL (ts.map pcD),none,none,none,none] Ω=some (.ok [.int n],Ω):=by simp only[stsA,stpA,jnj,hl]
  have e:joy "OpenSum" ja4 (lF (jac (fL kLen (jac (vR 0) fNil)) fNil)) [oL L,oL (ts.map pcD),none,none,none,none] Ω=some (.ok (.obj Ω.length),Ω++[osO (fresh n)]):=by
   rw[jw2,s_b,l,jho,m]
  rw[jHp,s_b,s_L,s_b,jBa,s_b,e,jho];rfl
 have S0:Stk (Ω++[osO (fresh n)]) [Ω.length] [fresh n]:=⟨by simp,by simp,trivial⟩
 obtain⟨Y',r',Ω',e2,⟨x,y,z,rfl⟩,S'⟩:=jC1 (pc:=.lst (ts.map pcD)) hn hl R [Ω.length] _ _ ⟨none,none,none,rfl⟩ S0 (by simp;omega);obtain⟨i,r1,rfl⟩:=S'.inv;have hr1:r1=[]:=by
  cases r1 with
  | nil=>rfl
  | cons _ _=>exact S'.2.2.elim
 subst hr1;have w:=job S'.1 (by omega);have y2:=fun (fl:DSt->MS (List D)) (Y:DSt)=>jkz (m:=ja9) (fl:=fl) (Y:=Y) (f:="whole") S'.1 rfl
 refine⟨Ω',?_⟩;show ((jhd [oL L,oL (ts.map pcD),none,none,none,none]).b outE) Ω=_;unfold jhd;have e3:eRet (jl2 "OpenSum" "whole" ja9 (lF (f2 gIx (vR 2) (cI 0))) (lF fNil)) [oL L,oL (ts.map pcD),some (idsD [i]),x,y,z] Ω'=some (.ok (.rt (fm (wholeF a))),Ω'):=by
  have i0:lF (f2 gIx (vR 2) (cI 0)) [oL L,oL (ts.map pcD),some (idsD [i]),x,y,z] Ω'=some (.ok (.obj i),Ω'):=by unfold idsD;simp only[stsA,stpA,List.reverse_cons,List.reverse_nil]
  rw[jHo,s_b,jBb,s_b,i0,jho];dsimp only;rw[y2,s_b,s_lF,jFl,s_lp,jho,w,jho];rfl
 have e4:eFor (lF (jil (vR 1))) (jf1 3 4) jbu [oL L,oL (ts.map pcD),some (idsD [Ω.length]),none,none,none] (Ω++[osO (fresh n)])=some (.ok (.nx [oL L,oL (ts.map pcD),some (idsD [i]),x,y,z]),Ω'):=by
  rw[jHl,s_b];have i0:lF (jil (vR 1)) [oL L,oL (ts.map pcD),some (idsD [Ω.length]),none,none,none] (Ω++[osO (fresh n)])=some (.ok (ts.map pcD),Ω++[osO (fresh n)]):=by simp only[stsA,stpA]
  rw[i0,jho,e2]
 rw[s_b,jD6,s_b,e1,jho,jqx,jD6,s_b,e4,jho,jqx,e3,jho];rfl
end
section
def jdy(f:Fm)(n:Int):(mulF f n).1.length=f.1.length:=by unfold mulF;simp
def jj6{f g:Fm}(h:f.1.length=g.1.length):(addF f g).1.length=f.1.length:=by unfold addF;simp;omega
def jns(f:Fm):mulF f 1=f:=by unfold mulF;simp
def jkc(f:Fm)(a b:Int):mulF (mulF f a) b=mulF f (a*b):=by
 unfold mulF;simp[List.map_map,Function.comp_def,Int.mul_assoc]
def jv0(f:Fm)(a b:Int):mulF (mulF f a) b=mulF (mulF f b) a:=by rw[jkc,jkc,Int.mul_comm]
def jwk{f:Fm}(h:jb9 f=true)(n:Int):jb9 (mulF f n)=true:=by
 unfold jb9 mulF at *;simp only[List.all_map,List.all_eq_true,Function.comp,beq_iff_eq] at *;intro c hc;rw[h c hc,Int.zero_mul]
def jr4{f:Fm}(h:jb9 f=true):f=(List.replicate f.1.length 0,f.2):=by
 obtain⟨cs,k⟩:=f;unfold jb9 at h;simp only[List.all_eq_true,beq_iff_eq] at h;have:cs=List.replicate cs.length 0:=List.eq_replicate_iff.mpr ⟨rfl,h⟩;simp only;rw[<- this]
def jke{f:Fm}:addF (List.replicate f.1.length 0,0) f=f:=by
 obtain⟨cs,k⟩:=f;unfold addF;simp only[Int.zero_add,Prod.mk.injEq,and_true]
 induction cs with
 | nil=>rfl
 | cons c cs ih=>rw[List.length_cons,List.replicate_succ,List.zip_cons_cons,List.map_cons,ih,Int.zero_add]
def jev{f g:Fm}(h:jb9 g=true):jfd f g=mulF f g.2:=by unfold jfd;rw[if_pos h]
def jg4{f g:Fm}(h:jb9 f=true)(hl:f.1.length=g.1.length):jfd f g=mulF g f.2:=by
 unfold jfd
 split
 ·rename_i hg;rw[jr4 h,jr4 hg,hl];unfold mulF;simp[Int.mul_comm]
 ·rfl
def BF.mono{j k:Nat}{f:Fm}(h:BF j f)(hk:j<=k):BF k f:=⟨fun c hc=>(h.1 c hc).mono hk,h.2.mono hk⟩
def BF.mul{j k:Nat}{f:Fm}{n:Int}(h:BF j f)(hn:Bt k n):BF (j+k) (mulF f n):=by
 refine⟨fun c hc=>?_,h.2.mul hn⟩;obtain⟨d,hd,rfl⟩:=zcv.mp hc;exact (h.1 d hd).mul hn
def BF.neg{j:Nat}{f:Fm}(h:BF j f):BF j (mulF f (-1)):=by
 refine⟨fun c hc=>?_,?_⟩
 ·obtain⟨d,hd,rfl⟩:=zcv.mp hc;have:=(h.1 d hd).neg;simpa[Int.mul_neg] using this
 ·have:=h.2.neg;show Bt j (f.2*-1);simpa[Int.mul_neg] using this
def BF.add{j:Nat}{f g:Fm}(h:BF j f)(k:BF j g):BF (j+1) (addF f g):=by
 refine⟨fun c hc=>?_,h.2.add k.2⟩;obtain⟨⟨a,b⟩,hd,rfl⟩:=zcv.mp hc;have:=List.of_mem_zip hd;exact (h.1 _ this.1).add (k.1 _ this.2)
def BF.sgn{j:Nat}{f:Fm}{s:Int}(h:BF j f)(hs:s=1\/s=-1):BF j (mulF f s):=by
 rcases hs with rfl|rfl
 ·rw[jns];exact h
 ·exact h.neg
section
variable {n:Nat}{ao:Str->Fm}{wd:Str->Prop}
structure FO(n:Nat)(f:Fm):Prop where
 len:f.1.length=n
 bf:BF KB f
variable (n ao wd) in
def jts(ts:List Str)(f:Fm):Prop:=∀ ps:List (Str×Int),ps.map (·.1)=ts->∀ o r,OkT n o f->Run n ao wd ps (o::r) (takeF o f::r)
variable (n ao wd) in
def jh9(ts:List Str)(f:Fm):Prop:=∀ ps:List (Str×Int),ps.map (·.1)=ts->∀ (o:OS) (r:List OS),o.star=none->(o.sign=1\/o.sign=-1)->o.total.1.length=n->∃ o',Run n ao wd ps (o::r) (o'::r)/\o'.total=o.total/\o'.term=mulF f o.sign/\(o'.sign=o.sign)
variable (n ao wd) in
def jjv(ts:List Str)(f:Fm):Prop:=∀ ps:List (Str×Int),ps.map (·.1)=ts->∀ r:List OS,∃ o',Run n ao wd ps (fresh n::r) (o'::r)/\wholeF o'=f/\o'.total.1.length=n/\o'.term.1.length=n
def jBc{s:Int}(h:s=1\/s=-1):Bt KB s:=by
 have:Bt 1 s:=by unfold Bt;rcases h with rfl|rfl<;>decide
 exact this.mono (by decide)
def jx4{w:Str}(hw:wd w):jts n ao wd [w] (ao w):=by
 intro ps hp o r T;obtain⟨q,ps',rfl⟩:∃ q ps',ps=q::ps':=by cases ps with|nil=>cases hp|cons q ps'=>exact⟨q,ps',rfl⟩
 obtain⟨w',p⟩:=q;simp only[List.map_cons,List.cons.injEq,List.map_eq_nil_iff] at hp;obtain⟨rfl,rfl⟩:=hp;exact .wrd hw T (.nil _)
def jqa{ps:List (Str×Int)}{a b:List Str}(h:ps.map (·.1)=a++b):∃ p1 p2,ps=p1++p2/\p1.map (·.1)=a/\p2.map (·.1)=b:=by
 obtain⟨p1,p2,e,h1,h2⟩:=List.map_eq_append_iff.mp h;exact⟨p1,p2,e,h1,h2⟩
def jkx{ps:List (Str×Int)}{a:Str}{b:List Str}(h:ps.map (·.1)=a::b):∃ p p2,ps=(a,p)::p2/\p2.map (·.1)=b:=by
 cases ps with
 | nil=>cases h
 | cons q ps =>
  obtain⟨w,p⟩:=q;simp only[List.map_cons,List.cons.injEq] at h;obtain⟨rfl,h⟩:=h;exact⟨p,ps,rfl,h⟩
def jux{ts:List Str}{f:Fm}(hs:jjv n ao wd ts f):jts n ao wd ((("(":Str)::ts)++[(")":Str)]) f:=by
 intro ps hp o r T;obtain⟨p1,p2,rfl,h1,h2⟩:=jqa hp;obtain⟨p,q1,rfl,h4⟩:=jkx h1;obtain⟨p',q2,rfl,h3⟩:=jkx h2;have h2':q2=[]:=List.map_eq_nil_iff.mp h3;subst h2';obtain⟨o',R,w,l1,l2⟩:=hs q1 h4 (o::r);refine .opn (R.append (.cls l1 (by rw[w];exact T) ?_));rw[w];exact .nil _
def jzw{ts:List Str}{f:Fm}(h:jts n ao wd ts f)(hf:FO n f):jh9 n ao wd ts f:=by
 intro ps hp o r hs hg _;refine⟨takeF o f,h ps hp o r ⟨hf.len,hf.bf,jBc hg,fun z=>absurd hs z⟩,rfl,?_,rfl⟩;unfold takeF;rw[hs]
def jvd:jcr "*"=true:=by decide +kernel
def jvc:jcr "+"=true:=by decide +kernel
def jnh:jcr "-"=true:=by decide +kernel
def jtf(o:OS)(p:Int):signF o "*" p={ o with star:=some p }:=if_pos rfl
def jte(o:OS)(p:Int):signF o "+" p=⟨wholeF o,o.term,1,none⟩:=by unfold signF;rw[if_neg (by decide +kernel),if_neg (by decide +kernel)]
def jlf(o:OS)(p:Int):signF o "-" p=⟨wholeF o,o.term,-1,none⟩:=by unfold signF;rw[if_neg (by decide +kernel),if_pos rfl]
def jzb(f g:Fm)(t:Int):jfd (mulF f t) g=mulF (jfd f g) t:=by
 unfold jfd
 split
 ·exact jv0 _ _ _
 ·show mulF g (f.2*t)=_;rw[jkc]
def jzx{ts us:List Str}{f g:Fm}(h1:jh9 n ao wd ts f)(h2:jts n ao wd us g)(hf:FO n f)(hg:FO n g)(hp:jb9 f=true\/jb9 g=true):jh9 n ao wd (ts++("*":Str)::us) (jfd f g):=by
 intro ps hps o r hs hsg ht;obtain⟨p1,p2,rfl,e1,e2⟩:=jqa hps;obtain⟨p,q2,rfl,e3⟩:=jkx e2;obtain⟨o1,R,t1,t2,t3⟩:=h1 p1 e1 o r hs hsg ht;have T:OkT n { o1 with star:=some p } g:=⟨hg.len,hg.bf,by show Bt KB o1.sign;rw[t3];exact jBc hsg,fun _=>by
  show BF KB o1.term/\o1.term.1.length=n/\_;rw[t2];exact⟨hf.bf.sgn hsg,by rw[jdy];exact hf.len,hp.imp (fun z=>jwk z _) id⟩⟩
 refine⟨takeF { o1 with star:=some p } g,R.append (.sgn jvd (by rw[t1];exact ht) ?_),t1,?_,t3⟩
 ·rw[jtf];exact h2 q2 e3 _ _ T
 ·show jfd o1.term g=_;rw[t2,jzb]
def jzu{ts:List Str}{f:Fm}(h:jh9 n ao wd ts f)(hf:FO n f):jjv n ao wd ts f:=by
 intro ps hp r;obtain⟨o',R,t1,t2,t3⟩:=h ps hp (fresh n) r rfl (.inl rfl) (by simp[fresh]);have e2:o'.term=f:=by rw[t2];exact jns f
 refine⟨o',R,?_,by rw[t1];simp[fresh],by rw[e2];exact hf.len⟩;unfold wholeF;rw[t1,e2,show (fresh n).total=(List.replicate f.1.length 0,0) by rw[hf.len];rfl];exact jke
def jEf{ts:List Str}{f:Fm}(h:jh9 n ao wd ts f)(hf:FO n f):jjv n ao wd (("-":Str)::ts) (mulF f (-1)):=by
 intro ps hp r;obtain⟨p,q,rfl,e⟩:=jkx hp;have hw:wholeF (fresh n)=(List.replicate n 0,0):=by
  have:=jke (f:=(List.replicate n 0,0));rw[List.length_replicate] at this;exact this
 obtain⟨o',R,t1,t2,t3⟩:=h q e ⟨wholeF (fresh n),(fresh n).term,-1,none⟩ r rfl (.inr rfl) (by rw[hw];simp);refine⟨o',.sgn jnh (by simp[fresh]) (by rw[jlf];exact R),?_,by rw[t1,hw];simp,by rw[t2,jdy];exact hf.len⟩;unfold wholeF;rw[t1,t2];show addF (wholeF (fresh n)) (mulF f (-1))=_;rw[hw];have:=jke (f:=mulF f (-1));rw[jdy,hf.len] at this;exact this
def jse{ts us:List Str}{f g:Fm}{c:Str}{t:Int}(h1:jjv n ao wd ts f)(h2:jh9 n ao wd us g)(hg:FO n g)(hc:jcr c=true)(ht:t=1\/t=-1)(hs:∀ o p,signF o c p=⟨wholeF o,o.term,t,none⟩):jjv n ao wd (ts++c::us) (addF f (mulF g t)):=by
 intro ps hps r;obtain⟨p1,p2,rfl,e1,e2⟩:=jqa hps;obtain⟨p,q2,rfl,e3⟩:=jkx e2;obtain⟨o1,R,w,l1,l2⟩:=h1 p1 e1 r;have hl:(wholeF o1).1.length=n:=by
  unfold wholeF;rw[jj6 (by omega)];exact l1
 obtain⟨o',R2,t1,t2,t3⟩:=h2 q2 e3 ⟨wholeF o1,o1.term,t,none⟩ r rfl ht hl;refine⟨o',R.append (.sgn hc l1 (by rw[hs];exact R2)),?_,by rw[t1];exact hl,by rw[t2,jdy];exact hg.len⟩;show addF o'.total o'.term=_;rw[t1,t2];show addF (wholeF o1) (mulF g t)=_;rw[w]
def jEd{ts us:List Str}{f g:Fm}(h1:jjv n ao wd ts f)(h2:jh9 n ao wd us g)(hg:FO n g):jjv n ao wd (ts++("+":Str)::us) (addF f g):=by
 have:=jse (t:=1) h1 h2 hg jvc (.inl rfl) jte
 rwa [jns] at this
def jEg{ts us:List Str}{f g:Fm}(h1:jjv n ao wd ts f)(h2:jh9 n ao wd us g)(hg:FO n g):jjv n ao wd (ts++("-":Str)::us) (addF f (mulF g (-1))) :=
 jse (t:=-1) h1 h2 hg jnh (.inr rfl) jlf
end
end
section
def S1(c:Nat):Str:=⟨#[c]⟩
def isL(c:Nat):Bool:=decide (97<=c)&&decide (c<=122)
def isG(c:Nat):Bool:=decide (48<=c)&&decide (c<=57)
def jry(a b:Nat):gLe (.str (S1 a)) (.str (S1 b))=some (.bl (decide (a<=b))):=by
 show some (D.bl (!decide ([b]<[a])))=_;have:([b]<[a])↔b<a:=by
  constructor
  ·intro h
   cases h with
   | rel h=>exact h
   | cons h=>cases h
  ·exact fun h=>.rel h
 simp only[this]
 by_cases q:a<=b
 ·rw[decide_eq_true q,decide_eq_false (by omega)];rfl
 ·rw[decide_eq_false q,decide_eq_true (by omega)];rfl
def jJf:(Str.ofString "a")=S1 97:=by decide +kernel
def jJg:(Str.ofString "z")=S1 122:=by decide +kernel
def jF9:(Str.ofString "0")=S1 48:=by decide +kernel
def jJe:(Str.ofString "9")=S1 57:=by decide +kernel
def jrd{g g':D->D->Option D}{fa fb fc:DSt->M D}{Y:DSt}{x y z:D}{p q:Bool}(ha:fa Y=M.p x)(hb:fb Y=M.p y)(hc:fc Y=M.p z)(h1:g x y=some (.bl p))(h2:g' y z=some (.bl q)):jos g g' fa fb fc Y=M.p (.bl (p&&q)):=by
 unfold jos;rw[ha,hb,M.b_p,M.b_p,h1]
 cases p with
 | true=>dsimp only;rw[hc,M.b_p,h2];rfl
 | false=>rfl
def jfl(c:Nat):jbq [.str (S1 c)]=oK (.bl (isL c)):=by
 unfold jbq;rw[jhr];unfold jh0;rw[jx1,jrd (x:=.str (S1 97)) (y:=.str (S1 c)) (z:=.str (S1 122)) (p:=decide (97<=c)) (q:=decide (c<=122)) (by rw[jJf];rfl) rfl (by rw[jJg];rfl) (jry _ _) (jry _ _)];rfl
def jkn(c:Nat):jc4 [.str (S1 c)]=oK (.bl (isG c)):=by
 unfold jc4;rw[jhr];unfold jhz;rw[jx1,jrd (x:=.str (S1 48)) (y:=.str (S1 c)) (z:=.str (S1 57)) (p:=decide (48<=c)) (q:=decide (c<=57)) (by rw[jF9];rfl) rfl (by rw[jJe];rfl) (jry _ _) (jry _ _)];rfl
def len_str{x:Str}(h:x.length<=50000):kLen [.str x]=oI x.length:=if_pos (by rw[sizeLine_eq];exact zdy (by assumption) (by decide))
structure At(x:Str)(pre rest:List Nat):Prop where
 eq:x.cps.toList=pre++rest
 small:x.length<=50000
def At.len{x:Str}{pre rest:List Nat}(h:At x pre rest):x.length=pre.length+rest.length:=by
 have:x.length=x.cps.toList.length:=by simp[Str.length]
 rw[this,h.eq,zcc]
def At.ix{x:Str}{pre rest:List Nat}{c:Nat}(h:At x pre (c::rest)):gIx (.str x) (.int (pre.length:Nat))=oS (S1 c):=by
 show (if x.length<=sizeLine then (atI x.cps.toList (pre.length:Nat)).map fun c=>D.str ⟨#[c]⟩ else none)=_;rw[if_pos (by rw[sizeLine_eq];have:=h.small;exact zdy (by assumption) (by decide)),h.eq,DL.atI_get (v:=c) (by simp)];rfl
def At.step{x:Str}{pre a rest:List Nat}(h:At x pre (a++rest)):At x (pre++a) rest:=⟨by rw[h.eq,List.append_assoc],h.small⟩
def At.slice{x:Str}{pre a rest:List Nat}(h:At x pre (a++rest)):Txt.slice x (some (pre.length:Nat)) (some ((pre.length+a.length:Nat):Int))=⟨a.toArray⟩:=by
 have hb:=PyProof.Rows.slice_closes (x:=x) (i:=(pre.length:Nat)) (j:=((pre.length+a.length:Nat):Int)) ⟨by exact Int.natCast_nonneg _,by omega,by rw[h.eq];simp;omega⟩;rw[eq_of_beq hb,h.eq];congr 2;have:((pre.length:Nat):Int).toNat=pre.length:=Int.toNat_natCast _;rw[this,List.drop_left];have:(((pre.length+a.length:Nat):Int)-(pre.length:Nat)).toNat=a.length:=by omega
 rw[this,List.take_left]
def At.cut{x:Str}{pre a rest:List Nat}(h:At x pre (a++rest)):cutD (.str x) (some (pre.length:Nat)) (some ((pre.length+a.length:Nat):Int))=oS ⟨a.toArray⟩:=by
 show (if x.length<=sizeLine then some (D.str (Txt.slice x _ _)) else none)=_;rw[if_pos (by rw[sizeLine_eq];have:=h.small;exact zdy (by assumption) (by decide)),h.slice]
def jgo{t:DSt->M Bool}{g:DSt->M Out}{k:Nat}{Y Y':DSt}(h1:t Y=some (.ok true))(h2:g Y=some (.ok (.nx Y'))):jbo t g (k+1) Y=jbo t g k Y':=by
 conv=>lhs;unfold jbo
 rw[h1,M.b_ok,if_pos rfl,h2,M.b_ok]
def jeg{t:DSt->M Bool}{g:DSt->M Out}{k:Nat}{Y:DSt}(h1:t Y=some (.ok false)):jbo t g (k+1) Y=nX Y:=by
 conv=>lhs;unfold jbo
 rw[h1,M.b_ok,if_neg (by decide)];rfl
def ed(x:Str)(p e:Nat):DSt:=[oS x,oI p,oI e]
def jIv(x:Str)(p e:Nat):jc0 (ed x p e)=nX (ed x p (e+1)):=by
 unfold jc0 ed;simp only[stpA,DL.add_int];rfl
def jIw(x:Str)(p e:Nat):jc1 (ed x p e)=nX (ed x p (e+1)):=by
 unfold jc1 ed;simp only[stpA,DL.add_int];rfl
def jHw{x:Str}{p:Nat}{pre rest:List Nat}{c:Nat}(h:At x pre (c::rest)):jbl (ed x p pre.length)=oK (isL c&&decide (pre.length<p+10)):=by
 unfold jbl ed;have hl:=h.len;rw[List.length_cons] at hl;have e1:decide (((pre.length:Nat):Int)<(x.length:Nat))=true:=decide_eq_true (by omega);simp only[stpA,len_str h.small,lt_int,e1,h.ix,jfl,sub_int]
 cases isL c with
 | false=>rfl
 | true =>
  have:decide (((pre.length:Nat):Int)-(p:Nat)<10)=decide (pre.length<p+10):=by
   by_cases q:pre.length<p+10
   ·rw[decide_eq_true q,decide_eq_true (by omega)]
   ·rw[decide_eq_false q,decide_eq_false (by omega)]
  simp only[stpA,this];rfl
def jHx{x:Str}{p:Nat}{pre:List Nat}(h:At x pre []):jbl (ed x p pre.length)=oK false:=by
 unfold jbl ed;have hl:=h.len;rw[List.length_nil] at hl;have e1:decide (((pre.length:Nat):Int)<(x.length:Nat))=false:=decide_eq_false (by omega);simp only[stpA,len_str h.small,lt_int,e1];rfl
def jH0{x:Str}{p:Nat}{pre rest:List Nat}{c:Nat}(h:At x pre (c::rest)):jbn (ed x p pre.length)=oK (isG c):=by
 unfold jbn ed;have hl:=h.len;rw[List.length_cons] at hl;have e1:decide (((pre.length:Nat):Int)<(x.length:Nat))=true:=decide_eq_true (by omega);simp only[stpA,len_str h.small,lt_int,e1,h.ix,jkn];rfl
def jH1{x:Str}{p:Nat}{pre:List Nat}(h:At x pre []):jbn (ed x p pre.length)=oK false:=by
 unfold jbn ed;have hl:=h.len;rw[List.length_nil] at hl;have e1:decide (((pre.length:Nat):Int)<(x.length:Nat))=false:=decide_eq_false (by omega);simp only[stpA,len_str h.small,lt_int,e1];rfl
def Stop(q:Nat->Bool):List Nat->Prop
 | []=>True
 | c::_=>q c=false
theorem jmh{x:Str}{p:Nat}{rest:List Nat}(hr:Stop isL rest):∀ (a pre:List Nat) (k:Nat),At x pre (a++rest)->(∀ c∈a,isL c=true)->pre.length+a.length<=p+10->a.length<k ->
  jbo jbl jc0 k (ed x p pre.length)=nX (ed x p (pre.length+a.length))
 | [],pre,k,h,ha,hb,hk=>by
  obtain⟨k,rfl⟩:∃ j,k=j+1:=⟨k-1,by simp at hk;omega⟩
  rw[List.nil_append] at h
  cases rest with
  | nil=>exact jeg (jHx h)
  | cons c rest =>
   have:isL c=false:=hr;exact jeg (by rw[jHw h,this];rfl)
 | c::a,pre,k,h,ha,hb,hk=>by
  obtain⟨k,rfl⟩:∃ j,k=j+1:=⟨k-1,by simp at hk;omega⟩
  rw[List.length_cons] at hb hk;have e:jbl (ed x p pre.length)=oK true:=by
   rw[jHw (rest:=a++rest) h,ha c zaa,decide_eq_true (show pre.length<p+10 by omega)];rfl
  rw[jgo e (jIv x p pre.length)];have h':At x (pre++[c]) (a++rest):=At.step (a:=[c]) h;have:=jmh (p:=p) hr a (pre++[c]) k h' (fun d hd=>ha d (zaw _ hd)) (by simp;omega) (by exact Nat.le_of_succ_le_succ (by assumption));rw[zcc,List.length_singleton] at this;rw[this,List.length_cons];rw[Nat.add_assoc,Nat.add_comm 1]
theorem jmb{x:Str}{p:Nat}{rest:List Nat}(hr:Stop isG rest):∀ (a pre:List Nat) (k:Nat),At x pre (a++rest)->(∀ c∈a,isG c=true)->a.length<k ->
  jbo jbn jc1 k (ed x p pre.length)=nX (ed x p (pre.length+a.length))
 | [],pre,k,h,ha,hk=>by
  obtain⟨k,rfl⟩:∃ j,k=j+1:=⟨k-1,by simp at hk;omega⟩
  rw[List.nil_append] at h
  cases rest with
  | nil=>exact jeg (jH1 h)
  | cons c rest =>
   have:isG c=false:=hr;exact jeg (by rw[jH0 h,this])
 | c::a,pre,k,h,ha,hk=>by
  obtain⟨k,rfl⟩:∃ j,k=j+1:=⟨k-1,by simp at hk;omega⟩
  rw[List.length_cons] at hk;have e:jbn (ed x p pre.length)=oK true:=by
   rw[jH0 (rest:=a++rest) h,ha c zaa]
  rw[jgo e (jIw x p pre.length)];have h':At x (pre++[c]) (a++rest):=At.step (a:=[c]) h;have:=jmb (p:=p) hr a (pre++[c]) k h' (fun d hd=>ha d (zaw _ hd)) (by exact Nat.le_of_succ_le_succ (by assumption));rw[zcc,List.length_singleton] at this;rw[this,List.length_cons];rw[Nat.add_assoc,Nat.add_comm 1]
inductive Piece:List Nat->List Nat->Prop
 | sign {c:Nat} {rest:List Nat}:isL c=false->isG c=false->Piece [c] rest
 | zero {rest:List Nat}:Piece [48] rest
 | name {a rest:List Nat}:a≠[]->(∀ c∈a,isL c=true)->a.length<=10->Stop isL rest->Piece a rest
 | num {a rest:List Nat}:a≠[]->(∀ c∈a,isG c=true)->a.head?≠some 48->Stop isG rest->Piece a rest
def jng{c:Nat}(h:isG c=true):isL c=false:=by
 unfold isG isL at *;simp only[Bool.and_eq_true,decide_eq_true_eq] at h;rw[decide_eq_false (by omega)];rfl
def jDa(c:Nat):gNe (.str (S1 c)) (.str "0")=some (.bl !(c == 48)):=by
 rw[jF9];show some (D.bl !(S1 c == S1 48))=_;have:(S1 c == S1 48)=(c == 48):=by
  by_cases q:c=48
  ·subst q;simp
  ·rw[beq_eq_false_iff_ne.mpr q,beq_eq_false_iff_ne.mpr (fun z=>q (by unfold S1 at z;simpa using z))]
 rw[this]
def jaz{g1 g2:DSt->M Out}{Y Y':DSt}(h:g1 Y=some (.ok (.nx Y'))):gSeq g1 g2 Y=g2 Y':=by rw[jor,h,M.b_ok,jw7]
def jfk{t:DSt->M Bool}{g1 g2:DSt->M Out}{Y:DSt}{b:Bool}(h:t Y=some (.ok b)):gIf t g1 g2 Y=if b=true then g1 Y else g2 Y:=by rw[jCk,h,M.b_ok]
def jFr{x:Str}{pre a rest:List Nat}(h:At x pre (a++rest))(P:Piece a rest)(hf:x.length<FUEL):jct [.str x,.int (pre.length:Nat)]=oK (.int ((pre.length+a.length:Nat):Int)):=by
 have df:a≠[]:=by cases P<;>first|assumption|simp
 obtain⟨c,a',rfl⟩:∃ c a',a=c::a':=by cases a with|nil=>exact absurd rfl df|cons c a'=>exact⟨c,a',rfl⟩
 have ix:gIx (.str x) (.int (pre.length:Nat))=oS (S1 c):=At.ix (rest:=a'++rest) h;have h':At x (pre++[c]) (a'++rest):=At.step (a:=[c]) h;have hl:=h.len;rw[zcc,List.length_cons] at hl;have hp:(pre++[c]).length=pre.length+1:=by simp
 have s0:gSet 2 (f2 gCat (vR 1) (cI 1)) [oS x,oI (pre.length:Nat),none]=nX (ed x pre.length (pre++[c]).length):=by
  unfold ed;simp only[stpA,hp];rfl
 have t1:tTru (jay jbq (jac (f2 gIx (vR 0) (vR 1)) fNil)) (ed x pre.length (pre++[c]).length)=oK (isL c):=by
  unfold ed;simp only[stpA,ix,jfl];rfl
 have t2:DL.tAnd (tTru (jay jc4 (jac (f2 gIx (vR 0) (vR 1)) fNil))) (t2 gNe (f2 gIx (vR 0) (vR 1)) (cS "0")) (ed x pre.length (pre++[c]).length)=oK (isG c&&!(c == 48)):=by
  unfold ed;simp only[stpA,ix,jkn,jDa];cases isG c<;>rfl
 have body:gIf (tTru (jay jbq (jac (f2 gIx (vR 0) (vR 1)) fNil))) (jbo jbl jc0 FUEL) (gIf (DL.tAnd (tTru (jay jc4 (jac (f2 gIx (vR 0) (vR 1)) fNil))) (DL.t2 gNe (f2 gIx (vR 0) (vR 1)) (cS "0"))) (jbo jbn jc1 FUEL) gNx) (ed x pre.length (pre++[c]).length)=nX (ed x pre.length ((pre++[c]).length+a'.length)):=by
  rw[jfk t1,jfk t2]
  cases P with
  | sign q1 q2=>rw[q1,q2];rfl
  | zero=>rfl
  | name _ q1 q2 q3 =>
   rw[q1 c zaa,if_pos rfl];exact jmh q3 a' (pre++[c]) FUEL h' (fun d hd=>q1 d (zaw _ hd)) (by rw[hp];simp at q2;omega) (by omega)
  | num _ q1 q2 q3 =>
   have hg:=q1 c zaa;have hc:(c == 48)=false:=beq_eq_false_iff_ne.mpr (fun z=>q2 (by rw[z];rfl));rw[jng hg,hg,hc,if_neg (by decide),if_pos (by decide)];exact jmb q3 a' (pre++[c]) FUEL h' (fun d hd=>q1 d (zaw _ hd)) (by omega)
 unfold jct;rw[jfg];show (jd9 [oS x,oI (pre.length:Nat),none]).b outD=_;unfold jd9;rw[jaz s0,jaz body];unfold ed;simp only[stpA];rw[hp,List.length_cons,show pre.length+1+a'.length=pre.length+(a'.length+1) by omega];rfl
end
section
def St(a:List Nat):Str:=⟨a.toArray⟩
abbrev sT(a:List Nat):D:=.str (St a)
def jiz(a:List Nat):(St a).length=a.length:=by simp[St,Str.length]
def jsd(c:Nat):St [c]=S1 c:=rfl
def jHt{a b:List Nat}(h:St a=St b):a=b:=by
 unfold St at h;simpa using h
def jfb(a b:List Nat):(St a == St b)=(a == b):=by
 by_cases q:a=b
 ·subst q;simp
 ·rw[beq_eq_false_iff_ne.mpr q,beq_eq_false_iff_ne.mpr (fun z=>q (jHt z))]
def jnl:(Str.ofString "(")=St [40]:=by decide +kernel
def jow:(Str.ofString ")")=St [41]:=by decide +kernel
def jox:(Str.ofString "-")=St [45]:=by decide +kernel
def jsw:(Str.ofString "+")=St [43]:=by decide +kernel
def jkv:(Str.ofString "*")=St [42]:=by decide +kernel
def jJl:(Str.ofString " ")=St [32]:=by decide +kernel
def jlg(a:List Nat):jcr (St a)=([43] == a || ([45] == a || ([42] == a || false))):=by
 unfold jcr;rw[jsw,jox,jkv];show (St [43] == St a || (St [45] == St a || (St [42] == St a || false)))=_;rw[jfb,jfb,jfb]
def jE3:(Str.ofString "behind" == Str.ofString "behind")=true:=by decide +kernel
def jIu:(Str.ofString "beginning" == Str.ofString "behind")=false:=by decide +kernel
def jti{c:Nat}{d:Int}(h:jcr (St [c])=true):jbb [.str (S1 c),.str "behind",.int d]=oK (.bl true):=by
 unfold jbb;rw[jkm];unfold jd4;have e:gIn (.str (S1 c)) (.tup [.str "+",.str "-",.str "*"])=some (.bl true):=by rw[jhe,<- jsd,h]
 have t:DL.t2 gEq (vR 1) (cS "behind") [oS (S1 c),oS "behind",oI d]=oK true:=by simp only[stpA,jc9,jE3];rfl
 show (gSeq _ _ [oS (S1 c),oS "behind",oI d]).b outD=_;rw[jor,jfk t,if_pos rfl];simp only[stpA,e_or,e,jJo];rfl
def jxd{d:Int}(h:0<d):jbb [.str (S1 41),.str "behind",.int d]=oK (.bl true):=by
 unfold jbb;rw[jkm];unfold jd4;have e:gIn (.str (S1 41)) (.tup [.str "+",.str "-",.str "*"])=some (.bl false):=by rw[jhe,<- jsd,jlg];rfl
 have t:DL.t2 gEq (vR 1) (cS "behind") [oS (S1 41),oS "behind",oI d]=oK true:=by simp only[stpA,jc9,jE3];rfl
 have q:(S1 41 == Str.ofString ")")=true:=by decide +kernel
 show (gSeq _ _ [oS (S1 41),oS "behind",oI d]).b outD=_;rw[jor,jfk t,if_pos rfl];simp only[stpA,e_or,e,jGu,jCg,jc9,q,jz5,gt_int,decide_eq_true h];rfl
def jxe{d:Int}:jbb [.str (S1 45),.str "beginning",.int d]=oK (.bl true):=by
 unfold jbb;rw[jkm];unfold jd4;have t:DL.t2 gEq (vR 1) (cS "behind") [oS (S1 45),oS "beginning",oI d]=oK false:=by simp only[stpA,jc9,jIu];rfl
 have q:(S1 45 == Str.ofString "-")=true:=by decide +kernel
 have q2:(Str.ofString "beginning" == Str.ofString "beginning")=true:=by decide +kernel
 have cb:DL.t2 gEq (vR 0) (cS "-") [oS (S1 45),oS "beginning",oI d]=oK true:=by simp only[stpA,jc9,q];rfl
 show (gSeq _ _ [oS (S1 45),oS "beginning",oI d]).b outD=_;rw[jaz (Y':=[oS (S1 45),oS "beginning",oI d]) (by rw[jfk t,if_neg (by decide)];rfl),jor,jfk cb,if_pos rfl];simp only[stpA,jc9,q2];rfl
def jpu{c:Nat}{wt:Str}{d:Int}(hw:(wt == Str.ofString "behind")=false)(hc:c≠45)(h:c=40\/isL c=true\/isG c=true):jbb [.str (S1 c),.str wt,.int d]=oK (.bl true):=by
 unfold jbb;rw[jkm];unfold jd4;have t:DL.t2 gEq (vR 1) (cS "behind") [oS (S1 c),oS wt,oI d]=oK false:=by simp only[stpA,jc9,hw];rfl
 have q:(S1 c == Str.ofString "-")=false:=by rw[jox,<- jsd,jfb];exact beq_eq_false_iff_ne.mpr (by simpa using hc)
 have cb:DL.t2 gEq (vR 0) (cS "-") [oS (S1 c),oS wt,oI d]=oK false:=by simp only[stpA,jc9,q];rfl
 show (gSeq _ _ [oS (S1 c),oS wt,oI d]).b outD=_;rw[jaz (Y':=[oS (S1 c),oS wt,oI d]) (by rw[jfk t,if_neg (by decide)];rfl),jaz (Y':=[oS (S1 c),oS wt,oI d]) (by rw[jfk cb,if_neg (by decide)];rfl)];have q2:(S1 c == Str.ofString "(")=(c == 40):=by rw[jnl,<- jsd,jfb];simp
 simp only[stpA,e_or,jc9,q2,jfl,jkn]
 by_cases h1:c=40
 ·subst h1;rfl
 ·rw[beq_eq_false_iff_ne.mpr h1,jGu];rcases h with h|h|h
  ·exact absurd h h1
  ·rw[h];rfl
  ·rw[h];cases isL c<;>rfl
def dby(a:List Nat):Int:=if a=[40] then 1 else if a=[41] then -1 else 0
def wby(a:List Nat):Str:=if a=[40] then "beginning" else if jcr (St a)=true then "factor" else "behind"
def jxx(a:List Nat):jfn [sT a]=oK (.int (dby a)):=by
 unfold jfn;rw[jhr];unfold ji9 dby;have q1:(St a == Str.ofString "(")=(a == [40]):=by rw[jnl,jfb]
 have q2:(St a == Str.ofString ")")=(a == [41]):=by rw[jow,jfb]
 simp only[stpA,jc9,q1,q2]
 by_cases h:a=[40]
 ·rw[beq_iff_eq.mpr h,if_pos h];rfl
 ·rw[beq_eq_false_iff_ne.mpr h,if_neg h];simp only[stpA,jc9,q2]
  by_cases h2:a=[41]
  ·rw[beq_iff_eq.mpr h2,if_pos h2];rfl
  ·rw[beq_eq_false_iff_ne.mpr h2,if_neg h2];rfl
def jxm(a:List Nat):jc6 [sT a]=oK (.str (wby a)):=by
 unfold jc6;rw[jhr];unfold je1 wby;have q1:(St a == Str.ofString "(")=(a == [40]):=by rw[jnl,jfb]
 simp only[stpA,jc9,q1,jhe]
 by_cases h:a=[40]
 ·rw[beq_iff_eq.mpr h,if_pos h];rfl
 ·rw[beq_eq_false_iff_ne.mpr h,if_neg h];simp only[stpA,jhe];cases jcr (St a)<;>rfl
def pd(x:Str)(ps:List (Str×Int))(d:Int)(wt:Str)(pl:Nat)(e w:Option D):DSt:=[oS x,oL (ps.map pcD),oI d,oS wt,oI pl,e,w]
def jw9{fa:DSt->M D}{fl fh:DSt->M (Option Int)}{Y:DSt}{x d:D}{lo hi:Option Int}(ha:fa Y=M.p x)(hl:fl Y=M.p lo)(hh:fh Y=M.p hi)(h:cutD x lo hi=some d):fSl fa fl fh Y=M.p d:=by
 unfold fSl;rw[ha,hl,hh];show M.o (cutD x lo hi)=_;rw[h];rfl
def jtu{i:Nat}{fa:DSt->M D}{Y:DSt}{ds:List D}{d:D}(h:fa Y=M.p d)(hi:(Y[i]?).join=oL ds)(hl:ds.length<sizeLine):gApp i fa Y=nX (Y.set i (oL (ds++[d]))):=by
 rw[jCh,h,M.b_p,hi,jq4 hl];rfl
def jme{x:Str}{pre a rest:List Nat}{ps:List (Str×Int)}{d:Int}{wt:Str}{e w:Option D}(h:At x pre (a++rest))(P:Piece a rest)(hf:x.length<FUEL){G:DSt->M Out} :
  gSeq (gSet 5 (jay jct (jac (vR 0) (jac (vR 4) fNil)))) (gSeq (gSet 6 (fSl (vR 0) (jcv (vR 4)) (jcv (vR 5)))) G) (pd x ps d wt pre.length e w)=G (pd x ps d wt pre.length (oI ((pre.length+a.length:Nat):Int)) (some (sT a))):=by
 have e1:gSet 5 (jay jct (jac (vR 0) (jac (vR 4) fNil))) (pd x ps d wt pre.length e w)=nX (pd x ps d wt pre.length (oI ((pre.length+a.length:Nat):Int)) w):=by
  have:=jFr h P hf;unfold pd;simp only[stpA,this];rfl
 have e2:gSet 6 (fSl (vR 0) (jcv (vR 4)) (jcv (vR 5))) (pd x ps d wt pre.length (oI ((pre.length+a.length:Nat):Int)) w)=nX (pd x ps d wt pre.length (oI ((pre.length+a.length:Nat):Int)) (some (sT a))):=by
  have:=jw9 (fa:=vR 0) (fl:=jcv (vR 4)) (fh:=jcv (vR 5)) (Y:=pd x ps d wt pre.length (oI ((pre.length+a.length:Nat):Int)) w) rfl rfl rfl h.cut;rw[juw,this];rfl
 rw[jaz e1,jaz e2]
def jGm(a:List Nat):gNe (sT a) (.str " ")=some (.bl !(a == [32])):=by
 rw[jJl];show some (D.bl !(St a == St [32]))=_;rw[jfb]
def jtj{x:Str}{pre rest:List Nat}{ps:List (Str×Int)}{d:Int}{wt:Str}{e w:Option D}(h:At x pre (32::rest))(hf:x.length<FUEL) :
  ∃ e' w',jbj (pd x ps d wt pre.length e w)=nX (pd x ps d wt (pre++[32]).length e' w'):=by
 have P:Piece [32] rest:=.sign rfl rfl;refine⟨oI ((pre.length+[32].length:Nat):Int),some (sT [32]),?_⟩
 ·unfold jbj;rw[jme (a:=[32]) h P hf];have t:DL.t2 gNe (vR 6) (fC (.str " ")) (pd x ps d wt pre.length (oI ((pre.length+[32].length:Nat):Int)) (some (sT [32])))=oK false:=by
   unfold pd;simp only[stpA,jGm];rfl
  rw[jaz (Y':=pd x ps d wt pre.length (oI ((pre.length+[32].length:Nat):Int)) (some (sT [32]))) (by rw[jfk t,if_neg (by decide)];rfl)];unfold pd;simp only[stpA,zcc];rfl
def jzr{x:Str}{pre a rest:List Nat}{c:Nat}{ps:List (Str×Int)}{d:Int}{wt:Str}{e w:Option D}(h:At x pre ((c::a)++rest))(P:Piece (c::a) rest)(hf:x.length<FUEL)(hs:(c::a)≠[32])(hm:jbb [.str (S1 c),.str wt,.int d]=oK (.bl true))(hz:ps.length<=100000) :
  ∃ e' w',jbj (pd x ps d wt pre.length e w)=nX (pd x (ps++[(St (c::a),(pre.length:Int))]) (d+dby (c::a)) (wby (c::a)) (pre++(c::a)).length e' w'):=by
 refine⟨oI ((pre.length+(c::a).length:Nat):Int),some (sT (c::a)),?_⟩
 ·unfold jbj;rw[jme h P hf];have hx:(St (c::a)).length<=50000:=by
   have:=h.len;rw[jiz];have hsm:=h.small;simp at this |-
   omega
  have ix:gIx (sT (c::a)) (.int 0)=oS (S1 c):=by
   show (if (St (c::a)).length<=sizeLine then (atI (St (c::a)).cps.toList 0).map fun c=>D.str ⟨#[c]⟩ else none)=_;rw[if_pos (by rw[sizeLine_eq];omega)];unfold St;simp;rfl
  let Y1:=pd x ps d wt pre.length (oI ((pre.length+(c::a).length:Nat):Int)) (some (sT (c::a)))
  have t:DL.t2 gNe (vR 6) (fC (.str " ")) Y1=oK true:=by
   show DL.t2 gNe (vR 6) (fC (.str " ")) (pd _ _ _ _ _ _ _)=_;unfold pd;simp only[stpA,jGm];rw[beq_eq_false_iff_ne.mpr hs];rfl
  have t0:DL.tNot (tTru (jay jbb (jac (f2 gIx (vR 6) (cI 0)) (jac (vR 3) (jac (vR 2) fNil))))) Y1=oK false:=by
   show DL.tNot _ (pd _ _ _ _ _ _ _)=_;unfold pd;simp only[stpA,ix,hm];rfl
  have t1:gIf (DL.tNot (tTru (jay jbb (jac (f2 gIx (vR 6) (cI 0)) (jac (vR 3) (jac (vR 2) fNil)))))) jmc gNx Y1=nX Y1:=by
   rw[jfk t0,if_neg (by decide)];rfl
  let Y2:=pd x (ps++[(St (c::a),(pre.length:Int))]) d wt pre.length (oI ((pre.length+(c::a).length:Nat):Int)) (some (sT (c::a)))
  have cb:gApp 1 (fL jb2 (jac (vR 6) (jac (vR 4) fNil))) Y1=nX Y2:=by
   have:=jtu (i:=1) (fa:=fL jb2 (jac (vR 6) (jac (vR 4) fNil))) (Y:=Y1) (ds:=ps.map pcD) (d:=pcD (St (c::a),(pre.length:Int))) rfl rfl (by rw[zav,sizeLine_eq];omega);rw[this];show some (Except.ok (Out.nx (List.set (pd _ _ _ _ _ _ _) 1 _)))=nX (pd _ _ _ _ _ _ _);unfold pd;rw[List.map_append];rfl
  let Y3:=pd x (ps++[(St (c::a),(pre.length:Int))]) (d+dby (c::a)) wt pre.length (oI ((pre.length+(c::a).length:Nat):Int)) (some (sT (c::a)))
  have t3:gAug 2 gAdd (jay jfn (jac (vR 6) fNil)) Y2=nX Y3:=by
   show gAug _ _ _ (pd _ _ _ _ _ _ _)=nX (pd _ _ _ _ _ _ _);unfold pd;simp only[stpA,jxx,DL.add_int];rfl
  let Y4:=pd x (ps++[(St (c::a),(pre.length:Int))]) (d+dby (c::a)) (wby (c::a)) pre.length (oI ((pre.length+(c::a).length:Nat):Int)) (some (sT (c::a)))
  have t4:gSet 3 (jay jc6 (jac (vR 6) fNil)) Y3=nX Y4:=by
   show gSet _ _ (pd _ _ _ _ _ _ _)=nX (pd _ _ _ _ _ _ _);unfold pd;simp only[stpA,jxm];rfl
  rw[jaz (Y':=Y4) (by rw[jfk t,if_pos rfl,jaz t1,jaz cb,jaz t3,t4])];show gSet 4 (vR 5) (pd _ _ _ _ _ _ _)=nX (pd _ _ _ _ _ _ _);unfold pd;rw[zcc];rfl
end
section
inductive Word:List Nat->Prop
 | zero:Word [48]
 | name {a:List Nat}:a≠[]->(∀ c∈a,isL c=true)->a.length<=10->Word a
 | num {a:List Nat}:a≠[]->(∀ c∈a,isG c=true)->a.head?≠some 48->Word a
inductive Acc:LL->Str->Nat->Prop
 | done:Acc [] "behind" 0
 | word {a:List Nat} {ts:LL} {wt:Str} {d:Nat}:Word a->(wt == Str.ofString "behind")=false->Acc ts "behind" d->Acc (a::ts) wt d
 | opn {ts:LL} {wt:Str} {d:Nat}:(wt == Str.ofString "behind")=false->Acc ts "beginning" (d+1)->Acc ([40]::ts) wt d
 | cls {ts:LL} {d:Nat}:Acc ts "behind" d->Acc ([41]::ts) "behind" (d+1)
 | neg {ts:LL} {d:Nat}:Acc ts "factor" d->Acc ([45]::ts) "beginning" d
 | bin {a:Nat} {ts:LL} {d:Nat}:jcr (St [a])=true->Acc ts "factor" d->Acc ([a]::ts) "behind" d
def jca:List (Nat×List Nat)->Nat->List Nat
 | [],p=>List.replicate p 32
 | (k,a)::s,p=>List.replicate k 32++(a++jca s p)
def jhl{a:Nat}(h:jcr (St [a])=true):a=43\/a=45\/a=42:=by
 rw[jlg] at h;simp at h;omega
def jqy{q:Nat->Bool}(d9:q 32=false)(h41:q 41=false)(hs:q 43=false/\q 45=false/\q 42=false):∀ (ae:List (Nat×List Nat)) (p d:Nat),Acc (ae.map (·.2)) "behind" d->Stop q (jca ae p)
 | [],0,_,_=>trivial
 | [],p+1,_,_=>d9
 | (k+1,a)::s,p,_,_=>d9
 | (0,a)::s,p,d,h=>by
  rw[List.map_cons] at h;generalize hw:(Str.ofString "behind")=wt at h;show Stop q ([]++(a++jca s p));rw[List.nil_append]
  cases h with
  | word _ hb _=>rw[<- hw] at hb;exact absurd hb (by decide +kernel)
  | opn hb _=>rw[<- hw] at hb;exact absurd hb (by decide +kernel)
  | cls _=>exact h41
  | neg _=>exact absurd hw (by decide +kernel)
  | bin hc _ =>
   rename_i c _;show q c=false;rcases jhl hc with rfl|rfl|rfl
   ·exact hs.1
   ·exact hs.2.1
   ·exact hs.2.2
def jHv{x:Str}{pre rest:List Nat}{c:Nat}{ps:List (Str×Int)}{d:Int}{wt:Str}{e w:Option D}(h:At x pre (c::rest)):jbm (pd x ps d wt pre.length e w)=oK true:=by
 unfold jbm pd;have hl:=h.len;rw[List.length_cons] at hl;simp only[stpA,len_str h.small,lt_int,decide_eq_true (show ((pre.length:Nat):Int)<(x.length:Nat) by omega)];rfl
def jHu{x:Str}{pre:List Nat}{ps:List (Str×Int)}{d:Int}{wt:Str}{e w:Option D}(h:At x pre []):jbm (pd x ps d wt pre.length e w)=oK false:=by
 unfold jbm pd;have hl:=h.len;rw[List.length_nil] at hl;simp only[stpA,len_str h.small,lt_int,decide_eq_false (show ¬ ((pre.length:Nat):Int)<(x.length:Nat) by omega)];rfl
theorem jli{x:Str}{rest:List Nat}{ps:List (Str×Int)}{d:Int}{wt:Str}(hf:x.length<FUEL):∀ (k:Nat) (pre:List Nat) (m:Nat) (e w:Option D),At x pre (List.replicate k 32++rest) ->
  ∃ e' w',jbo jbm jbj (m+k) (pd x ps d wt pre.length e w)=jbo jbm jbj m (pd x ps d wt (pre++List.replicate k 32).length e' w')/\At x (pre++List.replicate k 32) rest
 | 0,pre,m,e,w,h=>⟨e,w,by simp,by simpa using h⟩
 | k+1,pre,m,e,w,h=>by
  rw[List.replicate_succ,List.cons_append] at h;obtain⟨e1,w1,q⟩:=jtj (ps:=ps) (d:=d) (wt:=wt) (e:=e) (w:=w) h hf;obtain⟨e2,w2,q2,h2⟩:=jli hf k (pre++[32]) m e1 w1 (At.step (a:=[32]) h);refine⟨e2,w2,?_,?_⟩
  ·rw[<- Nat.add_assoc,jgo (jHv h) q,q2];congr 2;simp
  ·rw[List.replicate_succ];simpa using h2
def jH5{x:Str}{pre a rest:List Nat}{c:Nat}{ps:List (Str×Int)}{d:Int}{wt:Str}{e w:Option D}{m:Nat}(h:At x pre ((c::a)++rest))(P:Piece (c::a) rest)(hf:x.length<FUEL)(hs:(c::a)≠[32])(hm:jbb [.str (S1 c),.str wt,.int d]=oK (.bl true))(hz:ps.length<=100000) :
  ∃ e' w',jbo jbm jbj (m+1) (pd x ps d wt pre.length e w)=jbo jbm jbj m (pd x (ps++[(St (c::a),(pre.length:Int))]) (d+dby (c::a)) (wby (c::a)) (pre++(c::a)).length e' w')/\At x (pre++(c::a)) rest:=by
 obtain⟨e',w',q⟩:=jzr (e:=e) (w:=w) h P hf hs hm hz;exact⟨e',w',jgo (jHv (rest:=a++rest) h) q,h.step⟩
def jd7{a:List Nat}(h:Word a):dby a=0/\wby a="behind"/\a≠[32]/\∃ c a',a=c::a'/\c≠45/\(isL c=true\/isG c=true):=by
 have gw:∃ c a',a=c::a'/\(isL c=true\/isG c=true):=by
  cases h with
  | zero=>exact⟨48,[],rfl,.inr rfl⟩
  | name h1 h2 _=>cases a with
   | nil=>exact absurd rfl h1
   | cons c a'=>exact⟨c,a',rfl,.inl (h2 c zaa)⟩
  | num h1 h2 _=>cases a with
   | nil=>exact absurd rfl h1
   | cons c a'=>exact⟨c,a',rfl,.inr (h2 c zaa)⟩
 obtain⟨c,a',rfl,hc⟩:=gw;have ne:∀ k,isL k=false->isG k=false->c≠k:=fun k h1 h2 z=>by subst z;rw[h1,h2] at hc;simp at hc
 have n1:=ne 40 rfl rfl;have n2:=ne 41 rfl rfl;have n3:=ne 32 rfl rfl;have n4:=ne 45 rfl rfl;have n5:=ne 43 rfl rfl;have n6:=ne 42 rfl rfl;have s:jcr (St (c::a'))=false:=by
  rw[jlg];simp;refine⟨fun z=>absurd z.symm n5,fun z=>absurd z.symm n4,fun z=>absurd z.symm n6⟩
 refine⟨?_,?_,by simp[n3],c,a',rfl,n4,hc⟩
 ·unfold dby;rw[if_neg (by simp[n1]),if_neg (by simp[n2])]
 ·unfold wby;rw[if_neg (by simp[n1]),s,if_neg (by decide)]
def jtn{a rest:List Nat}(h:Word a)(h1:Stop isL rest)(h2:Stop isG rest):Piece a rest:=by
 cases h with
 | zero=>exact .zero
 | name q1 q2 q3=>exact .name q1 q2 q3 h1
 | num q1 q2 q3=>exact .num q1 q2 q3 h2
def d40:dby [40]=1:=rfl
def d41:dby [41]=-1:=rfl
def w40:wby [40]="beginning":=rfl
def w41:wby [41]="behind":=by unfold wby;rw[if_neg (by decide),jlg];rfl
def dsg{a:Nat}(h:jcr (St [a])=true):dby [a]=0/\wby [a]="factor":=by
 unfold wby;rw[h];rcases jhl h with rfl|rfl|rfl<;>exact⟨rfl,rfl⟩
def pcs:List (Nat×List Nat)->Nat->List (Str×Int)
 | [],_=>[]
 | (k,a)::s,o=>(St a,((o+k:Nat):Int))::pcs s (o+k+a.length)
theorem jnw:∀ (ae:List (Nat×List Nat)) (o:Nat),(pcs ae o).map (·.1)=ae.map fun q=>St q.2
 | [],_=>rfl
 | (k,a)::s,o=>by
  show St a::(pcs s (o+k+a.length)).map (·.1)=_;rw[jnw s];rfl
def jp9{x:Str}{p:Nat}(hf:x.length<FUEL):∀ (ae:List (Nat×List Nat)) (pre:List Nat) (ps:List (Str×Int)) (d:Nat) (wt:Str) (e w:Option D) (m:Nat),At x pre (jca ae p)->Acc (ae.map (·.2)) wt d->(jca ae p).length<m->ps.length+ae.length<=100000 ->
  ∃ ps' e' w' pl,jbo jbm jbj m (pd x ps d wt pre.length e w)=nX (pd x ps' (0:Nat) "behind" pl e' w')/\ps'=ps++pcs ae pre.length:=by
 intro ae
 induction ae with
 | nil =>
  intro pre ps d wt e w m h A hm hz;have hmm:∃ j,m=j+1+p:=⟨m-1-p,by simp[jca] at hm;omega⟩
  obtain⟨j,rfl⟩:=hmm;have h0:At x pre (List.replicate p 32++[]):=by rw[List.append_nil];exact h
  obtain⟨e',w',q,h2⟩:=jli (ps:=ps) (d:=(d:Int)) (wt:=wt) hf p pre (j+1) e w h0;rw[List.map_nil] at A
  cases A with
  | done =>
   refine⟨ps,e',w',(pre++List.replicate p 32).length,?_,by simp[pcs]⟩;rw[q,jeg (jHu h2)]
 | cons sg ae ih =>
  intro pre ps d wt e w m h A hm hz;obtain⟨k,a⟩:=sg;rw[List.map_cons] at A;have hr:(jca ((k,a)::ae) p).length=k+(a.length+(jca ae p).length):=by rw[show jca ((k,a)::ae) p=List.replicate k 32++(a++jca ae p) from rfl];simp
  rw[hr] at hm;rw[List.length_cons] at hz;have ha:a≠[]:=by
   dsimp only at A;intro z;subst z
   cases A with
   | word hw _ _=>obtain⟨_,_,_,c,a',z,_⟩:=jd7 hw;cases z
  have hal:1<=a.length:=by cases a with|nil=>exact absurd rfl ha|cons _ _=>simp
  obtain⟨j,rfl⟩:∃ j,m=j+1+k:=⟨m-1-k,by omega⟩
  obtain⟨e1,w1,q1,h1⟩:=jli (ps:=ps) (d:=(d:Int)) (wt:=wt) hf k pre (j+1) e w h;rw[q1];have fin:∀ (c:Nat) (a':List Nat) (d':Nat) (c0:Str),a=c::a'->Piece (c::a') (jca ae p)->(c::a')≠[32]->jbb [.str (S1 c),.str wt,.int d]=oK (.bl true)->(d:Int)+dby (c::a')=(d':Nat)->wby (c::a')=c0->Acc (ae.map (·.2)) c0 d' ->
    ∃ ps' e' w' pl,jbo jbm jbj (j+1) (pd x ps d wt (pre++List.replicate k 32).length e1 w1)=nX (pd x ps' (0:Nat) "behind" pl e' w')/\ps'=ps++pcs ((k,a)::ae) pre.length:=by
   rintro c a' d' c0 rfl P hs hm' hd hw A';obtain⟨e2,w2,q2,h2⟩:=jH5 (ps:=ps) (m:=j) (e:=e1) (w:=w1) h1 P hf hs hm' (by omega);rw[q2,hd,hw];obtain⟨ps',e',w',pl,q3,q4⟩:=ih _ (ps++[(St (c::a'),((pre++List.replicate k 32).length:Int))]) d' c0 e2 w2 j h2 A' (by omega) (by rw[zcc,List.length_singleton];omega);refine⟨ps',e',w',pl,q3,?_⟩;rw[q4];simp[pcs,Nat.add_assoc]
  cases A with
  | word hw hb A' =>
   obtain⟨f1,f2,f3,c,a',rfl,f4,f5⟩:=jd7 hw;exact fin c a' d "behind" rfl (jtn hw (jqy rfl rfl ⟨rfl,rfl,rfl⟩ ae p d A') (jqy rfl rfl ⟨rfl,rfl,rfl⟩ ae p d A')) f3 (jpu hb f4 (.inr f5)) (by rw[f1,Int.add_zero]) f2 A'
  | opn hb A'=>exact fin 40 [] (d+1) "beginning" rfl (.sign rfl rfl) (by decide) (jpu hb (by decide) (.inl rfl)) (by rw[d40];rfl) w40 A'
  | cls A' =>
   rename_i d';exact fin 41 [] d' "behind" rfl (.sign rfl rfl) (by decide) (jxd (by omega)) (by rw[d41];omega) w41 A'
  | neg A'=>exact fin 45 [] d "factor" rfl (.sign rfl rfl) (by decide) jxe (by rw[(dsg (by decide +kernel)).1,Int.add_zero]) (dsg (by decide +kernel)).2 A'
  | bin hc A' =>
   rename_i c;have hl:isL c=false/\isG c=false/\c≠32:=by rcases jhl hc with rfl|rfl|rfl<;>exact⟨rfl,rfl,by decide⟩
   exact fin c [] d "factor" rfl (.sign hl.1 hl.2.1) (by simp[hl.2.2]) (jti hc) (by rw[(dsg hc).1,Int.add_zero]) (dsg hc).2 A'
def jpe{x:Str}{ae:List (Nat×List Nat)}{p:Nat}(hx:x.cps.toList=jca ae p)(hs:x.length<=50000)(A:Acc (ae.map (·.2)) "beginning" 0)(hz:ae.length<=100000) :
  jgb [.str x]=oK (.lst ((pcs ae 0).map pcD)):=by
 have hf:x.length<FUEL:=by rw[jtr];exact Nat.lt_of_le_of_lt (by assumption) (by decide)
 have hl:(jca ae p).length=x.length:=by rw[<- hx];simp[Str.length]
 obtain⟨ps,e,w,pl,q,hp⟩:=jp9 hf ae [] [] 0 "beginning" none none FUEL ⟨hx,hs⟩ A (by omega) (by simp;assumption);have hp':ps=pcs ae 0:=by simpa using hp
 rw[<- hp'];unfold jgb;rw[jhr];unfold jh4;have e1:gSet 1 (fL jaw fNil) [oS x,none,none,none,none,none,none]=nX [oS x,oL [],none,none,none,none,none]:=rfl;have e2:gSet 2 (cI 0) [oS x,oL [],none,none,none,none,none]=nX [oS x,oL [],oI 0,none,none,none,none]:=rfl;have e3:gSet 3 (cS "beginning") [oS x,oL [],oI 0,none,none,none,none]=nX [oS x,oL [],oI 0,oS "beginning",none,none,none]:=rfl;have e4:gSet 4 (cI 0) [oS x,oL [],oI 0,oS "beginning",none,none,none]=nX (pd x [] (0:Nat) "beginning" ([]:List Nat).length none none):=rfl;have t:DL.tOr (DL.t2 gNe (vR 3) (cS "behind")) (DL.t2 gGt (vR 2) (cI 0)) (pd x ps (0:Nat) "behind" pl e w)=oK false:=by
  unfold pd;have:gNe (.str "behind") (.str "behind")=some (.bl false):=rfl;simp only[stpA,this,gt_int];rfl
 have e5:gIf (DL.tOr (DL.t2 gNe (vR 3) (cS "behind")) (DL.t2 gGt (vR 2) (cI 0))) jmc gNx (pd x ps (0:Nat) "behind" pl e w)=nX (pd x ps (0:Nat) "behind" pl e w):=by
  rw[jfk t,if_neg (by decide)];rfl
 show (gSeq _ _ [oS x,none,none,none,none,none,none]).b outD=_;rw[jaz e1,jaz e2,jaz e3,jaz e4,jaz q,jaz e5];unfold pd;simp only[stpA];rfl
end
end MyLaw
namespace MyLaw
open L2 DL PySem.NumText
section
def jtg(x:Str)(u:Option Int):Txt.slice x none u=Txt.slice x (some 0) u:=by
 unfold Txt.slice;have:Builtin.Str.strSliceIndices none u 1 x.length=Builtin.Str.strSliceIndices (some 0) u 1 x.length:=by
  unfold Builtin.Str.strSliceIndices sliceRange;have z:max 0 (min 0 (x.length:Int))=0:=by omega
  cases u<;>simp[z]
 rw[this]
def jCf(b:List Nat):∀ (m:Nat),b.foldl (fun acc c=>acc*10+(c-48)) m=m*10 ^ b.length+b.foldl (fun acc c=>acc*10+(c-48)) 0:=by
 induction b with
 | nil=>intro m;simp
 | cons c b ih =>
  intro m;rw[List.foldl_cons,List.foldl_cons,ih,ih (0*10+(c-48)),List.length_cons,Nat.pow_succ];rw[Nat.add_mul,Nat.zero_mul,Nat.zero_add,Nat.mul_assoc,Nat.mul_comm 10 (10 ^ b.length)];omega
def jur(a b:List Nat):digitsVal (a++b)=digitsVal a*10 ^ b.length+digitsVal b:=by
 unfold digitsVal;rw[List.foldl_append,jCf]
theorem jAb:∀ (b:List Nat) (m:Nat),AllDigits b->b.foldl (fun acc c=>acc*10+(c-48)) m<(m+1)*10 ^ b.length
 | [],m,_=>by simp
 | c::b,m,h=>by
  have h2:=h.head;have:=jAb b (m*10+(c-48)) h.tail;rw[List.foldl_cons,List.length_cons,Nat.pow_succ];refine zcx this ?_;rw[Nat.mul_comm (10 ^ b.length) 10,<- Nat.mul_assoc];exact Nat.mul_le_mul_right _ (by omega)
def jIz{a:List Nat}(h:AllDigits a):digitsVal a<10 ^ a.length:=by
 have:=jAb a 0 h
 rwa [Nat.zero_add,Nat.one_mul] at this
def jEy{a:List Nat}(h:∀ c∈a,isG c=true):AllDigits a:=fun c hc=>by
 have:=h c hc;unfold isG at this;simpa using this
def jAk{a:List Nat}(h:AllDigits a)(h1:a≠[])(h2:a.length<=640):kIntT [sT a]=oI (digitsVal a:Nat):=by
 have hl:=jiz a;have e:(St a).cps.toList=a:=by simp[St]
 show (if (St a).length<=640 then (intText? (St a)).map D.int else none)=_;rw[if_pos (by omega),intText_digits (x:=St a) (by rw[e];exact h) (by rw[e];exact h1) (by omega),e];rfl
def jE7{a:List Nat}(h:AllDigits a)(hl:a.length<=60):Bt 200 ((digitsVal a:Nat):Int):=by
 unfold Bt;have h1:=jIz h;have h2:10 ^ a.length<=10 ^ 60:=Nat.pow_le_pow_right (by decide) hl;have h3:(10:Nat) ^ 60<2 ^ 200:=by decide
 rw[Int.natAbs_natCast];omega
def jss{a:List Nat}(h:AllDigits a)(h1:a≠[])(hl:a.length<=40):jby [sT a]=oK (.int (digitsVal a:Nat)):=by
 let f:=a.length % 18
 let k:=a.length / 18
 have jq:f+18*k=a.length:=Nat.mod_add_div _ _;have hz:(St a).length<=50000:=by rw[jiz];exact zdy hl (by decide)
 have hf:f<18:=Nat.mod_lt _ (by decide);have dh:kLen [sT a]=oI (a.length:Nat):=by rw[len_str hz,jiz]
 have cut:∀ (i n:Nat),i+n<=a.length->cutD (sT a) (some (i:Nat)) (some ((i+n:Nat):Int))=some (sT ((a.drop i).take n)):=fun i n di=>by
  have e:a=a.take i++((a.drop i).take n++(a.drop i).drop n):=by rw[List.take_append_drop,List.take_append_drop]
  have A:At (St a) (a.take i) ((a.drop i).take n++(a.drop i).drop n):=⟨by show (St a).cps.toList=_;rw[<- e];simp[St],hz⟩
  have:=A.cut;have l1:(a.take i).length=i:=List.length_take_of_le (zdy (Nat.le_add_right i n) di);have l2:((a.drop i).take n).length=n:=List.length_take_of_le (by rw[List.length_drop];exact Nat.le_sub_of_add_le (by rw[Nat.add_comm];exact di));rw[l1,l2] at this;exact this
 have dig:∀ (i n:Nat),AllDigits ((a.drop i).take n):=fun i n c hc=>h c (List.mem_of_mem_drop (List.mem_of_mem_take hc))
 let Y0 (n:Nat) (z:Option D):DSt:=[some (sT a),oI (f:Nat),oI (n:Nat),z]
 have e1:gSet 1 (f2 gMod (fL kLen (jac (vR 0) fNil)) (cI 18)) [some (sT a),none,none,none]=nX [some (sT a),oI (f:Nat),none,none]:=by
  simp only[stpA,dh,jbz (i:=((a.length:Nat):Int)) (j:=18) (by decide)];rfl
 have e2:gSet 2 (fIf (DL.t2 gEq (vR 1) (cI 0)) (cI 0) (fL kIntT (jac (fSl (vR 0) jv5 (jcv (vR 1))) fNil))) [some (sT a),oI (f:Nat),none,none]=nX (Y0 (digitsVal (a.take f)) none):=by
  by_cases q:f=0
  ·have q':(((f:Nat):Int) == 0)=true:=by rw[q];rfl
   have z:digitsVal (a.take f)=0:=by rw[q];rfl
   simp only[stpA,q',z];rfl
  ·have q':(((f:Nat):Int) == 0)=false:=beq_eq_false_iff_ne.mpr fun z=>q (Int.ofNat.inj z)
   have c:cutD (sT a) none (some (f:Nat))=some (sT (a.take f)):=by
    have:=cut 0 f (by rw[Nat.zero_add];exact Nat.mod_le _ _);rw[Nat.zero_add,List.drop_zero] at this;rw[<- this];show (if _ then some (D.str (Txt.slice _ none _)) else none)=(if _ then some (D.str (Txt.slice _ (some 0) _)) else none);rw[jtg]
   have s:fSl (vR 0) jv5 (jcv (vR 1)) [some (sT a),oI (f:Nat),none,none]=M.p (sT (a.take f)):=jw9 rfl rfl rfl c;have i:=jAk (a:=a.take f) (fun c hc=>h c (List.mem_of_mem_take hc)) (fun z=>by have:=congrArg List.length z;rw[List.length_take_of_le (Nat.mod_le _ _)] at this;exact q this) (zdy (List.length_take_le _ _) (zdy (Nat.le_of_lt hf) (by decide)));simp only[stpA,q',s,i];rfl
 have rg:jfs [.int (f:Nat),.int (a.length:Nat),.int 18]=some (jcs (f:Nat) 18 k):=by
  show (if (0:Int)<18/\(18:Int)<2 ^ 60 then some (jcs _ 18 (Builtin.Range.rangeSize ((f:Nat):Int) (a.length:Nat) 18).toNat) else none)=_;rw[if_pos (by decide)];have:(Builtin.Range.rangeSize ((f:Nat):Int) (a.length:Nat) 18).toNat=k:=by
   unfold Builtin.Range.rangeSize;rw[if_pos (by decide)]
   by_cases q:f<a.length
   ·rw[if_pos (by omega)];omega
   ·rw[if_neg (by omega)];omega
  rw[this]
 obtain⟨Y',e3,hd⟩:=jkp (g:=jdb) (tg:=DL.gName 3) (jcs (f:Nat) 18 k) (fun j Y=>∃ z,Y=Y0 (digitsVal (a.take (f+18*j))) z) (fun j hj Y ⟨z,hz⟩=>by
  subst hz;have dk:j<k:=by simpa[jcs] using hj
  have hg:(jcs (f:Nat) 18 k)[j]=.int ((f+18*j:Nat):Int):=by simp[jcs];omega
  refine⟨Y0 (digitsVal (a.take (f+18*j))) (oI ((f+18*j:Nat):Int)),by rw[hg];rfl,Y0 (digitsVal (a.take (f+18*(j+1)))) (oI ((f+18*j:Nat):Int)),.inl ?_,_,rfl⟩;have dj:f+18*j+18<=a.length:=by rw[<- jq,Nat.add_assoc];exact Nat.add_le_add_left (Nat.mul_le_mul_left 18 dk) f
  have c:=cut (f+18*j) 18 dj;have s:fSl (vR 0) (jcv (vR 3)) (jcv (f2 gCat (vR 3) (cI 18))) (Y0 (digitsVal (a.take (f+18*j))) (oI ((f+18*j:Nat):Int)))=M.p (sT ((a.drop (f+18*j)).take 18)):=jw9 rfl rfl rfl c;have l2:((a.drop (f+18*j)).take 18).length=18:=List.length_take_of_le (by rw[List.length_drop];exact Nat.le_sub_of_add_le (by rw[Nat.add_comm];exact dj));have i:=jAk (dig (f+18*j) 18) (fun z=>by rw[z] at l2;cases l2) (by rw[l2];decide);have m:=je6 (i:=((digitsVal (a.take (f+18*j)):Nat):Int)) (j:=1000000000000000000) (a:=200) (b:=60) (jE7 (fun c hc=>h c (List.mem_of_mem_take hc)) (zdy (List.length_take_le' _ _) (zdy hl (by decide)))) (by unfold Bt;decide);have v:digitsVal (a.take (f+18*(j+1)))=digitsVal (a.take (f+18*j))*1000000000000000000+digitsVal ((a.drop (f+18*j)).take 18):=by
   have:a.take (f+18*(j+1))=a.take (f+18*j)++(a.drop (f+18*j)).take 18:=by rw[show f+18*(j+1)=(f+18*j)+18 from rfl,List.take_add]
   rw[this,jur,l2]
  rw[v];show gSet 2 (f2 gCat (f2 jdt (vR 2) (cI 1000000000000000000)) (fL kIntT (jac (fSl (vR 0) (jcv (vR 3)) (jcv (f2 gCat (vR 3) (cI 18)))) fNil))) (Y0 _ _)=_;rw[juw,e_2,e_2,e_L,jAc,s];show ((M.o (jdt (D.int ((digitsVal (a.take (f+18*j)):Nat):Int)) (D.int 1000000000000000000))).b fun x=>((M.o (kIntT [D.str (St ((a.drop (f+18*j)).take 18))])).b fun y=>M.o (gCat x y))).b _=_;rw[m,i];simp only[stpA];show some (Except.ok (Out.nx [_,_,some (D.int _),_]))=some (Except.ok (Out.nx [_,_,some (D.int _),_]));rw[show ((digitsVal (a.take (f+18*j))*1000000000000000000+digitsVal ((a.drop (f+18*j)).take 18):Nat):Int)=((digitsVal (a.take (f+18*j)):Nat):Int)*1000000000000000000+((digitsVal ((a.drop (f+18*j)).take 18):Nat):Int) by omega]) (Y0 (digitsVal (a.take f)) none) ⟨none,rfl⟩
 obtain⟨z,rfl⟩:=hd;have hk:(jcs (f:Nat) 18 k).length=k:=by simp[jcs]
 have all:a.take (f+18*(jcs (f:Nat) 18 k).length)=a:=by rw[hk,jq,List.take_length]
 rw[all] at e3;have e4:gFor (jf6 jfs (jac (vR 1) (jac (fL kLen (jac (vR 0) fNil)) (jac (cI 18) fNil)))) (DL.gName 3) jdb (Y0 (digitsVal (a.take f)) none)=nX (Y0 (digitsVal a) z):=by
  show gFor _ _ _ [some (sT a),oI (f:Nat),oI (digitsVal (a.take f):Nat),none]=_;simp only[stpA,dh,rg];exact e3
 unfold jby;rw[jhr];show (jck [some (sT a),none,none,none]).b outD=_;unfold jck;rw[jaz e1,jaz e2,jaz e4];rfl
def jxf{c:Nat}{a:List Nat}(h:c≠45):Txt.startswith (St (c::a)) (Str.ofString "-")=false:=by
 rw[jox];unfold Txt.startswith Builtin.Str.subAt St;simp;intro _;show ¬ List.take 1 (c::a)=[45];simp;exact h
def jv4{a:List Nat}(h:AllDigits a)(h1:a≠[])(hl:a.length<=40):jga [sT a]=oK (.int (digitsVal a:Nat)):=by
 obtain⟨c,a',rfl⟩:∃ c a',a=c::a':=by cases a with|nil=>exact absurd rfl h1|cons c a'=>exact⟨c,a',rfl⟩
 have hc:=h.head;have s:=jxf (c:=c) (a:=a') (by omega);have t:tTru (fSm jnb (vR 0) (cS "-")) [some (sT (c::a'))]=oK false:=by
  have:fSm jnb (vR 0) (cS "-") [some (sT (c::a'))]=M.p (.bl (Txt.startswith (St (c::a')) (Str.ofString "-"))):=rfl;rw[jFp,this,s];rfl
 unfold jga;rw[jhr];show (jf5 [some (sT (c::a'))]).b outD=_;unfold jf5;rw[jaz (Y':=[some (sT (c::a'))]) (by rw[jfk t,if_neg (by decide)];rfl)];simp only[stpA,jss h h1 hl];rfl
def nmD(aa:LL):List D:=aa.map fun a=>sT a
abbrev oN(l:LL):Option D:=oL (nmD l)
def jv2(a b:LL):nmD a++nmD b=nmD (a++b):=by unfold nmD;rw[List.map_append]
def frmW(aa:LL)(a:List Nat):Fm:=match a with
 | []=>([],0)
 | c::r=>if isL c=true then (aa.map fun b=>if b=c::r then 1 else 0,0) else (List.replicate aa.length 0,(digitsVal (c::r):Nat))
def ix0{c:Nat}{a:List Nat}(h:a.length<=40000):gIx (sT (c::a)) (.int 0)=oS (S1 c):=by
 show (if (St (c::a)).length<=sizeLine then (atI (St (c::a)).cps.toList 0).map fun c=>D.str ⟨#[c]⟩ else none)=_;rw[if_pos (by rw[sizeLine_eq,jiz,List.length_cons];omega)];unfold St;simp;rfl
def jCr{aa:LL}{a:List Nat}(hn:aa.length<=1000)(h:Word a)(hl:a.length<=40):jcu [.lst (nmD aa),sT a]=oK (fm (frmW aa a)):=by
 obtain⟨_,_,_,c,a',rfl,_,hc⟩:=jd7 h;have t:tTru (jay jbq (jac (f2 gIx (vR 1) (cI 0)) fNil)) [oN aa,some (sT (c::a'))]=oK (isL c):=by
  simp only[stpA,ix0 (c:=c) (a:=a') (by simp at hl;omega),jfl];rfl
 unfold jcu;rw[jfg];show (jea [oN aa,some (sT (c::a'))]).b outD=_;unfold jea frmW
 by_cases q:isL c=true
 ·rw[q] at t;rw[jor,jfk t,if_pos rfl];have e:=jie (c:=[some (sT (c::a'))]) (fe:=jdp) (K:=fun b:List Nat=>D.str (St b)) (F:=fun b=>.int (if b=c::a' then 1 else 0)) aa none (fun b hb=>by
   unfold jdp;simp only[stpA,jc9,jfb]
   by_cases z:b=c::a'
   ·rw[beq_iff_eq.mpr z,if_pos z];rfl
   ·rw[beq_eq_false_iff_ne.mpr z,if_neg z];rfl)
  have e':jcy (DL.gName 0) tYes jdp (nmD aa) [none,some (sT (c::a'))]=some (aa.map fun b=>.int (if b=c::a' then 1 else 0)):=e;simp only[stpA,e',lst_le (ds:=aa.map fun b=>D.int (if b=c::a' then 1 else 0)) (by rw[zav];exact hn),if_pos q];unfold fm;rw[List.map_map];rfl
 ·have q':isL c=false:=by simpa using q
  rw[q'] at t;have hg:AllDigits (c::a')/\(c::a')≠[]:=by
   cases h with
   | zero=>exact⟨fun d hd=>by simp at hd;omega,by simp⟩
   | name _ h2 _=>rw[h2 c zaa] at q';cases q'
   | num _ h2 _=>exact⟨jEy h2,by simp⟩
  rw[jaz (Y':=[oN aa,some (sT (c::a'))]) (by rw[jfk t,if_neg (by decide)];rfl)];have ln:(nmD aa).length=aa.length:=by simp[nmD]
  have hr:=jFm (Y:=[oN aa,some (sT (c::a'))]) (fl:=jac (cI 0) fNil) (fb:=fL kLen (jac (vR 0) fNil)) (.int 0) aa.length rfl (by simp only[stpA,jnj,ln]) hn;simp only[stpA,hr,jv4 hg.1 hg.2 hl,if_neg q];unfold fm;rw[List.map_replicate];rfl
end
section
def frmS(aa:LL)(w:Str):Fm:=frmW aa w.cps.toList
def jna(aa:LL)(a:List Nat):frmS aa (St a)=frmW aa a:=by unfold frmS St;simp
abbrev WdN(aa:LL):Str->Prop:=Wd (.lst (nmD aa)) (frmS aa)
def jIe{aa:LL}{a:List Nat}(hn:aa.length<=1000)(h:Word a)(hl:a.length<=40):WdN aa (St a):=by
 obtain⟨f1,f2,f3,c,a',rfl,f4,f5⟩:=jd7 h;have ne:∀ k,isL k=false->isG k=false->c≠k:=fun k h1 h2 z=>by subst z;rw[h1,h2] at f5;simp at f5
 have n1:=ne 40 rfl rfl;have n2:=ne 41 rfl rfl;have n5:=ne 43 rfl rfl;have n6:=ne 42 rfl rfl;refine⟨?_,?_,?_,?_⟩
 ·rw[jnl,jfb];exact beq_eq_false_iff_ne.mpr (by simp[n1])
 ·rw[jow,jfb];exact beq_eq_false_iff_ne.mpr (by simp[n2])
 ·rw[jlg];simp;exact⟨fun z=>absurd z.symm n5,fun z=>absurd z.symm f4,fun z=>absurd z.symm n6⟩
 ·rw[jna];exact jCr hn h hl
def ji8(aa:LL):(nmD aa).all ji7=true:=by
 unfold nmD;rw[List.all_map];exact List.all_eq_true.mpr fun _ _=>rfl
end
section
abbrev scr(ns:List Int):D:=.lst (ns.map .int)
def v_at(ns:List Int)(k:Int)(h0:0<=k)(hk:k<=1000):∃ i,jdw [scr ns,.int k]=oK (.int i):=by
 unfold jdw;rw[jfg];unfold jnc;obtain⟨k,rfl⟩:=Int.eq_ofNat_of_zero_le h0
 by_cases h:k<ns.length
 ·refine⟨ns[k],?_⟩;have h2:((k:Int)<(ns.length:Int)):=by omega
  simp[h2,DL.atI_get (xs:=ns.map D.int) (j:=k) (v:=.int ns[k]) (by simp[h]),M.p]
 ·refine⟨19*(k:Int)+8,?_⟩;have h2:¬ ((k:Int)<(ns.length:Int)):=by omega
  have e:jdt (.int 19) (.int (k:Int))=oI (19*(k:Int)):=je6 (a:=10) (b:=10) (by unfold Bt;decide) (by unfold Bt;omega);simp[h2,e,M.p]
def atF(ns:List Int)(k:Int):Int:=getI (jdw [scr ns,.int k])
def w_at{ns:List Int}{k:Int}(h0:0<=k)(hk:k<=1000):jdw [scr ns,.int k]=oK (.int (atF ns k)):=let ⟨_,h⟩:=v_at ns k h0 hk;ju1 h
def jBy{k m:Nat}{n:Int}(h0:0<=n)(h1:n<(m:Int))(h2:m<=2 ^ k):Bt k n:=by
 obtain⟨j,rfl⟩:=Int.eq_ofNat_of_zero_le h0;exact zcx (Int.ofNat_lt.mp h1) h2
def jIb(n p:Int)(h0:0<=p)(hp:p<=1000):∃ r,jb6 [.int n,.int p]=oK (.int r)/\0<=r/\r<2147483648:=by
 unfold jb6;rw[jfg];unfold jkq;have h1:=zca n (show (2147483629:Int)≠0 by decide);have h2:=zcb n (show (0:Int)<2147483629 by decide);have bp:Bt 10 p:=jBy (m:=1001) h0 (Int.lt_add_one_of_le hp) (by decide);have a1:jdt (.int 8) (.int p)=oI (8*p):=je6 (a:=4) (by unfold Bt;decide) bp;have b1:Bt 14 (8*p):=Bt.mul (a:=4) (by unfold Bt;decide) bp;have a2:jdt (.int (8*p)) (.int p)=oI (8*p*p):=je6 b1 bp;have b2:Bt 24 (8*p*p):=b1.mul bp;have b3:Bt 25 (8*p*p+48271):=b2.add (by unfold Bt;decide);have b4:Bt 33 (n % 2147483629+p+1):=((jBy (k:=31) (m:=2147483629) h1 h2 (by decide)).add (bp.mono (by decide))).add (by unfold Bt;decide);have a3:jdt (.int (n % 2147483629+p+1)) (.int (8*p*p+48271))=oI ((n % 2147483629+p+1)*(8*p*p+48271)):=je6 b4 b3;generalize hx:(n % 2147483629+p+1)*(8*p*p+48271) % 2147483647=x;have x1:0<=x:=by rw[<- hx];exact zca _ (by decide)
 have x2:x<2147483647:=by rw[<- hx];exact zcb _ (by decide)
 have bx:Bt 32 x:=jBy (m:=2147483647) x1 x2 (by decide);have a4:jdt (.int x) (.int x)=oI (x*x):=je6 bx bx;refine⟨x*x % 2147483587,?_,zca _ (by decide),Int.lt_trans (zcb (x*x) (show (0:Int)<2147483587 by decide)) (by decide)⟩;simp[jbz (i:=n) (j:=2147483629) (by decide),a1,a2,a3,jbz (i:=(n % 2147483629+p+1)*(8*p*p+48271)) (j:=2147483647) (by decide),hx,a4,jbz (i:=x*x) (j:=2147483587) (by decide),List.replicate];rfl
def mixF(n p:Int):Int:=getI (jb6 [.int n,.int p])
def jq0{n p:Int}(h0:0<=p)(hp:p<=1000):jb6 [.int n,.int p]=oK (.int (mixF n p)):=let ⟨_,h,_⟩:=jIb n p h0 hp;ju1 h
def jzf{n p:Int}(h0:0<=p)(hp:p<=1000):0<=mixF n p/\mixF n p<2147483648:=by
 obtain⟨r,h,q⟩:=jIb n p h0 hp;unfold mixF;rw[h];exact q
def p1030:gPow (.int 10) (.int 30)=oI 1000000000000000000000000000000:=by rw[jDs (by decide)];rfl
end
section
def dg(m:Nat):List Nat:=(Nat.toDigits 10 m).map Char.toNat
def jFj(m:Nat):Str.ofString (toString ((m:Nat):Int))=St (dg m):=by
 have:=W.KIN.signs_num m;unfold St dg;rw[<- this]
def juk(m:Nat):AllDigits (dg m):=by
 intro c hc;obtain⟨ch,hch,e⟩:=zcv.mp hc;have r:=PyProof.Rows.digit_range (Nat.isDigit_of_mem_toDigits (by decide) (by decide) hch);rw[<- e];exact r
def jz9(m:Nat):digitsVal (dg m)=m:=W.KIN.val_back m
def jFi(m:Nat):dg m≠[]:=by
 intro e;have h:=List.map_eq_nil_iff.mp e;have:=Nat.length_toDigits_pos (b:=10) (n:=m);rw[h] at this;exact absurd this (by decide)
def jFh{m:Nat}(h:m<10 ^ 31):(dg m).length<=31:=by
 unfold dg;rw[zav];have e:=(Nat.length_repr_le_iff (n:=m) (by decide:0<31)).mpr h
 rwa [<- String.length_toList,Nat.toList_repr] at e
def jAl{a:List Nat}(h:AllDigits a):∀ c∈a,isG c=true:=fun c hc=>by
 have:=h c hc;unfold isG;simpa using this
def jCb(m:Nat):Word (dg m):=by
 by_cases q:(dg m).head? = some 48
 ·have:dg m=[48]:=by
   have e:=toDigits_all (dg m) (juk m);rw[jz9] at e;have el:(Nat.toDigits 10 m).length=(dg m).length:=by unfold dg;rw[zav]
   cases hd:dg m with
   | nil=>exact absurd hd (jFi m)
   | cons c r =>
    rw[hd] at q e el;simp at q;subst q;have e2:(48::r).dropWhile (· == 48)=r.dropWhile (· == 48):=by simp
    rw[e2] at e;have dj:(r.dropWhile (· == 48)).length<=r.length:=(List.dropWhile_sublist _).length_le
    cases hr:r.dropWhile (· == 48) with
    | nil =>
     rw[hr] at e;have:=congrArg List.length e;rw[el] at this;simp at this;rw[this]
    | cons c' r' =>
     rw[hr] at e dj;have:=congrArg List.length e;rw[el] at this;simp at this dj;omega
  rw[this];exact .zero
 ·exact .num (jFi m) (jAl (juk m)) q
def jxc(a b:List Nat):St a++St b=St (a++b):=by
 show (⟨_⟩:Str)=_;unfold St;simp
def jra{a b:List Nat}(h:a.length+b.length<=100000):gCat (sT a) (sT b)=some (sT (a++b)):=by
 rw[jB5 (by rw[jiz,jiz,sizeLine_eq];omega),jxc]
def jq3:Str.ofString "abcdefghijklmnopqrstuvwxyz"=St (List.range' 97 26):=by decide +kernel
def jvj{i:Int}(h0:0<=i)(h1:i<26):∃ c,isL c=true/\gIx (.str "abcdefghijklmnopqrstuvwxyz") (.int i)=some (sT [c]):=by
 obtain⟨j,rfl⟩:=Int.eq_ofNat_of_zero_le h0;have hj:j<26:=by omega
 refine⟨97+j,by unfold isL;simp;omega,?_⟩;rw[jq3];show (if (St (List.range' 97 26)).length<=sizeLine then (atI (St (List.range' 97 26)).cps.toList (j:Int)).map fun c=>D.str ⟨#[c]⟩ else none)=_;have e:(St (List.range' 97 26)).cps.toList=List.range' 97 26:=by unfold St;simp
 rw[if_pos (by rw[jiz,sizeLine_eq,List.length_range'];omega),e,DL.atI_get (v:=97+j) (by rw[List.getElem?_range' hj];simp)];rfl
structure Nm(a:List Nat):Prop where
 ne:a≠[]
 al:∀ c∈a,isL c=true
 le:a.length<=10
def jv8(m:Int)(n:Nat)(h:0<(n:Int)):1<=(1+m % (n:Int)).toNat/\(1+m % (n:Int)).toNat<=n:=by
 have h1:=zca m (Int.ne_of_gt h);have h2:=zcb m h;omega
def jC8{m:Int}(h0:0<=m):∃ a,jfp [.int m]=oK (sT a)/\Nm a:=by
 let k:=(1+m % 10).toNat
 have hk:1<=k/\k<=10:=jv8 m 10 (by decide);obtain⟨Y',e,a,z,hδ,h1,h2⟩:=jkp (g:=jfv) (tg:=DL.gName 2) (jcc 0 k) (fun j Y=>∃ a z,Y=[oI m,some (sT a),z]/\a.length=j/\∀ c∈a,isL c=true) (fun j hj Y ⟨a,z,hδ,h1,h2⟩=>by
  subst hδ;have dk:j<k:=by simpa using hj
  have pj:0<=0+((j:Nat):Int)/\0+((j:Nat):Int)<=1000:=by omega
  have w:=jq0 (n:=m) (p:=0+(j:Nat)) pj.1 pj.2;generalize mixF m (0+(j:Nat))=mx at w
  let d:=m / 10 % 2
  have hd:d=0\/d=1:=by show m / 10 % 2=0\/m / 10 % 2=1;omega
  let md:Int:=if d=0 then 26 else 2
  have g1:gIx (.lst [.int 26,.int 2]) (.int (m / 10 % 2))=oI md:=by
   rcases hd with hd|hd
   ·show gIx _ (.int d)=oI (if d=0 then 26 else 2);rw[hd];rfl
   ·show gIx _ (.int d)=oI (if d=0 then 26 else 2);rw[hd];rfl
  have hm:0<md/\md<=26:=by show 0<(if d=0 then (26:Int) else 2)/\(if d=0 then (26:Int) else 2)<=26;split<;>decide
  have r1:=zca mx (Int.ne_of_gt hm.1);have r2:=zcb mx hm.1;obtain⟨c,hc,g2⟩:=jvj (i:=mx % md) r1 (Int.lt_of_lt_of_le r2 hm.2);refine⟨_,rfl,[oI m,some (sT (a++[c])),oI (0+(j:Nat))],.inl ?_,a++[c],_,rfl,by simp[h1],fun b hb=>?_⟩
  ·rw[jjg];unfold jfv;have f1:=jce (i:=m) (j:=10) (by decide) (by decide);have e9:=jbz (i:=m / 10) (j:=2) (by decide);have f3:=jbz (i:=mx) (j:=md) hm.1;have f4:=jra (a:=a) (b:=[c]) (by show a.length+1<=100000;rw[h1];exact zdy dk (zdy hk.2 (by decide)));simp only[stpA,f1,e9,w,g1,f3,g2,f4];rfl
  ·rcases List.mem_append.mp hb with hb|hb
   ·exact h2 b hb
   ·rw[zdx.mp hb];exact hc) [oI m,some (sT []),none] ⟨[],none,rfl,rfl,fun c hc=>(nomatch hc)⟩
 subst hδ;rw[jjh] at h1;refine⟨a,?_,fun z=>by subst z;exact absurd h1.symm (Nat.ne_of_gt hk.1),h2,by rw[h1];exact hk.2⟩;unfold jfp;rw[jhr];show (jhb [oI m,none,none]).b outD=_;unfold jhb;have e1:gSet 1 (cS "") [oI m,none,none]=nX [oI m,some (sT []),none]:=rfl;have e2:gFor (jf6 jb1 (jac (f2 gCat (cI 1) (f2 gMod (vR 0) (cI 10))) fNil)) (DL.gName 2) jfv [oI m,some (sT []),none]=nX [oI m,some (sT a),z]:=by
  have f1:=jbz (i:=m) (j:=10) (by decide);simp only[stpA,f1,range1];exact e
 rw[jaz e1,jaz e2];rfl
theorem jnf(a:List Nat):∀ aa:LL,inD (sT a) (nmD aa)=decide (a∈aa)
 | []=>by simp[nmD,inD]
 | b::aa=>by
  have:inD (sT a) (nmD (b::aa))=((St b == St a) || inD (sT a) (nmD aa)):=rfl;rw[this,jnf a aa,jfb]
  by_cases q:b=a
  ·subst q;simp
  ·rw[beq_eq_false_iff_ne.mpr q];simp[show ¬ a=b from fun z=>q z.symm]
def jys{m:Int}(h0:0<=m):∃ aa:LL,jf9 [.int m,.int 4]=oK (.lst (nmD aa))/\(∀ a∈aa,Nm a)/\aa.Nodup/\1<=aa.length/\aa.length<=4:=by
 let k:=(1+m % 4).toNat
 have hk:1<=k/\k<=4:=jv8 m 4 (by decide);obtain⟨Y',e,aa,y,z,hδ,h1,h2,h3,h4⟩:=jkp (g:=jec) (tg:=DL.gName 3) (jcc 0 k) (fun j Y=>∃ (aa:LL) (y z:Option D),Y=[oI m,oI 4,oN aa,y,z]/\(∀ a∈aa,Nm a)/\aa.Nodup/\aa.length<=j/\(1<=j->1<=aa.length)) (fun j hj Y ⟨aa,y,z,hδ,h1,h2,h3,h4⟩=>by
  subst hδ;have dk:j<k:=by simpa using hj
  have pj:0<=20+(0+((j:Nat):Int))/\20+(0+((j:Nat):Int))<=1000:=by omega
  have w:=jq0 (n:=m) (p:=20+(0+(j:Nat))) pj.1 pj.2;have r:=jzf (n:=m) (p:=20+(0+(j:Nat))) pj.1 pj.2;generalize mixF m (20+(0+(j:Nat)))=mx at w r;obtain⟨a,ea,na⟩:=jC8 r.1;have e1:gSet 4 (jay jfp (jac (jay jb6 (jac (vR 0) (jac (f2 gCat (cI 20) (vR 3)) fNil))) fNil)) [oI m,oI 4,oN aa,oI (0+(j:Nat)),z]=nX [oI m,oI 4,oN aa,oI (0+(j:Nat)),some (sT a)]:=by
   simp only[stpA,w,ea];rfl
  have di:=jnf a aa;have g:jey (sT a) (.lst (nmD aa))=some (.bl !decide (a∈aa)):=by
   show (if (true&&(nmD aa).all ji7)=true then some (D.bl !(inD _ (nmD aa))) else none)=_;rw[ji8,if_pos (by decide),di]
  refine⟨[oI m,oI 4,oN aa,oI (0+(j:Nat)),z],by rw[jjg];rfl,?_⟩
  by_cases q:a∈aa
  ·refine⟨[oI m,oI 4,oN aa,oI (0+(j:Nat)),some (sT a)],.inl ?_,aa,_,_,rfl,h1,h2,Nat.le_succ_of_le h3,fun _=>?_⟩
   ·unfold jec;rw[jaz e1];simp only[stpA,g,decide_eq_true q,Bool.not_true];rfl
   ·cases aa with
    | nil=>cases q
    | cons _ _=>simp
  ·refine⟨[oI m,oI 4,oN (aa++[a]),oI (0+(j:Nat)),some (sT a)],.inl ?_,aa++[a],_,_,rfl,fun b hb=>?_,?_,by rw[zcc];exact Nat.succ_le_succ h3,fun _=>by simp⟩
   ·unfold jec;rw[jaz e1];have t:DL.t2 jey (vR 4) (vR 2) [oI m,oI 4,oN aa,oI (0+(j:Nat)),some (sT a)]=oK true:=by
     simp only[stpA,g,decide_eq_false q,Bool.not_false];rfl
    rw[jfk t,if_pos rfl];have:=jtu (i:=2) (fa:=vR 4) (Y:=[oI m,oI 4,oN aa,oI (0+(j:Nat)),some (sT a)]) (ds:=nmD aa) (d:=sT a) rfl rfl (by unfold nmD;rw[zav,sizeLine_eq];exact Nat.lt_of_le_of_lt h3 (Nat.lt_trans dk (Nat.lt_of_le_of_lt hk.2 (by decide))));rw[this,show nmD aa++[sT a]=_ from jv2 aa [a]];rfl
   ·rcases List.mem_append.mp hb with hb|hb
    ·exact h1 b hb
    ·rw[zdx.mp hb];exact na
   ·rw[List.nodup_append];exact⟨h2,by simp,fun x hx y hy=>by rw[zdx.mp hy];exact fun z=>q (z ▸ hx)⟩) [oI m,oI 4,oN [],none,none] ⟨[],none,none,rfl,fun a ha=>(nomatch ha),by simp,by simp,fun z=>absurd z (by decide)⟩
 subst hδ;rw[jjh] at h3 h4;refine⟨aa,?_,h1,h2,h4 hk.1,zdy h3 hk.2⟩;unfold jf9;rw[jfg];show (jf3 [oI m,oI 4,none,none,none]).b outD=_;unfold jf3;have e1:gSet 2 (fL jaw fNil) [oI m,oI 4,none,none,none]=nX [oI m,oI 4,oN [],none,none]:=rfl;have e2:gFor (jf6 jb1 (jac (f2 gCat (cI 1) (f2 gMod (vR 0) (vR 1))) fNil)) (DL.gName 3) jec [oI m,oI 4,oN [],none,none]=nX [oI m,oI 4,oN aa,y,z]:=by
  have f1:=jbz (i:=m) (j:=4) (by decide);simp only[stpA,f1,range1];exact e
 rw[jaz e1,jaz e2];rfl
end
section
def jEv(ts:LL):Prop:=∀ (rest:LL) (d:Nat) (wt:Str),(wt == Str.ofString "behind")=false->Acc rest "behind" d->Acc (ts++rest) wt d
def SumA(ts:LL):Prop:=∀ (rest:LL) (d:Nat),Acc rest "behind" d->Acc (ts++rest) "beginning" d
def Toks(aa ts:LL):Prop:=∀ a∈ts,∃ c r,a=c::r/\(isL c=true->a∈aa)/\a.length<=40
def Toks.app{aa ts us:LL}(h:Toks aa ts)(k:Toks aa us):Toks aa (ts++us):=fun a ha=>by
 rcases List.mem_append.mp ha with ha|ha
 ·exact h a ha
 ·exact k a ha
def Toks.sign{aa:LL}{c:Nat}(h:isL c=false):Toks aa [[c]]:=fun a ha=>by
 rw[zdx.mp ha];exact⟨c,[],rfl,(fun z=>by rw[h] at z;cases z),by simp⟩
structure Fc(aa:LL)(ts:LL)(f:Fm)(b:Nat):Prop where
 ok:jts aa.length (frmS aa) (WdN aa) (ts.map St) f
 acc:jEv ts
 toks:Toks aa ts
 len:f.1.length=aa.length
 bf:BF b f
structure Tm(aa:LL)(ts:LL)(f:Fm)(b:Nat):Prop where
 ok:jh9 aa.length (frmS aa) (WdN aa) (ts.map St) f
 acc:jEv ts
 toks:Toks aa ts
 len:f.1.length=aa.length
 bf:BF b f
structure Sm(aa:LL)(ts:LL)(f:Fm)(b:Nat):Prop where
 ok:jjv aa.length (frmS aa) (WdN aa) (ts.map St) f
 acc:SumA ts
 toks:Toks aa ts
 len:f.1.length=aa.length
 bf:BF b f
section
variable {aa ts us:LL}{f g:Fm}{b c:Nat}
def jE4:(Str.ofString "beginning" == Str.ofString "behind")=false:=by decide +kernel
def jrp:(Str.ofString "factor" == Str.ofString "behind")=false:=by decide +kernel
def Fc.fo(h:Fc aa ts f b)(hb:b<=KB):FO aa.length f:=⟨h.len,h.bf.mono hb⟩
def Tm.fo(h:Tm aa ts f b)(hb:b<=KB):FO aa.length f:=⟨h.len,h.bf.mono hb⟩
def Fc.word{a:List Nat}(hn:aa.length<=1000)(hw:Word a)(hl:a.length<=40)(hm:∀ x r,a=x::r->isL x=true->a∈aa)(e:frmW aa a=f)(len:f.1.length=aa.length)(bf:BF b f):Fc aa [a] f b:=by
 refine⟨?_,fun rest d wt h1 h2=>.word hw h1 h2,fun a' ha=>?_,len,bf⟩
 ·have:=jx4 (n:=aa.length) (ao:=frmS aa) (wd:=WdN aa) (jIe hn hw hl);rw[jna,e] at this;exact this
 ·rw[zdx.mp ha];obtain⟨_,_,_,x,r,rfl,_,_⟩:=jd7 hw;exact⟨x,r,rfl,hm x r rfl,hl⟩
def Fc.paren(h:Sm aa ts f b):Fc aa ([40]::ts++[[41]]) f b:=by
 refine⟨?_,fun rest d wt h1 h2=>?_,?_,h.len,h.bf⟩
 ·have:=jux h.ok;rw[jnl,jow] at this;rw[List.map_append,List.map_cons];exact this
 ·rw[List.append_assoc,List.cons_append];exact .opn h1 (h.acc _ _ (.cls h2))
 ·exact ((Toks.sign (c:=40) rfl).app h.toks).app (Toks.sign rfl)
def Fc.tm(h:Fc aa ts f b)(hb:b<=KB):Tm aa ts f b:=⟨jzw h.ok (h.fo hb),h.acc,h.toks,h.len,h.bf⟩
def jza(hf:f.1.length=aa.length)(hg:g.1.length=aa.length):(jfd f g).1.length=aa.length:=by
 unfold jfd
 split
 ·rw[jdy];exact hf
 ·rw[jdy];exact hg
def jDt(hf:BF b f)(hg:BF c g):BF (b+c) (jfd f g):=by
 unfold jfd
 split
 ·exact hf.mul hg.2
 ·rw[Nat.add_comm];exact hg.mul hf.2
def Tm.mul(h:Tm aa ts f b)(k:Fc aa us g c)(hb:b<=KB)(hc:c<=KB)(hp:jb9 f=true\/jb9 g=true):Tm aa (ts++[42]::us) (jfd f g) (b+c):=by
 refine⟨?_,fun rest d wt h1 h2=>?_,h.toks.app ((Toks.sign (c:=42) rfl).app k.toks),jza h.len k.len,jDt h.bf k.bf⟩
 ·have:=jzx h.ok k.ok (h.fo hb) (k.fo hc) hp;rw[jkv] at this;rw[List.map_append,List.map_cons];exact this
 ·rw[List.append_assoc,List.cons_append];exact h.acc _ _ _ h1 (.bin (by rw[<- jkv];exact jvd) (k.acc _ _ _ jrp h2))
def Tm.sm(h:Tm aa ts f b)(hb:b<=KB):Sm aa ts f b:=⟨jzu h.ok (h.fo hb),fun rest d h2=>h.acc _ _ _ jE4 h2,h.toks,h.len,h.bf⟩
def Tm.neg(h:Tm aa ts f b)(hb:b<=KB):Sm aa ([45]::ts) (mulF f (-1)) b:=by
 refine⟨?_,fun rest d h2=>?_,(Toks.sign (c:=45) rfl).app h.toks,by rw[jdy];exact h.len,h.bf.neg⟩
 ·have:=jEf h.ok (h.fo hb);rw[jox] at this;exact this
 ·rw[List.cons_append];exact .neg (h.acc _ _ _ jrp h2)
def Sm.add(h:Sm aa ts f b)(k:Tm aa us g b)(hb:b<=KB):Sm aa (ts++[43]::us) (addF f g) (b+1):=by
 refine⟨?_,fun rest d h2=>?_,h.toks.app ((Toks.sign (c:=43) rfl).app k.toks),by rw[jj6 (by rw[h.len,k.len])];exact h.len,h.bf.add k.bf⟩
 ·have:=jEd h.ok k.ok (k.fo hb);rw[jsw] at this;rw[List.map_append,List.map_cons];exact this
 ·rw[List.append_assoc,List.cons_append];exact h.acc _ _ (.bin (by rw[<- jsw];exact jvc) (k.acc _ _ _ jrp h2))
def Sm.sub(h:Sm aa ts f b)(k:Tm aa us g b)(hb:b<=KB):Sm aa (ts++[45]::us) (addF f (mulF g (-1))) (b+1):=by
 refine⟨?_,fun rest d h2=>?_,h.toks.app ((Toks.sign (c:=45) rfl).app k.toks),by rw[jj6 (by rw[h.len,jdy,k.len])];exact h.len,h.bf.add k.bf.neg⟩
 ·have:=jEg h.ok k.ok (k.fo hb);rw[jox] at this;rw[List.map_append,List.map_cons];exact this
 ·rw[List.append_assoc,List.cons_append];exact h.acc _ _ (.bin (by rw[<- jox];exact jnh) (k.acc _ _ _ jrp h2))
def Tm.mono(h:Tm aa ts f b)(hc:b<=c):Tm aa ts f c:=⟨h.ok,h.acc,h.toks,h.len,h.bf.mono hc⟩
def Sm.mono(h:Sm aa ts f b)(hc:b<=c):Sm aa ts f c:=⟨h.ok,h.acc,h.toks,h.len,h.bf.mono hc⟩
end
def plF(n:Nat)(v:Nat):Fm:=(List.replicate n 0,(v:Int))
def jn0(n v:Nat):jb9 (plF n v)=true:=by unfold jb9 plF;simp
def jv3{aa:LL}(hn:aa.length<=1000){v:Nat}(hv:v<10 ^ 31):Fc aa [dg v] (plF aa.length v) 110:=by
 have hw:=jCb v;obtain⟨_,_,_,x,r,e,_,_⟩:=jd7 hw;have hx:isL x=false:=jng (jAl (juk v) x (by rw[e];exact zaa));have hl:=jFh hv;refine .word hn hw (by omega) (fun y s ey hy=>?_) ?_ (by simp[plF]) ⟨fun c hc=>?_,?_⟩
 ·rw[e] at ey;obtain⟨rfl,rfl⟩:=List.cons.inj ey;rw[hx] at hy;cases hy
 ·have:=jz9 v;rw[e] at this |-
  unfold frmW plF;dsimp only;rw[hx,if_neg (by decide),this]
 ·have:c=0:=by
   have:c∈List.replicate aa.length (0:Int):=hc;exact (List.mem_replicate.mp this).2
  rw[this];unfold Bt;decide
 ·show Bt 110 ((v:Nat):Int);unfold Bt;rw[Int.natAbs_natCast];exact Nat.lt_trans hv (by decide)
def hotF(n i:Nat):Fm:=((List.range n).map fun k=>if k=i then 1 else 0,0)
def jC7{aa:LL}(hn:aa.length<=1000)(hN:∀ a∈aa,Nm a)(hd:aa.Nodup){i:Nat}(hi:i<aa.length):Fc aa [aa[i]] (hotF aa.length i) 110:=by
 have hm:=List.getElem_mem hi;have na:=hN _ hm;refine .word hn (.name na.ne na.al na.le) (by have:=na.le;omega) (fun _ _ _ _=>hm) ?_ (by simp[hotF]) ⟨fun c hc=>?_,by show Bt 110 0;unfold Bt;decide⟩
 ·obtain⟨x,r,e⟩:∃ x r,aa[i]=x::r:=by
   cases h:aa[i] with
   | nil=>exact absurd h na.ne
   | cons x r=>exact⟨x,r,rfl⟩
  have hx:isL x=true:=na.al x (by rw[e];exact zaa);have:frmW aa aa[i]=(aa.map fun b=>if b=aa[i] then 1 else 0,0):=by
   generalize hg:aa[i]=w at e |-
   subst e;unfold frmW;dsimp only;rw[if_pos hx]
  rw[this];unfold hotF;congr 1;apply List.ext_getElem
  ·simp
  ·intro j h1 h2;simp only[List.getElem_map,List.getElem_range];have hj:j<aa.length:=by simpa using h1
   by_cases q:j=i
   ·subst q;simp
   ·have pw:=List.pairwise_iff_getElem.mp hd;rw[if_neg q,if_neg (fun z=>?_)];rcases Nat.lt_or_gt_of_ne q with w|w
    ·exact pw j i hj hi w z
    ·exact pw i j hi hj w z.symm
 ·obtain⟨k,_,rfl⟩:=zcv.mp hc;unfold Bt
  split<;>decide
end
section
def jg8{k l:Nat}{a:Fm}{n:Int}(ha:BF k a)(hn:Bt l n)(hk:k<=100000)(hl:l<=100000)(h:a.1.length<=1000):jbf [fm a,.int n]=oK (fm (mulF a n)):=by
 have e:=jie (c:=[oI n]) (fe:=jfx) (K:=D.int) (F:=fun c=>.int (c*n)) a.1 none (fun c hc=>by
  unfold jfx;simp only[stpA,je6 hn (ha.1 c hc) hl hk];rw[Int.mul_comm];rfl)
 unfold jbf;rw[jfg];unfold jgz fm mulF;simp only[stpA,e,je6 hn ha.2 hl hk,lst_le (ds:=List.map (fun c=>D.int (c*n)) a.1) (by rw[zav];assumption)];rw[List.map_map,Int.mul_comm];rfl
def jim(a b:Fm)(h:a.1.length<=1000):jcb [fm a,fm b]=oK (fm (addF a b)):=by
 have e:=joo (c:=[]) (fe:=jgt) (K:=fun p:Int×Int=>(D.int p.1,D.int p.2)) (F:=fun p=>.int (p.1+p.2)) (a.1.zip b.1) none none (fun p hp=>by unfold jgt;simp only[stpA];rfl);unfold jcb;rw[jfg];unfold jh1 fm addF;simp only[stpA,e,lst_le (ds:=List.map (fun p:Int×Int=>D.int (p.1+p.2)) (a.1.zip b.1)) (by rw[zav,List.length_zip];omega)];rw[List.map_map];rfl
section
variable {aa:LL}
def jht:(nmD aa).length=aa.length:=by simp[nmD]
def jBe{v:Nat}(h:v<10 ^ 31):kStr [.int (v:Nat)]=some (sT (dg v)):=by
 have hl:((v:Nat):Int).natAbs.log2<1920:=by
  rw[Int.natAbs_natCast]
  by_cases q:v=0
  ·subst q;decide
  ·exact Nat.lt_trans ((Nat.log2_lt q).mpr (Nat.lt_trans h (by decide:10 ^ 31<2 ^ 200))) (by decide)
 show (if ((v:Nat):Int).natAbs.log2<1920 then some (D.str (Str.ofString (toString ((v:Nat):Int)))) else none)=_;rw[if_pos hl,jFj]
def jvn{num ag:Int}(h1:1<=aa.length)(h4:aa.length<=4)(h0:0<=num):∃ v:Nat,v<10 ^ 30/\je4 [.lst (nmD aa),.int num,.int ag]=oK (.tup [.lst (nmD [dg v]),fm (plF aa.length v)]):=by
 have gw:∃ v:Nat,v<10 ^ 30/\∃ Y1,gSet 3 (f2 gMod (f2 jdf (vR 1) (cI 8)) (cI 4)) [oN aa,oI num,oI ag,none]=nX Y1 /\
   gIf (DL.t2 gEq (f2 gMod (vR 1) (cI 4)) (cI 0)) (gSet 3 (f2 gMod (vR 2) (f2 gIx (fL jaw (jac (cI 100) (jac (f2 gPow (cI 10) (cI 30)) fNil))) (f2 jdf (f2 gMod (f2 jdf (vR 1) (cI 32)) (cI 4)) (cI 3))))) gNx Y1=nX [oN aa,oI num,oI ag,oI (v:Nat)]:=by
  have f1:=jce (i:=num) (j:=8) (by decide) (by decide);have e9:=jbz (i:=num / 8) (j:=4) (by decide);have f3:=jbz (i:=num) (j:=4) (by decide);have f4:=jce (i:=num) (j:=32) (by decide) (by decide);have f5:=jbz (i:=num / 32) (j:=4) (by decide);have f6:=jce (i:=num / 32 % 4) (j:=3) (by decide) (by decide)
  by_cases q:num % 4=0
  ·have hd:num / 32 % 4 / 3=0\/num / 32 % 4 / 3=1:=by omega
   obtain⟨md,hm,hm2,g⟩:∃ md:Int,0<md/\md<=10 ^ 30/\gIx (.lst [.int 100,.int 1000000000000000000000000000000]) (.int (num / 32 % 4 / 3))=oI md:=by
    rcases hd with hd|hd
    ·exact⟨100,by decide,by decide,by rw[hd];rfl⟩
    ·exact⟨1000000000000000000000000000000,by decide,by decide,by rw[hd];rfl⟩
   have r1:=zca ag (show md≠0 by exact Int.ne_of_gt (by assumption));have r2:=zcb ag hm;have f7:=jbz (i:=ag) (j:=md) hm;refine⟨(ag % md).toNat,by omega,[oN aa,oI num,oI ag,oI (num / 8 % 4)],by simp only[stpA,f1,e9];rfl,?_⟩;have t:DL.t2 gEq (f2 gMod (vR 1) (cI 4)) (cI 0) [oN aa,oI num,oI ag,oI (num / 8 % 4)]=oK true:=by
    simp only[stpA,f3,q];rfl
   rw[jfk t,if_pos rfl,Int.toNat_of_nonneg r1];simp only[stpA,p1030,f4,f5,f6,g,f7];rfl
  ·refine⟨(num / 8 % 4).toNat,by omega,[oN aa,oI num,oI ag,oI (num / 8 % 4)],by simp only[stpA,f1,e9];rfl,?_⟩;have t:DL.t2 gEq (f2 gMod (vR 1) (cI 4)) (cI 0) [oN aa,oI num,oI ag,oI (num / 8 % 4)]=oK false:=by
    simp only[stpA,f3,beq_eq_false_iff_ne.mpr q];rfl
   rw[jfk t,if_neg (by decide),Int.toNat_of_nonneg (by omega)];rfl
 obtain⟨v,hv,Y1,e1,e2⟩:=gw;refine⟨v,hv,?_⟩;unfold je4;rw[jkm];show (jf4 [oN aa,oI num,oI ag,none]).b outD=_;unfold jf4;rw[jaz e1,jaz e2];have s:=jBe (v:=v) (by exact zdy (by assumption) (by decide));have m:=jyr (x:=.int 0) (n:=aa.length) h1 (by exact zdy (by assumption) (by decide));have t1:jb2 [.int 0]=some (.tup [.int 0]):=rfl;have cb:jaw [D.str (St (dg v))]=some (.lst [sT (dg v)]):=rfl;simp only[stpA,s,jnj,jht,m,t1,cb];unfold fm plF;rw[List.map_replicate];rfl
def jvm{num:Int}(h1:1<=aa.length)(h4:aa.length<=4)(h0:0<=num):∃ (i:Nat) (hi:i<aa.length),je3 [.lst (nmD aa),.int num]=oK (.tup [.lst (nmD [aa[i]]),fm (hotF aa.length i)]):=by
 have hp:(0:Int)<(aa.length:Nat):=Int.natCast_pos.mpr h1;have r1:=zca num (show ((aa.length:Nat):Int)≠0 by exact Int.ne_of_gt (by assumption));have r2:=zcb num hp;obtain⟨i,hi⟩:=Int.eq_ofNat_of_zero_le r1;have di:i<aa.length:=by omega
 refine⟨i,di,?_⟩;have f1:=jbz (i:=num) (j:=(aa.length:Nat)) hp;rw[hi] at f1;have e:=jIx (c:=[oI (i:Nat)]) (fe:=jgu) (F:=fun k=>.int (if k=i then 1 else 0)) aa.length none (fun j hj=>by
  unfold jgu;have q:(((j:Nat):Int) == (i:Nat))=decide (j=i):=by
   by_cases z:j=i
   ·subst z;simp
   ·rw[decide_eq_false z];exact beq_eq_false_iff_ne.mpr (by omega)
  simp only[stpA,q,ju8]
  by_cases z:j=i
  ·rw[decide_eq_true z,if_pos z];rfl
  ·rw[decide_eq_false z,if_neg z];rfl)
 have ix:gIx (.lst (nmD aa)) (.int (i:Nat))=some (sT aa[i]):=by
  rw[ix_l];exact DL.atI_get (by simp[nmD,di])
 unfold je3;rw[jfg];show (jf2 [oN aa,oI num,none]).b outD=_;unfold jf2;have e1:gSet 2 (f2 gMod (vR 1) (fL kLen (jac (vR 0) fNil))) [oN aa,oI num,none]=nX [oN aa,oI num,oI (i:Nat)]:=by
  simp only[stpA,jnj,jht,f1];rfl
 rw[jaz e1];have t0:(((aa.length:Nat):Int)).toNat=aa.length:=Int.toNat_natCast _;have cb:jaw [D.str (St aa[i])]=some (.lst [sT aa[i]]):=rfl;simp only[stpA,jnj,jht,ix,range1,t0,e,cb,lst_le (ds:=(List.range aa.length).map fun k=>D.int (if k=i then 1 else 0)) (by rw[zav,List.length_range];exact zdy (by assumption) (by decide))];unfold fm hotF;rw[List.map_map];rfl
end
end
section
def jdc{t:DSt->M Bool}{g1 g2:DSt->M Out}{Y:DSt}(h:t Y=some (.ok false)):gSeq (gIf t g1 gNx) g2 Y=g2 Y:=jaz (by rw[jfk h,if_neg (by decide)];rfl)
def jdh{t:DSt->M Bool}{fa:DSt->M D}{g2:DSt->M Out}{Y:DSt}{d:D}(h:t Y=some (.ok true))(hd:fa Y=some (.ok d)):gSeq (gIf t (gRet fa) gNx) g2 Y=oK (.rt d):=by
 rw[jor,jfk h,if_pos rfl,jx1,hd,M.b_ok];rfl
def catT{ts us:LL}(h:ts.length+us.length<=100000):gCat (.lst (nmD ts)) (.lst (nmD us))=oN (ts++us):=by
 rw[jB4 (by rw[jht,jht,sizeLine_eq];omega),jv2]
def catL{ts us:LL}{p q:Nat}(h1:ts.length<=p)(h2:us.length<=q)(h:p+q<=100000:=by decide):gCat (.lst (nmD ts)) (.lst (nmD us))=oN (ts++us):=catT (zdy (Nat.add_le_add h1 h2) h)
def la{a b:LL}{p q:Nat}(ha:a.length<=p)(hb:b.length<=q):(a++b).length<=p+q:=by rw[zcc];exact Nat.add_le_add ha hb
def lar{a b:LL}{p q:Nat}(ha:a.length<=p)(hb:b.length<=q):(a++b).length<=q+p:=by rw[Nat.add_comm];exact la ha hb
def l_op:jaw [D.str "("]=oN [[40]]:=by rw[jnl];rfl
def l_cl:jaw [D.str ")"]=oN [[41]]:=by rw[jow];rfl
def l_mi:jaw [D.str "-"]=oN [[45]]:=by rw[jox];rfl
def l_pl:jaw [D.str "+"]=oN [[43]]:=by rw[jsw];rfl
def l_st:jaw [D.str "*"]=oN [[42]]:=by rw[jkv];rfl
def l_cs:jaw [D.str ")",D.str "*"]=oL (nmD [[41],[42]]):=by rw[jow,jkv];rfl
def lt_2:Str.ofString "2"=St [50]:=by decide +kernel
def l_s2:jaw [D.str "*",D.str "2",D.str "*"]=oL (nmD [[42],[50],[42]]):=by rw[jkv,lt_2];rfl
def fm1(f:Fm):gIx (fm f) (.int 1)=oI f.2:=by unfold fm;simp
def jE9{n:Nat}{h p:Fm}(h1:h.1.length=n)(h2:p.1.length=n):addF (addF h (mulF h (-1))) p=p:=by
 obtain⟨hs,a⟩:=h;obtain⟨ps,b⟩:=p;unfold addF mulF;dsimp only at *;refine Prod.ext ?_ (by show a+a*-1+b=b;omega);show List.map (fun p:Int×Int=>p.1+p.2) ((List.map (fun p:Int×Int=>p.1+p.2) (hs.zip (hs.map (·*-1)))).zip ps)=ps;subst h1
 clear a b
 induction hs generalizing ps with
 | nil=>simp at h2;subst h2;rfl
 | cons x hs ih =>
  cases ps with
  | nil=>simp at h2
  | cons y ps =>
   simp only[List.map_cons,List.zip_cons_cons];rw[ih ps (by simpa using h2)];congr 1;omega
section
variable {aa:LL}
def jrz{num ag:Int}(hN:∀ a∈aa,Nm a)(hd:aa.Nodup)(h1:1<=aa.length)(h4:aa.length<=4)(h0:0<=num) :
  ∃ ts f,jd5 [.lst (nmD aa),.int num,.int ag]=oK (.tup [.lst (nmD ts),fm f])/\Tm aa ts f 400/\ts.length<=9:=by
 obtain⟨v,hv,e3⟩:=jvn (aa:=aa) (num:=num / 8) (ag:=ag) h1 h4 (Int.ediv_nonneg h0 (by decide));obtain⟨i,hi,e4⟩:=jvm (aa:=aa) (num:=num / 64) h1 h4 (Int.ediv_nonneg h0 (by decide));have hn:aa.length<=1000:=zdy h4 (by decide);have FP:=jv3 hn (v:=v) (by omega);have FH:=jC7 hn hN hd hi;have F2:Fc aa [[50]] (plF aa.length 2) 110:=jv3 hn (v:=2) (by decide);have pP:=jn0 aa.length v;have p2:=jn0 aa.length 2;generalize dg v=A at e3 FP;generalize aa[i]=B at e4 FH;have lP:(plF aa.length v).1.length=aa.length:=FP.len;have vP:(plF aa.length v).2=(v:Int):=rfl;have v2:(plF aa.length 2).2=2:=rfl;generalize plF aa.length v=P at e3 FP pP lP vP;generalize plF aa.length 2=T at F2 p2 v2;generalize hotF aa.length i=H at e4 FH;have k1:(110:Nat)<=KB:=by decide
 have bv:Bt 110 (v:Int):=by rw[<- vP];exact FP.bf.2
 have e6:=jg8 (n:=(v:Int)) FH.bf bv (by decide) (by decide) (by rw[FH.len];exact hn);have e7:=jim H P (by rw[FH.len];exact hn);have jf:Sm aa ([B]++[43]::[A]) (addF H P) 111:=(FH.tm k1).sm k1 |>.add (FP.tm k1) k1
 have FS:=Fc.paren jf;have BS:BF 111 (addF H P):=jf.bf;have b2v:Bt 115 (2*(v:Int)):=(Bt.mul (a:=3) (b:=110) (by unfold Bt;decide) bv).mono (by decide);have e8:=jg8 (n:=2*(v:Int)) BS b2v (by decide) (by decide) (by rw[jf.len];exact hn);have m2v:jdt (.int 2) (.int (v:Int))=oI (2*(v:Int)):=je6 (a:=3) (b:=110) (by unfold Bt;decide) bv;have f8:=jce (i:=num) (j:=8) (by decide) (by decide);have dq:=jce (i:=num) (j:=64) (by decide) (by decide);have jv:=jbz (i:=num) (j:=8) (by decide);have ib:0<=num % 8:=zca _ (by decide);have ia:num % 8<8:=zcb _ (by decide);generalize num % 8=W at jv ib ia;have LH:H.1.length=aa.length:=FH.len;have a1:([A]:LL).length=1:=rfl;have o0:gIx (D.tup [.lst (nmD [A]),fm P]) (.int 0)=oN [A]:=at0 _ _;have o1:gIx (D.tup [.lst (nmD [A]),fm P]) (.int 1)=of P:=at1 _ _ _;have q0:gIx (D.tup [.lst (nmD [B]),fm H]) (.int 0)=oN [B]:=at0 _ _;have q1:gIx (D.tup [.lst (nmD [B]),fm H]) (.int 1)=of H:=at1 _ _ _;generalize D.lst (nmD aa)=N at e3 e4 |-
 generalize ij:D.tup [.lst (nmD [A]),fm P]=one at e3 o0 o1;generalize ii:D.tup [.lst (nmD [B]),fm H]=oth at e4 q0 q1;have s3:gSet 3 (jay je4 (jac (vR 0) (jac (f2 jdf (vR 1) (cI 8)) (jac (vR 2) fNil)))) [some N,oI num,oI ag,none,none,none,none,none,none]=nX [some N,oI num,oI ag,some one,none,none,none,none,none]:=by
  simp only[stpA,f8,e3];rfl
 have s4:gSet 4 (jay je3 (jac (vR 0) (jac (f2 jdf (vR 1) (cI 64)) fNil))) [some N,oI num,oI ag,some one,none,none,none,none,none]=nX [some N,oI num,oI ag,some one,some oth,none,none,none,none]:=by
  simp only[stpA,dq,e4];rfl
 have s5:gSet 5 (f2 gIx (f2 gIx (vR 3) (cI 1)) (cI 1)) [some N,oI num,oI ag,some one,some oth,none,none,none,none]=nX [some N,oI num,oI ag,some one,some oth,oI v,none,none,none]:=by
  simp only[stpA,o1,fm1,vP];rfl
 have s6:gSet 6 (jay jbf (jac (f2 gIx (vR 4) (cI 1)) (jac (vR 5) fNil))) [some N,oI num,oI ag,some one,some oth,oI v,none,none,none]=nX [some N,oI num,oI ag,some one,some oth,oI v,of (mulF H v),none,none]:=by
  simp only[stpA,q1,e6];rfl
 have s7:gSet 7 (f2 gMod (vR 1) (cI 8)) [some N,oI num,oI ag,some one,some oth,oI v,of (mulF H v),none,none]=nX [some N,oI num,oI ag,some one,some oth,oI v,of (mulF H v),oI W,none]:=by
  simp only[stpA,jv];rfl
 unfold jd5;rw[jkm]
 suffices h:∃ ts f,jfi [some N,oI num,oI ag,none,none,none,none,none,none]=oK (.rt (.tup [.lst (nmD ts),fm f]))/\Tm aa ts f 400/\ts.length<=9 by
  obtain⟨ts,f,e,h2,h3⟩:=h;refine⟨ts,f,?_,h2,h3⟩;show (jfi [some N,oI num,oI ag,none,none,none,none,none,none]).b outD=_;rw[e,M.b_ok];rfl
 unfold jfi;rw[jaz s3,jaz s4,jaz s5,jaz s6,jaz s7];have tq:∀ (k:Int) (x y:Option D),DL.t2 gEq (vR 7) (cI k) [some N,oI num,oI ag,some one,some oth,oI v,x,oI W,y]=oK (W == k):=fun k x y=>by simp only[stpA];rfl
 have tl:∀ (x y:Option D),DL.t2 gLt (vR 7) (cI 3) [some N,oI num,oI ag,some one,some oth,oI v,x,oI W,y]=oK (decide (W<3)):=fun x y=>by simp only[stpA,lt_int];rfl
 have fj:=FH.tm k1;have jg:=FP.tm k1
 by_cases w0:W=0
 ·subst w0;refine⟨[A],P,?_,jg.mono (by decide),Nat.le_of_ble_eq_true rfl⟩;rw[jdh (tq 0 _ _) (show vR 3 _=oK one from rfl),ij]
 rw[jdc (by rw[tq,beq_eq_false_iff_ne.mpr w0])]
 by_cases w3:W<3
 ·refine⟨[B],H,?_,fj.mono (by decide),Nat.le_of_ble_eq_true rfl⟩;rw[jdh (by rw[tl,decide_eq_true w3]) (show vR 4 _=oK oth from rfl),ii]
 rw[jdc (by rw[tl,decide_eq_false w3])]
 by_cases w3':W=3
 ·subst w3';have t:=jg.mul FH k1 k1 (.inl pP);rw[jg4 pP (by rw[lP,LH]),vP] at t;refine⟨[A]++[42]::[B],mulF H v,?_,t.mono (by decide),Nat.le_of_ble_eq_true rfl⟩;have c1:=catT (ts:=[A]) (us:=[[42]]) (Nat.le_of_ble_eq_true rfl);have c2:=catT (ts:=[A]++[[42]]) (us:=[B]) (Nat.le_of_ble_eq_true rfl);exact jdh (tq 3 _ _) (by simp only[stpA,o0,q0,l_st,c1,c2];rfl)
 rw[jdc (by rw[tq,beq_eq_false_iff_ne.mpr w3'])]
 by_cases w4:W=4
 ·subst w4;have t:=fj.mul FP k1 k1 (.inr pP);rw[jev pP,vP] at t;refine⟨[B]++[42]::[A],mulF H v,?_,t.mono (by decide),Nat.le_of_ble_eq_true rfl⟩;have c1:=catT (ts:=[B]) (us:=[[42]]) (Nat.le_of_ble_eq_true rfl);have c2:=catT (ts:=[B]++[[42]]) (us:=[A]) (Nat.le_of_ble_eq_true rfl);exact jdh (tq 4 _ _) (by simp only[stpA,o0,q0,l_st,c1,c2];rfl)
 rw[jdc (by rw[tq,beq_eq_false_iff_ne.mpr w4])]
 by_cases w5:W=5
 ·subst w5;have s1:=((fj.sm k1).sub fj k1).add (jg.mono (by decide:110<=111)) (by decide);have pc:=jE9 (n:=aa.length) LH lP;rw[pc] at s1;have t:=((Fc.paren s1).tm (by decide)).mul FH (by decide) k1 (.inl pP);rw[jg4 pP (by rw[lP,LH]),vP] at t;refine⟨[[40],B,[45],B,[43],A,[41],[42],B],mulF H v,?_,t.mono (by decide),Nat.le_of_ble_eq_true rfl⟩;have c1:=catT (ts:=[[40]]) (us:=[B]) (Nat.le_of_ble_eq_true rfl);have c2:=catT (ts:=[[40],B]) (us:=[[45]]) (Nat.le_of_ble_eq_true rfl);have c3:=catT (ts:=[[40],B,[45]]) (us:=[B]) (Nat.le_of_ble_eq_true rfl);have c4:=catT (ts:=[[40],B,[45],B]) (us:=[[43]]) (Nat.le_of_ble_eq_true rfl);have c5:=catT (ts:=[[40],B,[45],B,[43]]) (us:=[A]) (Nat.le_of_ble_eq_true rfl);have c6:=catT (ts:=[[40],B,[45],B,[43],A]) (us:=[[41],[42]]) (Nat.le_of_ble_eq_true rfl);have c7:=catT (ts:=[[40],B,[45],B,[43],A,[41],[42]]) (us:=[B]) (Nat.le_of_ble_eq_true rfl);simp only[List.cons_append,List.nil_append] at c1 c2 c3 c4 c5 c6 c7;exact jdh (tq 5 _ _) (by simp only[stpA,o0,q0,l_op,l_mi,l_pl,l_cs,c1,c2,c3,c4,c5,c6,c7];rfl)
 rw[jdc (by rw[tq,beq_eq_false_iff_ne.mpr w5])];have c1:=catT (ts:=[[40]]) (us:=[B]) (Nat.le_of_ble_eq_true rfl);have c2:=catT (ts:=[[40],B]) (us:=[[43]]) (Nat.le_of_ble_eq_true rfl);have c3:=catT (ts:=[[40],B,[43]]) (us:=[A]) (Nat.le_of_ble_eq_true rfl);have c4:=catT (ts:=[[40],B,[43],A]) (us:=[[41]]) (Nat.le_of_ble_eq_true rfl);have c5:=catT (ts:=[[40],B,[43],A,[41]]) (us:=[[42],[50],[42]]) (Nat.le_of_ble_eq_true rfl);have c6:=catT (ts:=[[40],B,[43],A,[41],[42],[50],[42]]) (us:=[A]) (Nat.le_of_ble_eq_true rfl);simp only[List.cons_append,List.nil_append] at c1 c2 c3 c4 c5 c6;have s8:gSet 8 (f2 gCat (f2 gCat (f2 gCat (f2 gCat (fL jaw (jac (fC (.str "(")) fNil)) (f2 gIx (vR 4) (cI 0))) (fL jaw (jac (cS "+") fNil))) (f2 gIx (vR 3) (cI 0))) (fL jaw (jac (fC (.str ")")) fNil))) [some N,oI num,oI ag,some one,some oth,oI v,of (mulF H v),oI W,none]=nX [some N,oI num,oI ag,some one,some oth,oI v,of (mulF H v),oI W,oL (nmD [[40],B,[43],A,[41]])]:=by
  simp only[stpA,o0,q0,l_op,l_pl,l_cl,c1,c2,c3,c4];rfl
 have s9:gSet 6 (jay jcb (jac (f2 gIx (vR 4) (cI 1)) (jac (f2 gIx (vR 3) (cI 1)) fNil))) [some N,oI num,oI ag,some one,some oth,oI v,of (mulF H v),oI W,oL (nmD [[40],B,[43],A,[41]])]=nX [some N,oI num,oI ag,some one,some oth,oI v,of (addF H P),oI W,oL (nmD [[40],B,[43],A,[41]])]:=by
  simp only[stpA,o1,q1,e7];rfl
 rw[jaz s8,jaz s9]
 by_cases w6:W=6
 ·subst w6;refine⟨[[40],B,[43],A,[41]],addF H P,?_,(FS.tm (by decide)).mono (by decide),Nat.le_of_ble_eq_true rfl⟩;exact jdh (tq 6 _ _) (by simp only[stpA];rfl)
 rw[jdc (by rw[tq,beq_eq_false_iff_ne.mpr w6])];have t:=((FS.tm (by decide)).mul F2 (by decide) k1 (.inr p2)).mul FP (by decide) k1 (.inr pP);rw[jev pP,jev p2,v2,vP,jkc] at t;refine⟨[[40],B,[43],A,[41],[42],[50],[42],A],mulF (addF H P) (2*v),?_,t.mono (by decide),Nat.le_of_ble_eq_true rfl⟩;simp only[stpA,o0,l_s2,c5,c6,m2v,e8];rfl
end
end
section
theorem jsk:∀ (xs ys:List Int),(xs.zip ys).map (fun p=>p.1+p.2)=(ys.zip xs).map (fun p=>p.1+p.2)
 | [],ys=>by simp
 | _::_,[]=>by simp
 | x::xs,y::ys=>by
  rw[List.zip_cons_cons,List.zip_cons_cons,List.map_cons,List.map_cons,jsk xs ys,Int.add_comm]
def joe(a b:Fm):addF a b=addF b a:=Prod.ext (jsk _ _) (Int.add_comm _ _)
def k_op:D.lst [D.str "("]=.lst (nmD [[40]]):=by rw[jnl];rfl
def k_cl:D.lst [D.str ")"]=.lst (nmD [[41]]):=by rw[jow];rfl
def k_mi:D.lst [D.str "-"]=.lst (nmD [[45]]):=by rw[jox];rfl
def k_pl:D.lst [D.str "+"]=.lst (nmD [[43]]):=by rw[jsw];rfl
def k_ss{a:List Nat}:D.lst [D.str "*",D.str (St a)]=.lst (nmD [[42],a]):=by rw[jkv];rfl
def k_as{a:List Nat}:D.lst [D.str (St a),D.str "*"]=.lst (nmD [a,[42]]):=by rw[jkv];rfl
section
variable {aa:LL}
def jye{num ag dp:Int}{ts:LL}{f:Fm}{b:Nat}(hN:∀ a∈aa,Nm a)(hd:aa.Nodup)(h1:1<=aa.length)(h4:aa.length<=4)(h0:0<=num)(S:Sm aa ts f b)(hb:400<=b)(dn:b+111<=KB)(ht:ts.length<=1000) :
  ∃ ts' f' dp',jf8 [.tup [.lst (nmD ts),fm f,.int dp],.lst (nmD aa),.int num,.int ag]=oK (.tup [.lst (nmD ts'),fm f',.int dp'])/\Sm aa ts' f' (b+111)/\ts'.length<=ts.length+13:=by
 obtain⟨us,g,et,T,hu⟩:=jrz (aa:=aa) (num:=num / 16) (ag:=ag) hN hd h1 h4 (Int.ediv_nonneg h0 (by decide));have hn:aa.length<=1000:=zdy h4 (by decide);have Tb:=T.mono hb;have b7:b<=KB:=zdy (Nat.le_add_right b 111) dn;have cu:∀ k,k<=111->b+k<=b+111:=fun k hk=>Nat.add_le_add_left hk b
 have cw:∀ k,k<=13->ts.length+k<=ts.length+13:=fun k hk=>Nat.add_le_add_left hk ts.length
 have c8:b+110<=KB:=zdy (cu 110 (by decide)) dn;have kb:KB<=100000:=by decide
 have lf:=S.len;have lg:=T.len;have IN:Fc aa ([40]::ts++[[41]]) f b:=Fc.paren S;have jx:=IN.tm b7;have hm0:0<=num / 16 % 4:=zca _ (by decide);have hm4:num / 16 % 4<4:=zcb _ (by decide);have fg:=jce (i:=num) (j:=16) (by decide) (by decide);have m4:=jbz (i:=num / 16) (j:=4) (by decide);have d7:=jbz (i:=num) (j:=16) (by decide);obtain⟨v,hv⟩:=Int.eq_ofNat_of_zero_le hm0;rw[hv] at m4;have jn:v<4:=by omega
 have FV:=jv3 hn (v:=v) (Nat.lt_trans jn (by decide));have sv:=jBe (v:=v) (Nat.lt_trans jn (by decide));have pV:=jn0 aa.length v;have vV:(plF aa.length v).2=(v:Int):=rfl;have lV:(plF aa.length v).1.length=aa.length:=FV.len;generalize dg v=A at FV sv;generalize plF aa.length v=P at FV pV vV lV;have bv:Bt 110 (v:Int):=by rw[<- vV];exact FV.bf.2
 have bm:Bt 110 (-1):=by unfold Bt;decide
 have x1:=jim f g (by rw[lf];exact hn);have x2:=jg8 (n:=-1) T.bf bm (by decide) (by decide) (by rw[lg];exact hn);have x3:=jim f (mulF g (-1)) (by rw[lf];exact hn);have x4:=jg8 (n:=(v:Int)) S.bf bv (zdy b7 kb) (by decide) (by rw[lf];exact hn);have x5:=jg8 (n:=-1) S.bf bm (zdy b7 kb) (by decide) (by rw[lf];exact hn);have x6:=jim g (mulF f (-1)) (by rw[lg];exact hn);have sb:gSub (.int 0) (.int 1)=oI (-1):=rfl;have ib:0<=num % 16:=zca _ (by decide);have ia:num % 16<16:=zcb _ (by decide);generalize num % 16=W at d7 ib ia;generalize D.lst (nmD aa)=N at et |-
 have de:(110:Nat)<=KB:=by decide
 generalize htr:D.tup [.lst (nmD ts),fm f,.int dp]=tr
 let tl (a b c d:Option D):DSt:=[some tr,some N,oI num,oI ag,oN ts,of f,oI dp,a,b,c,d,none]
 have s1:gAsg (jst 4 5 6) (vR 0) [some tr,some N,oI num,oI ag,none,none,none,none,none,none,none,none]=nX [some tr,some N,oI num,oI ag,oN ts,of f,oI dp,none,none,none,none,none]:=by
  subst htr;rfl
 have s2:gAsg (jf1 7 8) (jay jd5 (jac (vR 1) (jac (f2 jdf (vR 2) (cI 16)) (jac (vR 3) fNil)))) [some tr,some N,oI num,oI ag,oN ts,of f,oI dp,none,none,none,none,none]=nX [some tr,some N,oI num,oI ag,oN ts,of f,oI dp,oN us,of g,none,none,none]:=by
  rw[jCi];simp only[stpA,fg,et];rfl
 have s3:gSet 9 (f2 gMod (vR 2) (cI 16)) [some tr,some N,oI num,oI ag,oN ts,of f,oI dp,oN us,of g,none,none,none]=nX [some tr,some N,oI num,oI ag,oN ts,of f,oI dp,oN us,of g,oI W,none,none]:=by
  simp only[stpA,d7];rfl
 have s4:gSet 10 (f2 gMod (f2 jdf (vR 2) (cI 16)) (cI 4)) [some tr,some N,oI num,oI ag,oN ts,of f,oI dp,oN us,of g,oI W,none,none]=nX [some tr,some N,oI num,oI ag,oN ts,of f,oI dp,oN us,of g,oI W,oI v,none]:=by
  simp only[stpA,fg,m4];rfl
 unfold jf8
 suffices h:∃ ts' f' dp',je0 [some tr,some N,oI num,oI ag,none,none,none,none,none,none,none,none]=oK (.rt (.tup [.lst (nmD ts'),fm f',.int dp']))/\Sm aa ts' f' (b+111)/\ts'.length<=ts.length+13 by
  obtain⟨ts',f',dp',e,h2,h3⟩:=h;refine⟨ts',f',dp',?_,h2,h3⟩;rw[jAe];show (je0 [some tr,some N,oI num,oI ag,none,none,none,none,none,none,none,none]).b outD=_;rw[e,M.b_ok];rfl
 unfold je0;rw[jaz s1,jaz s2,jaz s3,jaz s4];have tq:∀ (k:Int) (y:Option D),DL.t2 gEq (vR 9) (cI k) [some tr,some N,oI num,oI ag,oN ts,of f,oI dp,oN us,of g,oI W,oI v,y]=oK (W == k):=fun k y=>by simp only[stpA];rfl
 have jh:∀ (y:Option D),DL.t2 gLt (vR 9) (cI 9) [some tr,some N,oI num,oI ag,oN ts,of f,oI dp,oN us,of g,oI W,oI v,y]=oK (decide (W<9)):=fun y=>by simp only[stpA,lt_int];rfl
 have d6:DL.tOr (DL.t2 gLt (vR 9) (cI 6)) (DL.t2 gGt (vR 6) (cI 8)) [some tr,some N,oI num,oI ag,oN ts,of f,oI dp,oN us,of g,oI W,oI v,none]=oK (decide (W<6) || decide (8<dp)):=by
  simp only[stpA,lt_int,gt_int]
  by_cases q:W<6
  ·rw[decide_eq_true q];rfl
  ·rw[decide_eq_false q];rfl
 have c1:=fun z=>catL (us:=[z]) ht (zac 1)
 have c2:=fun z=>catL (ts:=ts++[z]) (la ht (zac 1)) hu
 by_cases w:(decide (W<6) || decide (8<dp))=true
 ·refine⟨ts++[43]::us,addF f g,dp,?_,(S.add Tb b7).mono (cu 1 (by decide)),zdy (la (zac _) (Nat.succ_le_succ hu)) (cw 10 (by decide))⟩;rw[w] at d6;exact jdh d6 (by simp only[stpA,k_pl,c1,c2,x1,List.append_assoc];rfl)
 rw[Bool.not_eq_true] at w;rw[w] at d6;rw[jdc d6]
 by_cases w9:W<9
 ·refine⟨ts++[45]::us,addF f (mulF g (-1)),dp,?_,(S.sub Tb b7).mono (cu 1 (by decide)),zdy (la (zac _) (Nat.succ_le_succ hu)) (cw 10 (by decide))⟩;exact jdh (by rw[jh,decide_eq_true w9]) (by simp only[stpA,k_mi,c1,c2,sb,x2,x3,List.append_assoc];rfl)
 rw[jdc (by rw[jh,decide_eq_false w9])];have d1:=catL (ts:=[[40]]) (us:=ts) (zac 1) ht;have d2:=catL (ts:=[[40]]++ts) (us:=[[41]]) (la (zac 1) ht) (zac 1)
 let I:=[40]::ts++[[41]]
 have hI:I.length=ts.length+2:=by show ([40]::ts++[[41]]).length=_;simp
 have jt:[[40]]++ts++[[41]]=I:=rfl;rw[jt] at d2;have s11:gSet 11 (f2 gCat (f2 gCat (fL jaw (jac (fC (.str "(")) fNil)) (vR 4)) (fL jaw (jac (fC (.str ")")) fNil))) [some tr,some N,oI num,oI ag,oN ts,of f,oI dp,oN us,of g,oI W,oI v,none]=nX [some tr,some N,oI num,oI ag,oN ts,of f,oI dp,oN us,of g,oI W,oI v,oN I]:=by
  rw[juw,e_2,e_2];simp only[stpA,k_op,k_cl];rw[d1,M.o_some,M.b_p,d2];rfl
 rw[jaz s11];have js:Fc aa I f b:=IN;have b8:Tm aa I f b:=jx
 clear IN jx jt d1 d2
 generalize I=Jq at js b8 hI |-
 have c9:Jq.length<=ts.length+2:=Nat.le_of_eq hI;have hJ:Jq.length<=1002:=zdy c9 (Nat.add_le_add_right ht 2)
 by_cases w':W=9
 ·subst w';have t:=b8.mul FV b7 de (.inr pV);rw[jev pV,vV] at t;refine⟨Jq++[42]::[A],mulF f v,dp+1,?_,(t.sm c8).mono (cu 110 (by decide)),zdy (la (b:=[[42],A]) c9 (zac 2)) (cw 4 (by decide))⟩;have q1:=catL (ts:=Jq) (us:=[[42],A]) hJ (zac 2);exact jdh (tq 9 _) (by simp only[stpA,sv,k_ss,q1,x4];rfl)
 rw[jdc (by rw[tq,beq_eq_false_iff_ne.mpr w'])]
 by_cases w':W=10
 ·subst w';have t:=(FV.tm de).mul js de b7 (.inl pV);rw[jg4 pV (by rw[lV,lf]),vV,Nat.add_comm] at t;refine⟨[A]++[42]::Jq,mulF f v,dp+1,?_,(t.sm c8).mono (cu 110 (by decide)),zdy (lar (a:=[A]) (zac 1) (Nat.succ_le_succ c9)) (cw 4 (by decide))⟩;have q1:=catL (ts:=[A,[42]]) (us:=Jq) (zac 2) hJ;exact jdh (tq 10 _) (by simp only[stpA,sv,k_as,q1,x4];rfl)
 rw[jdc (by rw[tq,beq_eq_false_iff_ne.mpr w'])]
 by_cases w':W=11
 ·subst w';refine⟨[45]::Jq,mulF f (-1),dp+1,?_,(b8.neg b7).mono (cu 0 (by decide)),zdy (Nat.succ_le_succ c9) (cw 3 (by decide))⟩;have q1:=catL (ts:=[[45]]) (us:=Jq) (zac 1) hJ;exact jdh (tq 11 _) (by simp only[stpA,k_mi,q1,sb,x5];rfl)
 rw[jdc (by rw[tq,beq_eq_false_iff_ne.mpr w'])]
 by_cases w':W=12
 ·subst w';have t:=(Tb.neg b7).add b8 b7;rw[joe] at t;refine⟨([45]::us)++[43]::Jq,addF f (mulF g (-1)),dp+1,?_,t.mono (cu 1 (by decide)),zdy (lar (a:=[45]::us) (Nat.succ_le_succ hu) (Nat.succ_le_succ c9)) (cw 13 (by decide))⟩;have q1:=catL (ts:=[[45]]) (us:=us) (zac 1) hu;have q2:=catL (ts:=[[45]]++us) (us:=[[43]]) (la (zac 1) hu) (zac 1);have q3:=catL (ts:=[[45]]++us++[[43]]) (us:=Jq) (la (la (zac 1) hu) (zac 1)) hJ;simp only[List.cons_append,List.nil_append,List.append_assoc] at q1 q2 q3;exact jdh (tq 12 _) (by simp only[stpA,k_mi,k_pl,q1,q2,q3,sb,x2,x3];rfl)
 rw[jdc (by rw[tq,beq_eq_false_iff_ne.mpr w'])]
 by_cases w':W=13
 ·subst w';have t:=(Tb.sm b7).sub b8 b7;refine⟨us++[45]::Jq,addF g (mulF f (-1)),dp+1,?_,t.mono (cu 1 (by decide)),zdy (lar hu (Nat.succ_le_succ c9)) (cw 12 (by decide))⟩;have q1:=catL (ts:=us) (us:=[[45]]) hu (zac 1);have q2:=catL (ts:=us++[[45]]) (us:=Jq) (la hu (zac 1)) hJ;simp only[List.cons_append,List.nil_append,List.append_assoc] at q1 q2;exact jdh (tq 13 _) (by simp only[stpA,k_mi,q1,q2,sb,x5,x6];rfl)
 rw[jdc (by rw[tq,beq_eq_false_iff_ne.mpr w'])]
 by_cases w':W=14
 ·subst w';refine⟨Jq,f,dp+1,?_,(b8.sm b7).mono (cu 0 (by decide)),zdy c9 (cw 2 (by decide))⟩;exact jdh (tq 14 _) (by simp only[stpA];rfl)
 rw[jdc (by rw[tq,beq_eq_false_iff_ne.mpr w'])];have t:=(Tb.sm b7).add b8 b7;rw[joe] at t;refine⟨us++[43]::Jq,addF f g,dp+1,?_,t.mono (cu 1 (by decide)),zdy (lar hu (Nat.succ_le_succ c9)) (cw 12 (by decide))⟩;have q1:=catL (ts:=us) (us:=[[43]]) hu (zac 1);have q2:=catL (ts:=us++[[43]]) (us:=Jq) (la hu (zac 1)) hJ;simp only[List.cons_append,List.nil_append,List.append_assoc] at q1 q2;simp only[stpA,k_pl,q1,q2,x1];rfl
end
end
section
section
variable {aa:LL}
def jEl{ns:List Int}(hN:∀ a∈aa,Nm a)(hd:aa.Nodup)(h1:1<=aa.length)(h4:aa.length<=4) :
  ∃ ts f dp b,jhf [scr ns,.lst (nmD aa),.int 2,.int 32]=oK (.tup [.lst (nmD ts),fm f,.int dp])/\Sm aa ts f b/\ts.length<=480/\b<=10000:=by
 have w1:=w_at (ns:=ns) (k:=1) (by decide) (by decide);generalize atF ns 1=x1 at w1;have w2:=jq0 (n:=x1) (p:=3) (by decide) (by decide);have r2:=jzf (n:=x1) (p:=3) (by decide) (by decide);generalize mixF x1 3=x2 at w2 r2;obtain⟨us,g,et,T,hu⟩:=jrz (aa:=aa) (num:=x2) (ag:=x1) hN hd h1 h4 r2.1
 let ms:=cutL ns (some 2) (some 32)
 have hms:ms.length<=36:=by
  show (cutL ns (some 2) (some 32)).length<=36;unfold cutL;rw[List.length_take];have:HT.sIx ns.length 0 (some 2)=min 2 ns.length:=rfl;have:HT.sIx ns.length ns.length (some 32)=min 32 ns.length:=rfl;omega
 have dm:cutD (scr ns) (some 2) (some 32)=oL (ms.map .int):=by
  show some (D.lst (cutL (ns.map D.int) (some 2) (some 32)))=_;show some (D.lst (cutL (ns.map D.int) (some 2) (some 32)))=some (D.lst ((cutL ns (some 2) (some 32)).map D.int));unfold cutL;rw[zav,List.map_take,List.map_drop]
 generalize ms=db at hms dm;obtain⟨Y',e,ts,f,dp,z,hδ,S,hl⟩:=jkp (g:=jfw) (tg:=DL.gName 7) (db.map D.int) (fun j Y=>∃ ts f dp z,Y=[some (scr ns),oN aa,oI 2,oI 32,oN us,of g,some (.tup [.lst (nmD ts),fm f,.int dp]),z]/\Sm aa ts f (400+111*j)/\ts.length<=9+13*j) (fun j hj Y ⟨ts,f,dp,z,hδ,S,hl⟩=>by
  subst hδ;have d8:j<db.length:=by simpa using hj
  have w3:=jq0 (n:=db[j]) (p:=4) (by decide) (by decide);have r3:=jzf (n:=db[j]) (p:=4) (by decide) (by decide);have hg:(db.map D.int)[j]=.int db[j]:=by simp
  rw[hg];generalize db[j]=y at w3 r3;generalize mixF y 4=x4 at w3 r3;have kb:KB=90000:=rfl;obtain⟨ts',f',dp',eg,S',hl'⟩:=jye (ag:=y) (dp:=dp) hN hd h1 h4 r3.1 S (by exact Nat.le_add_right _ _) (by omega) (by omega);refine⟨_,rfl,[some (scr ns),oN aa,oI 2,oI 32,oN us,of g,some (.tup [.lst (nmD ts'),fm f',.int dp']),oI y],.inl ?_,ts',f',dp',_,rfl,S'.mono (by exact zac _),by omega⟩;unfold jfw;simp only[stpA,w3,eg];rfl) [some (scr ns),oN aa,oI 2,oI 32,oN us,of g,some (.tup [.lst (nmD us),fm g,.int 1]),none] ⟨us,g,1,none,rfl,(T.sm (by decide)),by assumption⟩
 subst hδ;rw[zav] at S hl;refine⟨ts,f,dp,_,?_,S,by omega,by omega⟩;have s1:gAsg (jf1 4 5) (jay jd5 (jac (vR 1) (jac (jay jb6 (jac (jay jdw (jac (vR 0) (jac (cI 1) fNil))) (jac (cI 3) fNil))) (jac (jay jdw (jac (vR 0) (jac (cI 1) fNil))) fNil)))) [some (scr ns),oN aa,oI 2,oI 32,none,none,none,none]=nX [some (scr ns),oN aa,oI 2,oI 32,oN us,of g,none,none]:=by
  rw[jCi];simp only[stpA,w1,w2,et];rfl
 have s2:gSet 6 (fL jb2 (jac (vR 4) (jac (vR 5) (jac (cI 1) fNil)))) [some (scr ns),oN aa,oI 2,oI 32,oN us,of g,none,none]=nX [some (scr ns),oN aa,oI 2,oI 32,oN us,of g,some (.tup [.lst (nmD us),fm g,.int 1]),none]:=by
  simp only[stpA];rfl
 have s3:gFor (jil (fSl (vR 0) (jcv (vR 2)) (jcv (vR 3)))) (DL.gName 7) jfw [some (scr ns),oN aa,oI 2,oI 32,oN us,of g,some (.tup [.lst (nmD us),fm g,.int 1]),none]=nX [some (scr ns),oN aa,oI 2,oI 32,oN us,of g,some (.tup [.lst (nmD ts),fm f,.int dp]),z]:=by
  have sl:=jw9 (fa:=vR 0) (fl:=jcv (vR 2)) (fh:=jcv (vR 3)) (Y:=[some (scr ns),oN aa,oI 2,oI 32,oN us,of g,some (.tup [.lst (nmD us),fm g,.int 1]),none]) rfl rfl rfl dm;rw[jCj,jAd,sl,M.b_p,jD9,M.o_some,M.b_p,e]
 unfold jhf;rw[jAe];show (jhc [some (scr ns),oN aa,oI 2,oI 32,none,none,none,none]).b outD=_;unfold jhc;rw[jaz s1,jaz s2,jaz s3];rfl
def rp:List (Nat×List Nat)->List Nat
 | []=>[]
 | (k,a)::s=>List.replicate k 32++(a++rp s)
def jA4(s t:List (Nat×List Nat)):rp (s++t)=rp s++rp t:=by
 induction s with
 | nil=>rfl
 | cons q s ih=>obtain⟨k,a⟩:=q;simp[rp,ih,List.append_assoc]
theorem jpj(p:Nat):∀ s:List (Nat×List Nat),jca s p=rp s++List.replicate p 32
 | []=>rfl
 | (k,a)::s=>by simp[jca,rp,jpj p s,List.append_assoc]
def jBd{n:Int}(h:n=0\/n=1\/n=2):jdt (.str " ") (.int n)=some (sT (List.replicate n.toNat 32)):=by
 have e:jdt (.str " ") (.int n)=oS (Txt.mul (Str.ofString " ") n):=by
  show (if (Str.ofString " ").length<=4096/\-4096<=n/\n<=4096 then some (D.str (Txt.mul (Str.ofString " ") n)) else none)=_;rw[if_pos ⟨by decide +kernel,by omega,by omega⟩]
 rw[e];rcases h with rfl|rfl|rfl<;>congr 2<;>decide +kernel
def jto{ts:LL}{num:Int}(hl:ts.length<=490)(ht:∀ a∈ts,a.length<=40)(h0:0<=num) :
  ∃ (ae:List (Nat×List Nat)) (p:Nat) (x:Str),jep [.lst (nmD ts),.int num]=oK (.str x)/\x.cps.toList=jca ae p/\ae.map (·.2)=ts/\x.length<=50000:=by
 obtain⟨Y',e,ae,z,hδ,h1,h2⟩:=jkp (g:=jd8) (tg:=DL.gName 3) (jcc 0 ts.length) (fun j Y=>∃ (ae:List (Nat×List Nat)) (z:Option D),Y=[oN ts,oI num,some (sT (rp ae)),z]/\ae.map (·.2)=ts.take j/\(rp ae).length<=42*j) (fun j hj Y ⟨ae,z,hδ,h1,h2⟩=>by
  subst hδ;have d8:j<ts.length:=by simpa using hj
  have w:=jq0 (n:=num) (p:=0+(j:Nat)) (by exact Int.natCast_nonneg _) (by omega);generalize mixF num (0+(j:Nat))=mx at w;have m6:=jbz (i:=mx) (j:=6) (by decide);have r1:=zca mx (show (6:Int)≠0 by decide);have r2:=zcb mx (show (0:Int)<6 by decide);obtain⟨n,hn,g⟩:∃ n:Int,(n=0\/n=1\/n=2)/\gIx (.lst [.int 0,.int 0,.int 1,.int 1,.int 0,.int 2]) (.int (mx % 6))=oI n:=by
   generalize mx % 6=q at r1 r2;have:q=0\/q=1\/q=2\/q=3\/q=4\/q=5:=by omega
   rcases this with rfl|rfl|rfl|rfl|rfl|rfl
   ·exact⟨0,.inl rfl,rfl⟩
   ·exact⟨0,.inl rfl,rfl⟩
   ·exact⟨1,.inr (.inl rfl),rfl⟩
   ·exact⟨1,.inr (.inl rfl),rfl⟩
   ·exact⟨0,.inl rfl,rfl⟩
   ·exact⟨2,.inr (.inr rfl),rfl⟩
  have sm:=jBd hn;have ik:n.toNat<=2:=by rcases hn with rfl|rfl|rfl<;>decide
  have lr:(rp ae).length<=20580:=by omega
  generalize n.toNat=k at sm ik;have ha:=ht _ (List.getElem_mem d8);have ix:gIx (.lst (nmD ts)) (.int (0+(j:Nat)))=some (sT ts[j]):=by
   rw[ix_l,Int.zero_add];exact DL.atI_get (by simp[nmD,d8])
  have c1:=jra (a:=rp ae) (b:=List.replicate k 32) (by rw[List.length_replicate];exact zdy (Nat.add_le_add lr ik) (by decide));have c2:=jra (a:=rp ae++List.replicate k 32) (b:=ts[j]) (by rw[zcc,List.length_replicate];exact zdy (Nat.add_le_add (Nat.add_le_add lr ik) ha) (by decide));have l6:jaw [D.int 0,D.int 0,D.int 1,D.int 1,D.int 0,D.int 2]=some (.lst [.int 0,.int 0,.int 1,.int 1,.int 0,.int 2]):=rfl;refine⟨[oN ts,oI num,some (sT (rp ae)),oI (0+(j:Nat))],by rw[jjg];rfl,[oN ts,oI num,some (sT (rp (ae++[(k,ts[j])]))),oI (0+(j:Nat))],.inl ?_,ae++[(k,ts[j])],_,rfl,?_,?_⟩
  ·unfold jd8;have:rp (ae++[(k,ts[j])])=rp ae++List.replicate k 32++ts[j]:=by rw[jA4];simp[rp]
   rw[this];generalize ts[j]=tj at ix c2;simp only[stpA,w,m6,l6,g,sm,c1,ix,c2];rfl
  ·rw[List.map_append,h1,List.take_succ,zax d8];rfl
  ·rw[jA4];simp[rp];omega) [oN ts,oI num,some (sT (rp [])),none] ⟨[],none,rfl,by simp,by simp[rp]⟩
 subst hδ;rw[jjh] at h1 h2;rw[List.take_length] at h1;have m7:=jbz (i:=num) (j:=7) (by decide);have d5:=jce (i:=num % 7) (j:=5) (by decide) (by decide);have r1:=zca num (show (7:Int)≠0 by decide);have r2:=zcb num (show (0:Int)<7 by decide);have hp:num % 7 / 5=0\/num % 7 / 5=1\/num % 7 / 5=2:=by omega
 have sm:=jBd hp;have hp2:(num % 7 / 5).toNat<=2:=by rcases hp with h|h|h<;>rw[h]<;>decide
 have lr:(rp ae).length+(num % 7 / 5).toNat<=20582:=by omega
 refine⟨ae,(num % 7 / 5).toNat,St (rp ae++List.replicate (num % 7 / 5).toNat 32),?_,by rw[jpj];simp[St],h1,by rw[jiz,zcc,List.length_replicate];exact zdy lr (by decide)⟩;have c1:=jra (a:=rp ae) (b:=List.replicate (num % 7 / 5).toNat 32) (by rw[List.length_replicate];exact zdy lr (by decide));unfold jep;rw[jfg];show (jen [oN ts,oI num,none,none]).b outD=_;unfold jen;have s1:gSet 2 (cS "") [oN ts,oI num,none,none]=nX [oN ts,oI num,some (sT (rp [])),none]:=rfl;have s2:gFor (jf6 jb1 (jac (fL kLen (jac (vR 0) fNil)) fNil)) (DL.gName 3) jd8 [oN ts,oI num,some (sT (rp [])),none]=nX [oN ts,oI num,some (sT (rp ae)),z]:=by
  have t0:(((ts.length:Nat):Int)).toNat=ts.length:=Int.toNat_natCast _;simp only[stpA,jnj,jht,range1,t0];exact e
 rw[jaz s1,jaz s2];simp only[stpA,m7,d5,sm,c1];rfl
end
end
section
def cvC(l:List Nat):LL->List Int->Int
 | a::aa,c::cs=>(if a=l then c else 0)+cvC l aa cs
 | _,_=>0
def cv(aa ac:LL)(f:Fm):Fm:=(ac.map fun l=>cvC l aa f.1,f.2)
theorem jua(l:List Nat):∀ (aa:LL) (cs ds:List Int),cs.length=ds.length->cvC l aa ((cs.zip ds).map fun p=>p.1+p.2)=cvC l aa cs+cvC l aa ds
 | [],cs,ds,_=>by cases cs<;>cases ds<;>rfl
 | a::aa,[],[],_=>rfl
 | a::aa,[],d::ds,h=>by cases h
 | a::aa,c::cs,[],h=>by cases h
 | a::aa,c::cs,d::ds,h=>by
  have ih:=jua l aa cs ds (Nat.succ.inj h);show (if a=l then c+d else 0)+cvC l aa ((cs.zip ds).map fun p=>p.1+p.2)=((if a=l then c else 0)+cvC l aa cs)+((if a=l then d else 0)+cvC l aa ds);rw[ih]
  split<;>omega
theorem juc(l:List Nat)(n:Int):∀ (aa:LL) (cs:List Int),cvC l aa (cs.map (·*n))=cvC l aa cs*n
 | [],cs=>by cases cs<;>simp[cvC]
 | a::aa,[]=>by simp[cvC]
 | a::aa,c::cs=>by
  show (if a=l then c*n else 0)+cvC l aa (cs.map (·*n))=((if a=l then c else 0)+cvC l aa cs)*n;rw[juc l n aa cs,Int.add_mul]
  split<;>simp
theorem jif(l:List Nat):∀ (aa:LL) (cs:List Int),(∀ c∈cs,c=0)->cvC l aa cs=0
 | [],cs,_=>by cases cs<;>rfl
 | a::aa,[],_=>rfl
 | a::aa,c::cs,h=>by
  show (if a=l then c else 0)+cvC l aa cs=0;rw[jif l aa cs fun d hd=>h d (zaw _ hd),h c zaa]
  split<;>rfl
theorem jrg{l:List Nat}:∀ {aa:LL} (cs:List Int),l∉aa->cvC l aa cs=0
 | [],cs,_=>by cases cs<;>rfl
 | a::aa,[],_=>rfl
 | a::aa,c::cs,h=>by
  show (if a=l then c else 0)+cvC l aa cs=0;rw[if_neg fun e=>h (by rw[e];exact zaa),jrg cs fun e=>h (zaw _ e)];rfl
theorem jud{l:List Nat}:∀ {aa:LL} (cs:List Int),aa.Nodup->cvC l aa cs=0\/cvC l aa cs∈cs
 | [],cs,_=>by cases cs<;>exact .inl rfl
 | a::aa,[],_=>.inl rfl
 | a::aa,c::cs,h=>by
  rw[List.nodup_cons] at h;show (if a=l then c else 0)+cvC l aa cs=0\/(if a=l then c else 0)+cvC l aa cs∈c::cs
  by_cases e:a=l
  ·rw[if_pos e,jrg cs (by rw[<- e];exact h.1),Int.add_zero];exact .inr zaa
  ·rw[if_neg e,Int.zero_add];rcases jud cs h.2 with z|z
   ·exact .inl z
   ·exact .inr (zaw _ z)
theorem jub{l b:List Nat}:∀ {aa:LL},aa.Nodup->b∈aa->cvC l aa (aa.map fun a=>if a=b then 1 else 0)=if l=b then 1 else 0
 | [],_,h=>by cases h
 | a::aa,hd,h=>by
  rw[List.nodup_cons] at hd;show (if a=l then (if a=b then 1 else 0) else 0)+cvC l aa (aa.map fun a=>if a=b then 1 else 0)=_
  by_cases e:a=b
  ·subst e;have z:cvC l aa (aa.map fun c=>if c=a then 1 else 0)=0:=jif l aa _ fun c hc=>by
    obtain⟨d,hd',rfl⟩:=zcv.mp hc;exact if_neg fun e=>hd.1 (by rw[<- e];exact hd')
   rw[z,if_pos rfl,Int.add_zero]
   by_cases q:a=l
   ·rw[if_pos q,if_pos q.symm]
   ·rw[if_neg q,if_neg (Ne.symm q)]
  ·have hb:b∈aa:=by
    rcases List.mem_cons.mp h with rfl|h
    ·exact absurd rfl e
    ·exact h
   rw[if_neg e,jub hd.2 hb]
   split<;>simp
variable {aa ac:LL}
abbrev cvO(aa ac:LL)(o:OS):OS:=⟨cv aa ac o.total,cv aa ac o.term,o.sign,o.star⟩
def jjo(f:Fm):(cv aa ac f).1.length=ac.length:=zav ..
def jFb{a b:Fm}(h:a.1.length=b.1.length):cv aa ac (addF a b)=addF (cv aa ac a) (cv aa ac b):=by
 unfold cv addF;refine Prod.ext ?_ rfl;show (ac.map fun l=>cvC l aa ((a.1.zip b.1).map fun p=>p.1+p.2))=((ac.map fun l=>cvC l aa a.1).zip (ac.map fun l=>cvC l aa b.1)).map fun p=>p.1+p.2
 rw[List.zip_map',List.map_map];exact List.map_congr_left fun l _=>jua l aa _ _ h
def jue(a:Fm)(n:Int):cv aa ac (mulF a n)=mulF (cv aa ac a) n:=by
 unfold cv mulF;refine Prod.ext ?_ rfl;show (ac.map fun l=>cvC l aa (a.1.map (·*n)))=(ac.map fun l=>cvC l aa a.1).map (·*n);rw[List.map_map];exact List.map_congr_left fun l _=>juc l n aa _
def jj9{a:Fm}(h:jb9 a=true):jb9 (cv aa ac a)=true:=by
 unfold jb9 cv at *;rw[List.all_eq_true] at *;intro c hc;obtain⟨l,_,rfl⟩:=zcv.mp hc;rw[jif l aa _ fun c hc=>by simpa using h c hc];rfl
def jB7{n:Nat}{a b:Fm}(ha:a.1.length=n)(hb:b.1.length=n)(h:jb9 a=true\/jb9 b=true):cv aa ac (jfd a b)=jfd (cv aa ac a) (cv aa ac b):=by
 rcases h with h|h
 ·rw[jg4 h (by rw[ha,hb]),jg4 (jj9 h) (by rw[jjo,jjo]),jue];rfl
 ·rw[jev h,jev (jj9 h),jue];rfl
def jB9(n:Nat):cv aa ac (List.replicate n 0,0)=(List.replicate ac.length 0,0):=by
 unfold cv;refine Prod.ext ?_ rfl;show (ac.map fun l=>cvC l aa (List.replicate n 0))=_;rw[<- List.map_const'];exact List.map_congr_left fun l _=>jif l aa _ fun c hc=>List.eq_of_mem_replicate hc
def jrh(n:Nat):cvO aa ac (fresh n)=fresh ac.length:=by
 unfold fresh cvO;rw[jB9]
structure G(n:Nat)(o:OS):Prop where
 t:o.total.1.length=n
 m:o.term.1.length=n
def jka{n:Nat}{o:OS}(h:G n o):cv aa ac (wholeF o)=wholeF (cvO aa ac o):=by
 unfold wholeF;exact jFb (by rw[h.t,h.m])
def juf{n:Nat}{o:OS}{f:Fm}(T:OkT n o f):cvO aa ac (takeF o f)=takeF (cvO aa ac o) (cv aa ac f):=by
 unfold takeF cvO
 cases hs:o.star with
 | none=>simp only[jue]
 | some p =>
  obtain⟨_,q2,q3⟩:=T.pl (by rw[hs];exact fun z=>by cases z);simp only[jB7 q2 T.lf q3]
def jB8{n:Nat}{o:OS}(h:G n o)(c:Str)(p:Int):cvO aa ac (signF o c p)=signF (cvO aa ac o) c p:=by
 unfold signF
 split
 ·rfl
 ·show (⟨cv aa ac (wholeF o),_,_,_⟩:OS)=_;rw[jka h]
def jFc{k:Nat}{f:Fm}(hd:aa.Nodup)(h:BF k f):BF k (cv aa ac f):=by
 refine⟨fun c hc=>?_,h.2⟩;obtain⟨l,_,rfl⟩:=zcv.mp hc;rcases jud (l:=l) f.1 hd with z|z
 ·rw[z];unfold Bt;exact Nat.two_pow_pos k
 ·exact h.1 _ z
def jFe{n:Nat}{o:OS}{f:Fm}(hd:aa.Nodup)(T:OkT n o f):OkT ac.length (cvO aa ac o) (cv aa ac f) :=
 ⟨jjo f,jFc hd T.bf,T.bs,fun h=>by
  obtain⟨q1,q2,q3⟩:=T.pl h;exact⟨jFc hd q1,jjo _,q3.imp jj9 jj9⟩⟩
def jFd{a:List Nat}(hd:aa.Nodup)(h:∀ c r,a=c::r->isL c=true->a∈aa)(ha:a≠[]):cv aa ac (frmW aa a)=frmW ac a:=by
 cases a with
 | nil=>exact absurd rfl ha
 | cons c r =>
  unfold frmW;dsimp only
  by_cases hc:isL c=true
  ·rw[if_pos hc,if_pos hc];refine Prod.ext ?_ rfl;exact List.map_congr_left fun l _=>jub hd (h c r rfl hc)
  ·rw[if_neg hc,if_neg hc];refine Prod.ext ?_ rfl;refine (List.map_congr_left (g:=fun _=>(0:Int)) fun l _=>jif l aa _ fun c hc=>List.eq_of_mem_replicate hc).trans ?_;exact List.map_const' ..
inductive Tk(aa:LL)(w:Str):Prop
 | sg (h:w="("\/w=")"\/jcr w=true)
 | wd (a:List Nat) (e:w=St a) (h:Word a) (l:a.length<=40) (m:∀ c r,a=c::r->isL c=true->a∈aa)
def jxn{n:Nat}{o:OS}(h:G n o):(wholeF o).1.length=n:=by
 unfold wholeF;rw[jj6 (by rw[h.t,h.m]),h.t]
def jBf{n:Nat}{o:OS}{f:Fm}(h:G n o)(T:OkT n o f):G n (takeF o f):=by
 refine⟨h.t,?_⟩;unfold takeF
 cases hs:o.star with
 | none =>
  show (mulF f o.sign).1.length=n;rw[jdy];exact T.lf
 | some p =>
  show (jfd o.term f).1.length=n;unfold jfd
  split
  ·rw[jdy];exact h.m
  ·rw[jdy];exact T.lf
def jHq{n:Nat}{o:OS}(h:G n o)(c:Str)(p:Int):G n (signF o c p):=by
 unfold signF
 split
 ·exact⟨h.t,h.m⟩
 ·exact⟨jxn h,h.m⟩
def juz(n:Nat):G n (fresh n):=⟨List.length_replicate,List.length_replicate⟩
def Run.over(hd:aa.Nodup)(hn:ac.length<=1000){ts:List (Str×Int)}{os bt:List OS}(R:Run aa.length (frmS aa) (WdN aa) ts os bt):(∀ o∈os,G aa.length o)->(∀ q∈ts,Tk aa q.1)->Run ac.length (frmS ac) (WdN ac) ts (os.map (cvO aa ac)) (bt.map (cvO aa ac)):=by
 induction R with
 | nil os=>exact fun _ _=>.nil _
 | opn _ ih =>
  intro h k;have:=ih (fun o ho=>by
   rcases List.mem_cons.mp ho with rfl|ho
   ·exact juz _
   ·exact h o ho) fun q hq=>k q (zaw _ hq)
  rw[List.map_cons,jrh] at this;exact .opn this
 | @cls ts a b r bt p x T _ ih =>
  intro h k;have ga:=h a zaa;have gb:=h b (zaw _ zaa);have:=ih (fun o ho=>by
   rcases List.mem_cons.mp ho with rfl|ho
   ·exact jBf gb T
   ·exact h o (zaw _ (zaw _ ho))) fun q hq=>k q (zaw _ hq)
  rw[List.map_cons,juf T,jka ga] at this;refine .cls (jjo _) ?_ this;have:=jFe (ac:=ac) hd T;rw[jka ga] at this;exact this
 | @sgn ts a r bt c p x y _ ih =>
  intro h k;have ga:=h a zaa;have:=ih (fun o ho=>by
   rcases List.mem_cons.mp ho with rfl|ho
   ·exact jHq ga _ _
   ·exact h o (zaw _ ho)) fun q hq=>k q (zaw _ hq)
  rw[List.map_cons,jB8 ga] at this;exact .sgn x (jjo _) this
 | @wrd ts a r bt w p x T _ ih =>
  intro h k;have ga:=h a zaa;have:=ih (fun o ho=>by
   rcases List.mem_cons.mp ho with rfl|ho
   ·exact jBf ga T
   ·exact h o (zaw _ ho)) fun q hq=>k q (zaw _ hq)
  have e:w≠"("/\w≠")":=by
   have p1:=x.p1;have p2:=x.p2;rw[beq_eq_false_iff_ne] at p1 p2;exact⟨p1,p2⟩
  cases k (w,p) zaa with
  | sg z =>
   rcases z with z|z|z
   ·exact absurd z e.1
   ·exact absurd z e.2
   ·have p3:=x.p3;rw[show jcr w=true from z] at p3;cases p3
  | wd b eb hw hl hm =>
   have jw:w=St b:=eb;have ne:b≠[]:=by
    obtain⟨_,_,_,c,a',rfl,_⟩:=jd7 hw;exact fun z=>by cases z
   have ef:cv aa ac (frmS aa w)=frmS ac w:=by
    rw[jw,jna,jna];exact jFd hd hm ne
   rw[List.map_cons,juf T,ef] at this;have T':=jFe (ac:=ac) hd T;rw[ef] at T';exact .wrd (by rw[jw];exact jIe hn hw hl) T' this
end
section
def hdL:List Nat->Bool
 | c::_=>isL c
 | []=>false
def lack(ac:LL):List (Nat×List Nat)->Nat->Option (List Nat×Nat)
 | [],_=>none
 | (k,a)::s,o=>if (hdL a&&!decide (a∈ac))=true then some (a,o+k) else lack ac s (o+k+a.length)
def jnd{a:SO}{r:Sto}(Ω:Sto):(Ω++a::r)[Ω.length]? = some a:=by
 rw[List.getElem?_append_right (zac _),Nat.sub_self];rfl
def jrs{a b:SO}{r:Sto}(Ω:Sto):(Ω++a::b::r)[Ω.length+1]? = some b:=by
 rw[List.getElem?_append_right (Nat.le_succ _),show (List.length Ω).succ-List.length Ω=1 by omega];rfl
def errs(Ω:Sto)(f:Bool)(nm:Str)(o:Int):Sto:=Ω++[.exc "NoName" (some (Ω.length+1),f),.xd [("name",.str nm),("place",.int o)]]
def lft{α:Type}{g:DSt->M α}{Y:DSt}{a:α}{Ω:Sto}(h:g Y=some (.ok a)):lF g Y Ω=some (.ok a,Ω):=by
 unfold lF MS.l;rw[h];rfl
def eseq{g1 g2:DSt->MS Out}{Y Y':DSt}{Ω Ω':Sto}(h:g1 Y Ω=some (.ok (.nx Y'),Ω')):eSeq g1 g2 Y Ω=g2 Y' Ω':=by
 unfold eSeq;rw[MS.b_ok h]
def jx3{g1 g2:DSt->MS Out}{Y:DSt}{Ω Ω':Sto}{x:XD}(h:g1 Y Ω=some (.error x,Ω')):eSeq g1 g2 Y Ω=some (.error x,Ω'):=by
 unfold eSeq MS.b;rw[h]
def eif{t:DSt->MS Bool}{g1 g2:DSt->MS Out}{Y:DSt}{Ω Ω':Sto}{c:Bool}(h:t Y Ω=some (.ok c,Ω')):eIf t g1 g2 Y Ω=if c=true then g1 Y Ω' else g2 Y Ω':=by
 unfold eIf;rw[MS.b_ok h];cases c<;>rfl
def b_err{α β:Type}{m:MS α}{f:α->MS β}{Ω Ω1:Sto}{x:XD}(h:m Ω=some (.error x,Ω1)):m.b f Ω=some (.error x,Ω1):=by unfold MS.b;rw[h]
def jx6{g:DSt->MS Out}{tg:D->DSt->Option DSt}{d:D}{ds:List D}{Y Y1:DSt}{Ω Ω1:Sto}{x:XD}(h1:tg d Y=some Y1)(h2:g Y1 Ω=some (.error x,Ω1)):forE g tg (d::ds) Y Ω=some (.error x,Ω1):=by
 conv=>lhs;unfold forE
 rw[h1];dsimp only;unfold MS.b;rw[h2]
def jyi(Ω:Sto)(nm:Str)(o:Int):jcf [.obj Ω.length,.str nm,.int o] (Ω++[.exc "NoName" (none,true)])=some (.ok .non,errs Ω true nm o):=by
 let Y:DSt:=[some (.obj Ω.length),oS nm,oI o]
 let Ω1:Sto:=Ω++[.exc "NoName" (some (Ω.length+1),true),.xd [("name",.str nm)]]
 unfold jcf mirE;rw[if_pos (show [D.obj Ω.length,D.str nm,D.int o].length=3 from rfl)];refine (MS.b_ok (a:=.nx Y) (Ω1:=errs Ω true nm o) ?_).trans rfl;show jdu Y _=_;unfold jdu;have p1:jsq xcs "name" (lF (vR 0)) (lF (vR 1)) Y (Ω++[.exc "NoName" (none,true)])=some (.ok (.nx Y),Ω1):=by
  unfold jsq;rw[MS.b_ok (a:=.str nm) (Ω1:=Ω++[.exc "NoName" (none,true)]) rfl,MS.b_ok (a:=.obj Ω.length) (Ω1:=Ω++[.exc "NoName" (none,true)]) rfl];refine (MS.b_ok (a:=()) (Ω1:=Ω1) ?_).trans rfl;unfold putX;dsimp only;rw[jnd];dsimp only;rw[if_pos (by decide),List.append_assoc,List.set_append_right _ _ (zac _),Nat.sub_self,zcc];rfl
 rw[eseq p1];unfold jsq;rw[MS.b_ok (a:=.int o) (Ω1:=Ω1) rfl,MS.b_ok (a:=.obj Ω.length) (Ω1:=Ω1) rfl];refine (MS.b_ok (a:=()) (Ω1:=errs Ω true nm o) ?_).trans rfl;unfold putX;dsimp only;rw[show Ω1[Ω.length]? = some (.exc "NoName" (some (Ω.length+1),true)) from jnd Ω];dsimp only;rw[show Ω1[Ω.length+1]? = some (.xd [("name",.str nm)]) from jrs Ω];dsimp only;rw[if_pos (by rw[Bool.and_eq_true];exact⟨by decide,rfl⟩),List.set_append_right _ _ (Nat.le_succ _),show (List.length Ω).succ-List.length Ω=1 by omega];rfl
def jzg{Ω:Sto}{Y:DSt}{nm:Str}{o:Int}{fl:DSt->MS (List D)}(h:fl Y Ω=some (.ok [.str nm,.int o],Ω)):jro xcs (joz "NoName" jcf fl) Y Ω=some (.error (xdO Ω.length),errs Ω false nm o):=by
 have mk:joz "NoName" jcf fl Y Ω=some (.ok (.obj Ω.length),errs Ω true nm o):=by
  unfold joz;rw[MS.b_ok h];unfold jsy;rw[MS.b_ok (jyi Ω nm o)];rfl
 unfold jro;rw[MS.b_ok mk];dsimp only;unfold jsa errs;rw[jnd];dsimp only;rw[if_pos (by decide),List.set_append_right _ _ (zac _),Nat.sub_self];rfl
variable {aa ac:LL}
def jxv{a:List Nat}{x pc:Option D}{o:Int}(ha:a≠[])(hl:a.length<=40)(Ω:Sto):jde [oN ac,x,pc,some (sT a),oI o] Ω=if (hdL a&&!decide (a∈ac))=true then some (.error (xdO Ω.length),errs Ω false (St a) o) else some (.ok (.nx [oN ac,x,pc,some (sT a),oI o]),Ω):=by
 cases a with
 | nil=>exact absurd rfl ha
 | cons c r =>
  rw[List.length_cons] at hl;have t:DL.tAnd (tTru (jay jbq (jac (f2 gIx (vR 3) (cI 0)) fNil))) (DL.t2 jey (vR 3) (vR 0)) [oN ac,x,pc,some (sT (c::r)),oI o]=oK (hdL (c::r)&&!decide ((c::r)∈ac)):=by
   show _=some (Except.ok (isL c&&!decide ((c::r)∈ac)))
   cases q:isL c with
   | false=>simp only[stpA,ix0 (c:=c) (a:=r) (by omega),jfl,q];rfl
   | true =>
    have g:jey (sT (c::r)) (.lst (nmD ac))=some (.bl !decide ((c::r)∈ac)):=by
     show (if (true&&(nmD ac).all ji7)=true then some (D.bl !(inD _ (nmD ac))) else none)=_;rw[ji8,if_pos (by decide),jnf]
    simp only[stpA,ix0 (c:=c) (a:=r) (by omega),jfl,q,g];rfl
  unfold jde;rw[eif (lft t)]
  split
  ·exact jzg rfl
  ·rfl
theorem ji5{x pc:Option D}(Ω:Sto):∀ (ae:List (Nat×List Nat)) (o:Nat) (y z:Option D),(∀ q∈ae,q.2≠[]/\q.2.length<=40)->match lack ac ae o with
  | none=>∃ y' z',forE jde (jf1 3 4) ((pcs ae o).map pcD) [oN ac,x,pc,y,z] Ω=some (.ok (.nx [oN ac,x,pc,y',z']),Ω)
  | some q=>forE jde (jf1 3 4) ((pcs ae o).map pcD) [oN ac,x,pc,y,z] Ω=some (.error (xdO Ω.length),errs Ω false (St q.1) (q.2:Nat))
 | [],o,y,z,_=>⟨y,z,rfl⟩
 | (k,a)::s,o,y,z,h=>by
  have ha:=h (k,a) zaa;have ck:=jxv (ac:=ac) (x:=x) (pc:=pc) (o:=((o+k:Nat):Int)) ha.1 ha.2 Ω;have ih:=ji5 (x:=x) (pc:=pc) Ω s (o+k+a.length) (some (sT a)) (oI ((o+k:Nat):Int)) fun q hq=>h q (zaw _ hq)
  unfold lack
  by_cases hc:(hdL a&&!decide (a∈ac))=true
  ·rw[if_pos hc] at ck |-
   exact jx6 rfl ck
  ·rw[if_neg hc] at ck |-
   have e:forE jde (jf1 3 4) ((pcs ((k,a)::s) o).map pcD) [oN ac,x,pc,y,z] Ω=forE jde (jf1 3 4) ((pcs s (o+k+a.length)).map pcD) [oN ac,x,pc,some (sT a),oI ((o+k:Nat):Int)] Ω:=jgy rfl ck;rw[e];exact ih
section
variable {x:Str}{ae:List (Nat×List Nat)}{p:Nat}
def jD4(hx:x.cps.toList=jca ae p)(hs:x.length<=50000)(A:Acc (ae.map (·.2)) "beginning" 0)(hz:ae.length<=100000)(hw:∀ q∈ae,q.2≠[]/\q.2.length<=40){q:List Nat×Nat}(hq:lack ac ae 0=some q)(Ω:Sto):jcg [.lst (nmD ac),.str x] Ω=some (.error (xdO Ω.length),errs Ω false (St q.1) (q.2:Nat)):=by
 have e1:=jpe hx hs A hz;have lp:=ji5 (ac:=ac) (x:=oS x) (pc:=oL ((pcs ae 0).map pcD)) Ω ae 0 none none hw;rw[hq] at lp;show MS.b (jet [oN ac,oS x,none,none,none]) outE Ω=_;refine b_err ?_;unfold jet;rw[eseq (Y':=[oN ac,oS x,oL ((pcs ae 0).map pcD),none,none]) (Ω':=Ω) (lft (by simp only[stpA,e1];rfl))];refine jx3 ?_;unfold eFor;rw[MS.b_ok (a:=(pcs ae 0).map pcD) (Ω1:=Ω) (lft rfl)];exact lp
def jzi{f:Fm}(hd:aa.Nodup)(hn:ac.length<=1000)(hx:x.cps.toList=jca ae p)(hs:x.length<=50000)(A:Acc (ae.map (·.2)) "beginning" 0)(hz:ae.length<=100000)(hw:∀ q∈ae,q.2≠[]/\q.2.length<=40)(hq:lack ac ae 0=none)
  (S:jjv aa.length (frmS aa) (WdN aa) (ae.map fun q=>St q.2) f) (hT:∀ q∈ae,Tk aa (St q.2)) (Ω:Sto):∃ Ω',jcg [.lst (nmD ac),.str x] Ω=some (.ok (fm (cv aa ac f)),Ω'):=by
 have e1:=jpe hx hs A hz;have lp:=ji5 (ac:=ac) (x:=oS x) (pc:=oL ((pcs ae 0).map pcD)) Ω ae 0 none none hw;rw[hq] at lp;obtain⟨y,z,lp⟩:=lp;obtain⟨o',R,w,l1,l2⟩:=S (pcs ae 0) (jnw ae 0) [];have R':=Run.over hd hn R (fun o ho=>by rw[zdx.mp ho];exact juz _) fun q hq=>by
  have:q.1∈ae.map fun q=>St q.2:=by rw[<- jnw ae 0];exact List.mem_map_of_mem hq
  obtain⟨s,h1,h2⟩:=zcv.mp this;rw[<- h2];exact hT s h1
 rw[List.map_cons,List.map_cons,List.map_nil,jrh] at R';have dh:(pcs ae 0).length=ae.length:=by have:=congrArg List.length (jnw ae 0);simpa using this
 obtain⟨Ω',e3⟩:=jqo hn (by simp[nmD]) R' (jjo _) (by omega) Ω;refine⟨Ω',?_⟩;show MS.b (jet [oN ac,oS x,none,none,none]) outE Ω=_;refine (MS.b_ok (a:=.rt (fm (cv aa ac f))) (Ω1:=Ω') ?_).trans rfl;unfold jet;rw[eseq (Y':=[oN ac,oS x,oL ((pcs ae 0).map pcD),none,none]) (Ω':=Ω) (lft (by simp only[stpA,e1];rfl))];rw[eseq (Y':=[oN ac,oS x,oL ((pcs ae 0).map pcD),y,z]) (Ω':=Ω) (by
  unfold eFor;rw[MS.b_ok (a:=(pcs ae 0).map pcD) (Ω1:=Ω) (lft rfl)];exact lp)]
 have mc:jh8 jfq (lF (jac (vR 0) (jac (vR 2) fNil))) [oN ac,oS x,oL ((pcs ae 0).map pcD),y,z] Ω=some (.ok (fm (cv aa ac f)),Ω'):=by
  unfold jh8;rw[MS.b_ok (a:=[.lst (nmD ac),.lst ((pcs ae 0).map pcD)]) (Ω1:=Ω) (lft rfl),e3];have:wholeF (cvO aa ac o')=cv aa ac f:=by rw[<- jka ⟨l1,l2⟩,w]
  rw[this]
 unfold eRet;rw[MS.b_ok mc];rfl
end
end
section
def jEw:∀ i∈List.range 26,(St (List.range' 97 26)).cps.extract i (i+1)=#[97+i]:=by decide +kernel
def jEx:∀ c∈List.range' 97 26,(Builtin.Str.occurrences (St (List.range' 97 26)) (S1 c) 0 26 1).isEmpty=false:=by decide +kernel
def jFx(c:Nat):gInS (.str (S1 c)) (.str "abcdefghijklmnopqrstuvwxyz")=some (.bl (isL c)):=by
 rw[jq3];show some (D.bl (!(Builtin.Str.occurrences (St (List.range' 97 26)) (S1 c) 0 26 1).isEmpty))=_
 cases h:isL c with
 | true =>
  unfold isL at h;rw[Bool.and_eq_true,decide_eq_true_eq,decide_eq_true_eq] at h;rw[jEx c (by rw[List.mem_range'_1];omega)];rfl
 | false =>
  rw[jyy fun i hi=>by
   have hi':i+1<=26:=hi;unfold Builtin.Str.subAt;show ((St (List.range' 97 26)).cps.extract i (i+1) == #[c])=false;rw[jEw i (List.mem_range.mpr (by omega)),beq_eq_false_iff_ne];intro z;have e:97+i=c:=by simpa using z
   unfold isL at h;rw[<- e,decide_eq_true (show 97<=97+i by omega),decide_eq_true (show 97+i<=122 by omega)] at h;cases h]
  rfl
variable {ac:LL}{x:Str}
abbrev f4(x:Str)(ac:LL)(k:Nat)(e:Option D):DSt:=[oS x,oN ac,oI (k:Nat),e]
def jH8{k:Nat}{pre rest:List Nat}{c:Nat}(h:At x pre (c::rest)):jdl (f4 x ac k (oI (pre.length:Nat)))=oK (isL c):=by
 have hl:=h.len;have e1:DL.t2 gLt (vR 3) (fL kLen (jac (vR 0) fNil)) (f4 x ac k (oI (pre.length:Nat)))=oK true:=by
  simp only[stpA,len_str h.small,lt_int];rw[decide_eq_true (by rw[hl,List.length_cons];omega)];rfl
 have e2:DL.t2 gInS (f2 gIx (vR 0) (vR 3)) (cS "abcdefghijklmnopqrstuvwxyz") (f4 x ac k (oI (pre.length:Nat)))=oK (isL c):=by
  simp only[stpA,h.ix,jFx];rfl
 unfold jdl DL.tAnd;rw[e1,M.b_ok];exact e2
def jH9{k:Nat}{pre:List Nat}(h:At x pre []):jdl (f4 x ac k (oI (pre.length:Nat)))=oK false:=by
 have hl:=h.len;have e1:DL.t2 gLt (vR 3) (fL kLen (jac (vR 0) fNil)) (f4 x ac k (oI (pre.length:Nat)))=oK false:=by
  simp only[stpA,len_str h.small,lt_int];rw[decide_eq_false (by rw[hl,List.length_nil];omega)];rfl
 unfold jdl DL.tAnd;rw[e1,M.b_ok];rfl
def jIa(k e:Nat):je9 (f4 x ac k (oI (e:Nat)))=nX (f4 x ac k (oI ((e+1:Nat):Int))):=by
 unfold je9;simp only[stpA];rfl
theorem jA5{k:Nat}{rest:List Nat}(hr:Stop isL rest):∀ (a pre:List Nat) (m:Nat),At x pre (a++rest)->(∀ c∈a,isL c=true)->a.length<m ->
  jbo jdl je9 m (f4 x ac k (oI (pre.length:Nat)))=nX (f4 x ac k (oI ((pre.length+a.length:Nat):Int)))
 | [],pre,m,h,ha,hm=>by
  obtain⟨m,rfl⟩:∃ j,m=j+1:=⟨m-1,by simp at hm;omega⟩
  rw[List.nil_append] at h
  cases rest with
  | nil=>exact jeg (jH9 h)
  | cons c rest=>exact jeg (by rw[jH8 h,show isL c=false from hr])
 | c::a,pre,m,h,ha,hm=>by
  obtain⟨m,rfl⟩:∃ j,m=j+1:=⟨m-1,by simp at hm;omega⟩
  rw[List.length_cons] at hm;rw[jgo (by rw[jH8 (rest:=a++rest) h,ha c zaa]) (jIa k pre.length)];have h':At x (pre++[c]) (a++rest):=At.step (a:=[c]) h;have:=jA5 (k:=k) hr a (pre++[c]) m h' (fun d hd=>ha d (zaw _ hd)) (by omega);rw[zcc,List.length_singleton] at this;rw[this,List.length_cons,show pre.length+1+a.length=pre.length+(a.length+1) by omega]
def jJm(i j:Int):kMax [.int i,.int j]=oI (if j > i then j else i):=rfl
def jAw(a:List Nat):jey (sT a) (.lst (nmD ac))=some (.bl !decide (a∈ac)):=by
 show (if (true&&(nmD ac).all ji7)=true then some (D.bl !(inD _ (nmD ac))) else none)=_;rw[ji8,if_pos (by decide),jnf]
def jE2{k:Nat}{pre a rest:List Nat}{e:Option D}(hr:Stop isL rest)(h:At x pre (a++rest))(ha:∀ c∈a,isL c=true)(hf:x.length<FUEL):jbt (f4 x ac pre.length e)=if (decide (0<a.length)&&!decide (a∈ac))=true then oK (.rt (.tup [sT a,.int (pre.length:Nat)])) else nX (f4 x ac (max (pre.length+a.length) (pre.length+1)) (oI ((pre.length+a.length:Nat):Int))):=by
 have hl:=h.len;rw[zcc] at hl;have s1:gSet 3 (vR 2) (f4 x ac pre.length e)=nX (f4 x ac pre.length (oI (pre.length:Nat))):=rfl;have s2:=jA5 (x:=x) (ac:=ac) (k:=pre.length) hr a pre FUEL h ha (by omega)
 let Y:DSt:=f4 x ac pre.length (oI ((pre.length+a.length:Nat):Int))
 have ct:=h.cut;have sl:fSl (vR 0) (jcv (vR 2)) (jcv (vR 3)) Y=M.p (sT a):=jw9 rfl (show jcv (vR 2) Y=M.p (some ((pre.length:Nat):Int)) from rfl) (show jcv (vR 3) Y=M.p (some ((pre.length+a.length:Nat):Int)) from rfl) ct;have t1:DL.t2 gGt (vR 3) (vR 2) Y=oK (decide (0<a.length)):=by
  have:decide (((pre.length+a.length:Nat):Int) > ((pre.length:Nat):Int))=decide (0<a.length):=by
   by_cases q:0<a.length
   ·rw[decide_eq_true q,decide_eq_true (by omega)]
   ·rw[decide_eq_false q,decide_eq_false (by omega)]
  simp only[Y,stpA,gt_int,this];rfl
 have cb:DL.t2 jey (fSl (vR 0) (jcv (vR 2)) (jcv (vR 3))) (vR 1) Y=oK (!decide (a∈ac)):=by
  rw[e_t2,sl];simp only[Y,stpA,jAw];rfl
 have t:DL.tAnd (DL.t2 gGt (vR 3) (vR 2)) (DL.t2 jey (fSl (vR 0) (jcv (vR 2)) (jcv (vR 3))) (vR 1)) Y=oK (decide (0<a.length)&&!decide (a∈ac)):=by
  unfold DL.tAnd;rw[t1,M.b_ok];cases decide (0<a.length)
  ·rfl
  ·exact cb
 unfold jbt;rw[jaz s1,jaz s2]
 by_cases hc:(decide (0<a.length)&&!decide (a∈ac))=true
 ·rw[hc] at t;rw[if_pos hc,jdh t (d:=.tup [sT a,.int (pre.length:Nat)])];unfold fL jac;rw[sl];rfl
 ·rw[Bool.not_eq_true] at hc;rw[hc] at t;rw[if_neg (by rw[hc];decide),jdc t];have mx:(if (((pre.length:Nat):Int)+1) > ((pre.length+a.length:Nat):Int) then (((pre.length:Nat):Int)+1) else ((pre.length+a.length:Nat):Int))=((max (pre.length+a.length) (pre.length+1):Nat):Int):=by
   split<;>omega
  have s3:gSet 2 (fL kMax (jac (vR 3) (jac (f2 gCat (vR 2) (cI 1)) fNil))) Y=nX (f4 x ac (max (pre.length+a.length) (pre.length+1)) (oI ((pre.length+a.length:Nat):Int))):=by
   simp only[Y,stpA,jJm,mx];rfl
  exact s3
def jHz{k:Nat}{pre rest:List Nat}{c:Nat}{e:Option D}(h:At x pre (c::rest)):jbd (f4 x ac pre.length e)=oK true:=by
 have hl:=h.len;unfold jbd;simp only[stpA,len_str h.small,lt_int];rw[decide_eq_true (by rw[hl,List.length_cons];omega)];rfl
def jHy{pre:List Nat}{e:Option D}(h:At x pre []):jbd (f4 x ac pre.length e)=oK false:=by
 have hl:=h.len;unfold jbd;simp only[stpA,len_str h.small,lt_int];rw[decide_eq_false (by rw[hl,List.length_nil];omega)];rfl
theorem jn6(hf:x.length<FUEL){rest:List Nat}:∀ (a pre:List Nat) (m:Nat) (e:Option D),At x pre (a++rest)->(∀ c∈a,isL c=false)->∃ e',jbo jbd jbt (m+a.length) (f4 x ac pre.length e)=jbo jbd jbt m (f4 x ac (pre++a).length e')/\At x (pre++a) rest
 | [],pre,m,e,h,_=>⟨e,by rw[List.append_nil];rfl,by rw[List.append_nil];exact h⟩
 | c::a,pre,m,e,h,ha=>by
  have hc:isL c=false:=ha c zaa;have b4:=jE2 (ac:=ac) (k:=0) (e:=e) (a:=[]) (rest:=c::(a++rest)) hc h (fun _ z=>by cases z) hf;rw[if_neg (fun z=>by cases z)] at b4;have hm:max (pre.length+([]:List Nat).length) (pre.length+1)=(pre++[c]).length:=by
   rw[zcc,List.length_singleton,List.length_nil];omega
  rw[hm] at b4;obtain⟨e',q1,q2⟩:=jn6 hf a (pre++[c]) m _ (At.step (a:=[c]) h) fun d hd=>ha d (zaw _ hd)
  refine⟨e',?_,by rw[List.append_assoc] at q2;exact q2⟩;rw[List.length_cons,<- Nat.add_assoc,jgo (jHz (k:=0) h) b4,q1,List.append_assoc];rfl
def jFw{a:List Nat}(h:∀ c∈a,isL c=false):hdL a=false:=by
 cases a with
 | nil=>rfl
 | cons c r=>exact h c zaa
theorem joa(hf:x.length<FUEL){p:Nat}:∀ (ae:List (Nat×List Nat)) (pre:List Nat) (d m:Nat) (wt:Str) (e:Option D),At x pre (jca ae p)->Acc (ae.map (·.2)) wt d->(jca ae p).length<m->match lack ac ae pre.length with
  | none=>∃ e' k,jbo jbd jbt m (f4 x ac pre.length e)=nX (f4 x ac k e')
  | some q=>jbo jbd jbt m (f4 x ac pre.length e)=oK (.rt (.tup [sT q.1,.int (q.2:Nat)]))
 | [],pre,d,m,wt,e,h,A,hm=>by
  have hl:(jca [] p).length=p:=List.length_replicate;rw[hl] at hm;obtain⟨j,rfl⟩:∃ j,m=j+1+p:=⟨m-1-p,by omega⟩
  obtain⟨e',q1,q2⟩:=jn6 (ac:=ac) hf (rest:=[]) (List.replicate p 32) pre (j+1) e (by rw[List.append_nil];exact h) fun c hc=>by rw[List.eq_of_mem_replicate hc];rfl
  rw[List.length_replicate] at q1;exact⟨e',_,by rw[q1,jeg (jHy q2)]⟩
 | (k,a)::s,pre,d,m,wt,e,h,A,hm=>by
  have hl:(jca ((k,a)::s) p).length=k+(a.length+(jca s p).length):=by rw[show jca ((k,a)::s) p=List.replicate k 32++(a++jca s p) from rfl];simp
  rw[hl] at hm;rw[List.map_cons] at A;obtain⟨j,rfl⟩:∃ j,m=j+k:=⟨m-k,by omega⟩
  obtain⟨e1,q1,h1⟩:=jn6 (ac:=ac) hf (rest:=a++jca s p) (List.replicate k 32) pre j e h fun c hc=>by rw[List.eq_of_mem_replicate hc];rfl
  rw[List.length_replicate] at q1;rw[q1];have ie:(pre++List.replicate k 32).length=pre.length+k:=by rw[zcc,List.length_replicate]
  have non:∀ (d':Nat) (c0:Str),(∀ c∈a,isL c=false)->Acc (s.map (·.2)) c0 d'->match lack ac ((k,a)::s) pre.length with
    | none=>∃ e' n,jbo jbd jbt j (f4 x ac (pre++List.replicate k 32).length e1)=nX (f4 x ac n e')
    | some q=>jbo jbd jbt j (f4 x ac (pre++List.replicate k 32).length e1)=oK (.rt (.tup [sT q.1,.int (q.2:Nat)])):=fun d' c0 ha A'=>by
   obtain⟨i,rfl⟩:∃ i,j=i+a.length:=⟨j-a.length,by omega⟩
   obtain⟨e2,q2,h2⟩:=jn6 (ac:=ac) hf a (pre++List.replicate k 32) i e1 h1 ha;rw[q2];unfold lack;rw[jFw ha,if_neg (fun z=>by cases z)];have ih:=joa hf s (pre++List.replicate k 32++a) d' i c0 e2 h2 A' (by omega);have ig:(pre++List.replicate k 32++a).length=pre.length+k+a.length:=by rw[zcc,ie]
   rw[ig] at ih |-
   exact ih
  cases A with
  | word hw hb A' =>
   cases hw with
   | zero=>exact non d "behind" (fun c hc=>by rw[zdx.mp hc];rfl) A'
   | num _ hg _=>exact non d "behind" (fun c hc=>jng (hg c hc)) A'
   | name df hL hl10 =>
    have st:Stop isL (jca s p):=jqy rfl rfl ⟨rfl,rfl,rfl⟩ s p d A';have b4:=jE2 (ac:=ac) (k:=0) (e:=e1) st h1 hL hf;have ic:0<a.length:=by cases a with|nil=>exact absurd rfl df|cons _ _=>simp
    have hd:hdL a=true:=by
     cases a with
     | nil=>exact absurd rfl df
     | cons c r=>exact hL c zaa
    obtain⟨i,rfl⟩:∃ i,j=i+1:=⟨j-1,by omega⟩
    have tg:jbd (f4 x ac (pre++List.replicate k 32).length e1)=oK true:=by
     cases a with
     | nil=>exact absurd rfl df
     | cons c r=>exact jHz (k:=0) h1
    unfold lack;rw[decide_eq_true ic] at b4;rw[hd]
    by_cases hc:(true&&!decide (a∈ac))=true
    ·rw[if_pos hc] at b4 |-
     show jbo jbd jbt (i+1) _=_;unfold jbo;rw[tg,M.b_ok,if_pos rfl,b4,M.b_ok,ie];rfl
    ·rw[if_neg hc] at b4 |-
     rw[jgo tg b4];have hmx:max ((pre++List.replicate k 32).length+a.length) ((pre++List.replicate k 32).length+1)=(pre++List.replicate k 32++a).length:=by
      rw[zcc (as:=pre++List.replicate k 32)];omega
     rw[hmx];have ih:=joa hf s (pre++List.replicate k 32++a) d i "behind" (oI (((pre++List.replicate k 32).length+a.length:Nat):Int)) h1.step A' (by omega);have ig:(pre++List.replicate k 32++a).length=pre.length+k+a.length:=by rw[zcc,ie]
     rw[ig] at ih |-
     exact ih
  | opn hb A'=>exact non (d+1) "beginning" (fun c hc=>by rw[zdx.mp hc];rfl) A'
  | cls A' =>
   rename_i d';exact non d' "behind" (fun c hc=>by rw[zdx.mp hc];rfl) A'
  | neg A'=>exact non d "factor" (fun c hc=>by rw[zdx.mp hc];rfl) A'
  | bin hc A'=>exact non d "factor" (fun c hc'=>by rw[zdx.mp hc'];rcases jhl hc with rfl|rfl|rfl<;>rfl) A'
def jp7:Option (List Nat×Nat)->D
 | none=>.non
 | some q=>.tup [sT q.1,.int (q.2:Nat)]
def jx5{ae:List (Nat×List Nat)}{p:Nat}(hx:x.cps.toList=jca ae p)(hs:x.length<=50000)(A:Acc (ae.map (·.2)) "beginning" 0):jf7 [.str x,.lst (nmD ac)]=oK (jp7 (lack ac ae 0)):=by
 have hf:x.length<FUEL:=by rw[jtr];exact Nat.lt_of_le_of_lt hs (by decide)
 have hl:(jca ae p).length=x.length:=by rw[<- hx];simp[Str.length]
 have w:=joa (ac:=ac) hf ae [] 0 FUEL "beginning" none ⟨hx,hs⟩ A (by omega);unfold jf7;rw[jfg];unfold jh2;rw[jaz (Y':=f4 x ac 0 none) rfl];rw[List.length_nil] at w
 cases hq:lack ac ae 0 with
 | none =>
  rw[hq] at w;obtain⟨e',k,w⟩:=w;rw[jaz w];rfl
 | some q =>
  rw[hq] at w;rw[jor,w,M.b_ok,jw8];rfl
end
section
theorem jv7:∀ ns:List Int,okDs (ns.map D.int)=true
 | []=>by unfold okDs;rfl
 | n::ns=>by rw[List.map_cons];unfold okDs;rw[jv7 ns];unfold okD;rfl
theorem jrk:∀ ns:List Int,depDs (ns.map D.int)=0
 | []=>by unfold depDs;rfl
 | n::ns=>by rw[List.map_cons];unfold depDs;rw[jrk ns];unfold depD;rfl
def jDe(f:Fm):okD (fm f)=true/\depD (fm f)<=20:=by
 unfold fm;constructor
 ·simp[okD,okDs,jv7]
 ·simp[depD,depDs,jrk]
def jJn(f:Fm):gNe (fm f) (fm f)=some (.bl false):=by
 unfold gNe;rw[if_pos (by rw[(jDe f).1,decide_eq_true (jDe f).2];rfl),jm7 _ (jDe f).1];rfl
theorem jop{tc:DSt->M Bool}{fe:DSt->M D}{c:DSt}:∀ (ns:List Int) (x:Option D),(∀ (n:Int),tc (oI n::c)=oK false)->jcy (DL.gName 0) tc fe (ns.map D.int) (x::c)=some []
 | [],_,_=>rfl
 | n::ns,x,h=>by
  rw[List.map_cons];unfold jcy;have e1:DL.gName 0 (.int n) (x::c)=some (oI n::c):=rfl;rw[e1];dsimp only;rw[h n];exact jop ns _ h
def jpx(n:Int):jc5 [.int n]=oK (.bl true):=by
 unfold jc5;rw[jhr];unfold jh3;simp only[stpA,jCg,jku,jjs,jz5,Bool.not_false];rfl
def jve{f:Fm}(h2:f.1.length<=1000):jeo [fm f,fm f]=oK (.bl true):=by
 unfold jeo;rw[jfg];show (jel [of f,of f]).b outD=_;unfold jel;have i1:kIsi [fm f,.ty "tuple"]=some (.bl true):=rfl;have i2:kLen [fm f]=oI 2:=rfl;have i3:gIx (fm f) (.int 0)=some (.tup (f.1.map .int)):=by unfold fm;simp
 have i4:=fm1 f;have i5:=jni (f.1.map D.int);have i6:=jJn f;have t:DL.tOr (DL.tNot (tTru (fL kIsi (jac (vR 0) (jac (fC (.ty "tuple")) fNil))))) (DL.tOr (DL.t2 gNe (fL kLen (jac (vR 0) fNil)) (cI 2)) (DL.tOr (DL.tNot (tTru (fL kIsi (jac (f2 gIx (vR 0) (cI 0)) (jac (fC (.ty "tuple")) fNil))))) (DL.t2 gNe (vR 0) (vR 1)))) [of f,of f]=oK false:=by
  simp only[stpA,i1,i2,i3,i5,i6,jAv,Bool.not_true];rfl
 rw[jdc t];have c:jx8 (.tup (f.1.map .int)) (.tup [.int f.2])=some (.tup ((f.1++[f.2]).map .int)):=by
  rw[List.map_append];exact if_pos (by rw[zav];show _+1<=_;exact zdy (Nat.add_le_add_right h2 1) (by decide))
 have tw:∀ n:Int,DL.tNot (tTru (jay jc5 (jac (vR 0) fNil))) [oI n]=oK false:=fun n=>by
  simp only[stpA,jpx,Bool.not_true];rfl
 have cn:=jop (fe:=jhq) (c:=[]) (f.1++[f.2]) none tw;have t1:jb2 [.int f.2]=some (.tup [.int f.2]):=rfl;simp only[stpA,i3,i4,t1,c,cn,jnj];rfl
variable {aa:LL}{x:Str}{nm:Str}{o:Int}
def ju2{Ω:Sto}{f:Bool}:(errs Ω f nm o)[Ω.length]? = some (.exc "NoName" (some (Ω.length+1),f)):=by unfold errs;exact jnd Ω
def jAj{Ω:Sto}{f:Bool}:(errs Ω f nm o)[Ω.length+1]? = some (.xd [("name",.str nm),("place",.int o)]):=by unfold errs;exact jrs Ω
section
variable {Ω:Sto}{f:Bool}{Y:DSt}{fa:DSt->MS D}
def jI5{g:Str->Bool}(h:fa Y (errs Ω f nm o)=some (.ok (.obj Ω.length),errs Ω f nm o)):mIsX xcs g fa Y (errs Ω f nm o)=some (.ok (.bl (g "NoName")),errs Ω f nm o):=by
 unfold mIsX;rw[MS.b_ok h];unfold isX;dsimp only;rw[ju2];dsimp only;rw[jAj];dsimp only;rw[if_pos (by decide)]
def jAi{y:Str}{d:D}(h:fa Y (errs Ω f nm o)=some (.ok (.obj Ω.length),errs Ω f nm o))(hd:([("name",D.str nm),("place",D.int o)]:List (Str×D)).lookup y=some d):jkw xcs y fa Y (errs Ω f nm o)=some (.ok d,errs Ω f nm o):=by
 unfold jkw;rw[MS.b_ok h];unfold getX;dsimp only;rw[ju2];dsimp only;rw[jAj];dsimp only;rw[if_pos (by decide),hd];rfl
end
def js9{L:D}(Ω:Sto)(h:jcg [L,.str x] Ω=some (.error (xdO Ω.length),errs Ω false nm o)):jdx [L,.str x,.tup [.str nm,.int o]] Ω=some (.ok (.bl true),errs Ω false nm o):=by
 let Y (a:Option D):DSt:=[some L,oS x,some (.tup [.str nm,.int o]),a,none]
 have mc:jh8 jcg (lF (jac (vR 0) (jac (vR 1) fNil))) (Y (some .non)) Ω=some (.error (xdO Ω.length),errs Ω false nm o):=h;have v0:lF (vR 3) (Y (some (.obj Ω.length))) (errs Ω false nm o)=some (.ok (.obj Ω.length),errs Ω false nm o):=rfl;have i1:=fun g=>jI5 (g:=g) v0
 have n1:=jAi (y:="name") (d:=.str nm) v0 rfl;have n2:=jAi (y:="place") (d:=.int o) v0 rfl;show MS.b (jem (Y none)) outE Ω=_;refine (MS.b_ok (a:=.rt (.bl true)) (Ω1:=errs Ω false nm o) ?_).trans rfl;unfold jem;rw[eseq (Y':=Y (some .non)) (Ω':=Ω) rfl,eseq (Y':=Y (some (.obj Ω.length))) (Ω':=errs Ω false nm o) (by
  unfold jxz;rw[mc];dsimp only;unfold jrb errI xdO;dsimp only;rw[ju2];dsimp only;rw[if_pos (by decide)];rfl)]
 have tr:∀ g:Str->Bool,mTru (mIsX xcs g (lF (vR 3))) (Y (some (.obj Ω.length))) (errs Ω false nm o)=some (.ok (g "NoName"),errs Ω false nm o):=fun g=>by
  unfold mTru;rw[MS.b_ok (i1 g)];rfl
 have no:∀ g:Str->Bool,mNot (mTru (mIsX xcs g (lF (vR 3)))) (Y (some (.obj Ω.length))) (errs Ω false nm o)=some (.ok (!(g "NoName")),errs Ω false nm o):=fun g=>by
  unfold mNot;rw[MS.b_ok (tr g)];rfl
 rw[eseq (Y':=Y (some (.obj Ω.length))) (Ω':=errs Ω false nm o) (by
  rw[eif (c:=false) (Ω':=errs Ω false nm o) (by
   unfold mOr;rw[MS.b_ok (no _)];exact no _),if_neg (by decide)]
  rfl)]
 rw[eseq (Y':=Y (some (.obj Ω.length))) (Ω':=errs Ω false nm o) (by
  rw[eif (c:=false) (Ω':=errs Ω false nm o) (tr _),if_neg (by decide)];rfl)]
 have wh:mNot (mTru (jin jc5 (jfm (jkw xcs "place" (lF (vR 3))) (lF fNil)))) (Y (some (.obj Ω.length))) (errs Ω false nm o)=some (.ok false,errs Ω false nm o):=by
  have a1:jfm (jkw xcs "place" (lF (vR 3))) (lF fNil) (Y (some (.obj Ω.length))) (errs Ω false nm o)=some (.ok [.int o],errs Ω false nm o):=by
   unfold jfm;rw[MS.b_ok n2,MS.b_ok (a:=[]) (Ω1:=errs Ω false nm o) rfl];rfl
  have a2:jin jc5 (jfm (jkw xcs "place" (lF (vR 3))) (lF fNil)) (Y (some (.obj Ω.length))) (errs Ω false nm o)=some (.ok (.bl true),errs Ω false nm o):=by
   rw[jqu,s_b,a1,jho,jpx];rfl
  unfold mNot mTru;rw[MS.b_ok (a:=true) (Ω1:=errs Ω false nm o) (by rw[MS.b_ok a2];rfl)];rfl
 rw[eseq (Y':=Y (some (.obj Ω.length))) (Ω':=errs Ω false nm o) (by
  rw[eif (c:=false) (Ω':=errs Ω false nm o) (by
   unfold mOr;rw[MS.b_ok (tr _)];exact wh),if_neg (by decide)]
  rfl)]
 have q1:m2 gEq (jkw xcs "name" (lF (vR 3))) (lF (f2 gIx (vR 2) (cI 0))) (Y (some (.obj Ω.length))) (errs Ω false nm o)=some (.ok (.bl true),errs Ω false nm o):=by
  unfold m2;rw[MS.b_ok n1,MS.b_ok (a:=.str nm) (Ω1:=errs Ω false nm o) rfl,jc9,beq_self_eq_true];rfl
 have q2:m2 gEq (jkw xcs "place" (lF (vR 3))) (lF (f2 gIx (vR 2) (cI 1))) (Y (some (.obj Ω.length))) (errs Ω false nm o)=some (.ok (.bl true),errs Ω false nm o):=by
  unfold m2;rw[MS.b_ok n2,MS.b_ok (a:=.int o) (Ω1:=errs Ω false nm o) rfl,jAg,beq_self_eq_true];rfl
 unfold eRet jvp;rw[MS.b_ok (a:=.bl true) (Ω1:=errs Ω false nm o) (by rw[MS.b_ok q1];exact q2)];rfl
def jJs{k:Nat}(hk:k<4)(m:Int):∃ q:Int,gIx (.lst [.int 1,.int 2,.int 4,.int 8]) (.int (k:Int))=oI q/\jdf (.int m) (.int q)=oI (m / q):=by
 match k,hk with
 | 0,_=>exact⟨1,rfl,jce (by decide) (by decide)⟩
 | 1,_=>exact⟨2,rfl,jce (by decide) (by decide)⟩
 | 2,_=>exact⟨4,rfl,jce (by decide) (by decide)⟩
 | 3,_=>exact⟨8,rfl,jce (by decide) (by decide)⟩
def jDb{k:Nat}(h:k<aa.length):gIx (.lst (nmD aa)) (.int (k:Nat))=some (sT aa[k]):=by
 rw[ix_l];exact DL.atI_get (by unfold nmD;rw[zba,zax h];rfl)
abbrev tcL:DSt->M Bool:=t2 gEq (f2 gMod (f2 jdf (vR 2) (f2 gIx (fL jaw (jac (cI 1) (jac (cI 2) (jac (cI 4) (jac (cI 8) fNil))))) (vR 0))) (cI 2)) (cI 1)
theorem jon{af:Int}(h4:aa.length<=4):∀ (ks:List Nat) (y:Option D),(∀ k∈ks,k<aa.length)->∃ L:LL,jcy (DL.gName 0) tcL jq8 (ks.map fun k=>.int (k:Nat)) [y,oN aa,oI af]=some (nmD L)/\L.length<=ks.length
 | [],y,_=>⟨[],rfl,zac _⟩
 | k::ks,y,h=>by
  have hk:=h k zaa;obtain⟨L,e,l⟩:=jon (af:=af) h4 ks (oI (k:Nat)) fun j hj=>h j (zaw _ hj)
  obtain⟨q,q1,q2⟩:=jJs (k:=k) (by omega) af;have m2':=jbz (i:=af / q) (j:=2) (by decide);have l4:jaw [D.int 1,D.int 2,D.int 4,D.int 8]=some (.lst [.int 1,.int 2,.int 4,.int 8]):=rfl;have t:tcL [oI (k:Nat),oN aa,oI af]=oK (af / q % 2 == 1):=by
   simp only[tcL,stp,l4,q1,q2,m2'];rfl
  have fe:jq8 [oI (k:Nat),oN aa,oI af]=oK (sT aa[k]):=by
   unfold jq8;rw[e_2];show M.o (gIx (.lst (nmD aa)) (.int (k:Nat)))=_;rw[jDb hk];rfl
  rw[List.map_cons];unfold jcy;rw[show DL.gName 0 (.int (k:Nat)) [y,oN aa,oI af]=some [oI (k:Nat),oN aa,oI af] from rfl];dsimp only;rw[t]
  cases hb:(af / q % 2 == 1) with
  | false=>exact⟨L,e,Nat.le_succ_of_le l⟩
  | true =>
   refine⟨aa[k]::L,?_,Nat.succ_le_succ l⟩;dsimp only;rw[fe];dsimp only;rw[e];rfl
theorem jt8{l:List Nat}{f:Fm}(hl:f.1.length=aa.length):∀ (cr:LL) (dr:List Int) (j:Nat) (y:Option D),aa.drop j=cr->f.1.drop j=dr->∃ is:List Int,jcy (DL.gName 0) (t2 gEq (f2 gIx (vR 1) (vR 0)) (vR 3)) jmx ((List.range' j cr.length).map fun k=>.int (k:Nat)) [y,oN aa,of f,some (sT l)]=some (is.map .int)/\is.sum=cvC l cr dr/\is.length<=cr.length
 | [],dr,j,y,_,_=>⟨[],rfl,by cases dr<;>rfl,zac _⟩
 | a::cr,dr,j,y,h1,h2=>by
  have hj:j<aa.length:=by
   rcases Nat.lt_or_ge j aa.length with h|h
   ·exact h
   ·rw[List.drop_of_length_le h] at h1;cases h1
  have ha:aa[j]=a:=by
   have:=congrArg (·[0]?) h1;simp[zax hj] at this;exact this
  have hd1:aa.drop (j+1)=cr:=by rw[<- List.drop_drop,h1];rfl
  have jp:j<f.1.length:=by rw[hl];exact hj
  have hc:f.1.drop j=f.1[j]::f.1.drop (j+1):=List.drop_eq_getElem_cons jp;rw[hc] at h2;subst h2;obtain⟨is,e,s,le⟩:=jt8 (l:=l) hl cr (f.1.drop (j+1)) (j+1) (oI (j:Nat)) hd1 rfl;have t:t2 gEq (f2 gIx (vR 1) (vR 0)) (vR 3) [oI (j:Nat),oN aa,of f,some (sT l)]=oK (decide (a=l)):=by
   have e0:gIx (.lst (nmD aa)) (.int (j:Nat))=some (sT a):=by rw[jDb hj,ha]
   rw[e_t2];show M.b (M.b (M.p (D.lst (nmD aa))) _) _=_;simp only[M.b_p,jFq,List.getElem?_cons_zero,List.getElem?_cons_succ,Option.join_some,M.o_some,e0,jc9,jfb]
   by_cases q:a=l
   ·rw[decide_eq_true q,q,beq_self_eq_true];rfl
   ·rw[decide_eq_false q,beq_eq_false_iff_ne.mpr q];rfl
  have fe:jmx [oI (j:Nat),oN aa,of f,some (sT l)]=oK (.int f.1[j]):=by
   unfold jmx;have i3:gIx (fm f) (.int 0)=some (.tup (f.1.map .int)):=by unfold fm;simp
   have i4:gIx (.tup (f.1.map .int)) (.int (j:Nat))=oI f.1[j]:=by
    rw[ix_t];exact DL.atI_get (by rw[zba,zax jp];rfl)
   rw[e_2,e_2];show M.b (M.b (M.p (fm f)) fun x=>M.b (M.p (D.int 0)) fun y=>M.o (gIx x y)) (fun x=>M.b (M.p (D.int (j:Nat))) fun y=>M.o (gIx x y))=_;simp only[M.b_p,i3,M.o_some,i4];rfl
  show ∃ is:List Int,jcy _ _ _ (.int (j:Nat)::(List.range' (j+1) cr.length).map fun k=>.int (k:Nat)) _=_/\_/\_;unfold jcy;rw[show DL.gName 0 (.int (j:Nat)) [y,oN aa,of f,some (sT l)]=some [oI (j:Nat),oN aa,of f,some (sT l)] from rfl];dsimp only;rw[t]
  by_cases q:a=l
  ·rw[decide_eq_true q];dsimp only;rw[fe];dsimp only;rw[e];refine⟨f.1[j]::is,rfl,?_,Nat.succ_le_succ le⟩;rw[List.sum_cons,s];show _=(if a=l then f.1[j] else 0)+cvC l cr (f.1.drop (j+1));rw[if_pos q]
  ·rw[decide_eq_false q];refine⟨is,e,?_,Nat.le_succ_of_le le⟩;rw[s];show _=(if a=l then f.1[j] else 0)+cvC l cr (f.1.drop (j+1));rw[if_neg q,Int.zero_add]
end
section
def jBn:∀ {ts:LL} {wt:Str} {d:Nat},Acc ts wt d->∀ a∈ts,a=[40]\/a=[41]\/jcr (St a)=true\/Word a:=by
 intro ts wt d A
 induction A with
 | done=>intro a h;cases h
 | word hw _ _ ih =>
  intro a h;rcases List.mem_cons.mp h with h|h
  ·rw[h];exact .inr (.inr (.inr hw))
  ·exact ih a h
 | opn _ _ ih =>
  intro a h;rcases List.mem_cons.mp h with h|h
  ·exact .inl h
  ·exact ih a h
 | cls _ ih =>
  intro a h;rcases List.mem_cons.mp h with h|h
  ·exact .inr (.inl h)
  ·exact ih a h
 | neg _ ih =>
  intro a h;rcases List.mem_cons.mp h with h|h
  ·rw[h];exact .inr (.inr (.inl (by decide +kernel)))
  ·exact ih a h
 | bin hc _ ih =>
  intro a h;rcases List.mem_cons.mp h with h|h
  ·rw[h];exact .inr (.inr (.inl hc))
  ·exact ih a h
def jKa{aa:LL}{a:List Nat}(h:a=[40]\/a=[41]\/jcr (St a)=true\/Word a)(t:∃ c r,a=c::r/\(isL c=true->a∈aa)/\a.length<=40):Tk aa (St a):=by
 obtain⟨c,r,e,m,l⟩:=t;rcases h with h|h|h|h
 ·exact .sg (.inl (by rw[h,jnl]))
 ·exact .sg (.inr (.inl (by rw[h,jow])))
 ·exact .sg (.inr (.inr h))
 ·exact .wd a rfl h l fun c' r' e' hc=>m (by rw[e] at e';cases e';exact hc)
def lt_q:Str.ofString "q"=St [113]:=by decide +kernel
def jGo(L:LL):(nmD L).reverse=nmD L.reverse:=by unfold nmD;rw[List.map_reverse]
def jnt{a:List Nat}(h:Nm a):Word a:=.name h.ne h.al h.le
def jvl{aa:LL}{af:Int}(h4:aa.length<=4)(A B C E F:Option D):∃ (L:LL) ,L.length<=5/\∀ (g2:DSt->MS Out) (Ω:Sto),
  eSeq jwz (eSeq jw0 (eSeq jw1 g2)) [A,B,oN aa,C,E,F,oI af,none,none,none,none,none] Ω
   = g2 [A,B,oN aa,C,E,F,oI af,oN L,none,none,none,none] Ω:=by
 let Y (z:Option D):DSt:=[A,B,oN aa,C,E,F,oI af,z,none,none,none,none]
 obtain⟨L0,e0,l0⟩:=jon (af:=af) h4 (List.range aa.length) none fun k hk=>List.mem_range.mp hk
 rw[List.length_range] at l0;have er:jcc 0 aa.length=(List.range aa.length).map fun k=>D.int (k:Nat):=by
  unfold jcc;exact List.map_congr_left fun k _=>by rw[Int.zero_add]
 rw[<- er] at e0;have s1:∀ Ω,jwz (Y none) Ω=some (.ok (.nx (Y (oN L0))),Ω):=fun Ω=>by
  refine lft (jq1 7 (d:=.lst (nmD L0)) ?_);unfold jgx;rw[show jf6 jb1 (jac (fL kLen (jac (vR 2) fNil)) fNil) (Y none)=oK (jcc 0 aa.length) from by
   simp only[Y,stp,jht,Int.toNat_natCast];rfl,M.b_ok]
  rw[show jed 1 [("_law_names_here",2),("_law_bits",6)] (Y none)=[none,oN aa,oI af] from rfl,e0];show M.o (jaw (nmD L0))=_;rw[DL.lst_le (by rw[jht];omega)];rfl
 have fg:=jce (i:=af) (j:=16) (by decide) (by decide);have d7:=jbz (i:=af / 16) (j:=2) (by decide);obtain⟨L1,l1,s2⟩:∃ L1:LL,L1.length<=5/\∀ Ω,jw0 (Y (oN L0)) Ω=some (.ok (.nx (Y (oN L1))),Ω):=by
  have t1:t2 jey (cS "q") (vR 2) (Y (oN L0))=oK (!decide ([113]∈aa)):=by
   rw[lt_q];simp only[Y,stp,jAw];rfl
  have cb:t2 gEq (f2 gMod (f2 jdf (vR 6) (cI 16)) (cI 2)) (cI 1) (Y (oN L0))=oK (af / 16 % 2 == 1):=by
   simp only[Y,stp,fg,d7];rfl
  have t:DL.tAnd (t2 jey (cS "q") (vR 2)) (t2 gEq (f2 gMod (f2 jdf (vR 6) (cI 16)) (cI 2)) (cI 1)) (Y (oN L0))=oK (!decide ([113]∈aa)&&(af / 16 % 2 == 1)):=by
   unfold DL.tAnd;rw[t1,M.b_ok];cases (!decide ([113]∈aa))
   ·rfl
   ·exact cb
  cases hc:(!decide ([113]∈aa)&&(af / 16 % 2 == 1)) with
  | false =>
   rw[hc] at t;exact⟨L0,by omega,fun Ω=>lft (jlm t)⟩
  | true =>
   rw[hc] at t;refine⟨L0++[[113]],by rw[zcc];show _+1<=5;omega,fun Ω=>lft ?_⟩;rw[w_if t,if_pos rfl,jIc (d:=.str "q") (ds:=nmD L0) 7 rfl rfl (by rw[jht];omega),lt_q];show _=some (Except.ok (Out.nx (Y (oN (L0++[[113]])))));rw[show nmD L0++[sT [113]]=_ from jv2 L0 [[113]]];rfl
 have f32:=jce (i:=af) (j:=32) (by decide) (by decide);have m32:=jbz (i:=af / 32) (j:=2) (by decide);have r32:=zca (af / 32) (show (2:Int)≠0 by decide);have r33:=zcb (af / 32) (show (0:Int)<2 by decide);have l2:jaw [D.int 1,D.int (-1)]=some (.lst [.int 1,.int (-1)]):=rfl;have go:∀ (L:LL) (s:Int),gIx (.lst [D.int 1,D.int (-1)]) (.int (af / 32 % 2))=oI s->gStp (.lst (nmD L1)) (.int s)=oN L->∀ Ω,jw1 (Y (oN L1)) Ω=some (.ok (.nx (Y (oN L))),Ω):=fun L s h1 h2 Ω=>by
  refine lft (jq1 7 (d:=.lst (nmD L)) ?_);rw[ix_l] at h1;simp only[Y,stp,l2,f32,m32,ix_l,h1,h2];rfl
 have hq:af / 32 % 2=0\/af / 32 % 2=1:=by omega
 rcases hq with hq|hq
 ·exact⟨L1,l1,fun g2 Ω=>(eseq (s1 Ω)).trans ((eseq (s2 Ω)).trans (eseq ((go L1 1 (by rw[hq];rfl) rfl) Ω)))⟩
 ·exact⟨L1.reverse,by rw[List.length_reverse];exact l1,fun g2 Ω=>(eseq (s1 Ω)).trans ((eseq (s2 Ω)).trans (eseq ((go L1.reverse (-1) (by rw[hq];rfl) (by
   show (if (-1:Int)=1 then some (D.lst (nmD L1)) else if (-1:Int)=-1 then some (D.lst (nmD L1).reverse) else none)=_;rw[if_neg (by decide),if_pos rfl,jGo]) Ω))))⟩
end
section
def jll{g:D->D->Option D}{fa fb:DSt->M D}{Y:DSt}{x y d:D}(ha:fa Y=some (.ok x))(hb:fb Y=some (.ok y))(h:g x y=some d):f2 g fa fb Y=oK d:=by
 unfold f2;rw[ha,M.b_ok,hb,M.b_ok,h];rfl
def jnk{k:List D->Option D}{g:DSt->M (List D)}{Y:DSt}{xs:List D}{d:D}(h:g Y=some (.ok xs))(hk:k xs=some d):fL k g Y=oK d:=by
 unfold fL;rw[h,M.b_ok,hk];rfl
def jds{f:DSt->M D}{g:DSt->M (List D)}{Y:DSt}{x:D}{xs:List D}(h:f Y=some (.ok x))(k:g Y=some (.ok xs)):jac f g Y=oK (x::xs):=by
 unfold jac;rw[h,M.b_ok,k,M.b_ok];rfl
def jJa{a:List Nat}:jaw [D.str (St a),D.str "*",D.str "("]=oL (nmD [a,[42],[40]]):=by rw[jkv,jnl];rfl
def jI9{a:List Nat}:jaw [D.str ")",D.str "*",D.str (St a)]=oL (nmD [[41],[42],a]):=by rw[jkv,jow];rfl
def jJb{a b:List Nat}:jaw [D.str "+",D.str (St a),D.str "*",D.str (St b)]=oL (nmD [[43],a,[42],b]):=by rw[jkv,jsw];rfl
variable {aa:LL}
def jyv(h1:1<=aa.length):∃ a∈aa,gIx (.lst (nmD aa)) (.int 0)=some (sT a):=⟨aa[0],List.getElem_mem _,jDb (k:=0) (by omega)⟩
def jDc(h1:1<=aa.length):∃ a∈aa,gIx (.lst (nmD aa)) (.int (-1))=some (sT a):=by
 obtain⟨xs,y,rfl⟩:∃ xs y,aa=xs++[y]:=by
  rcases List.eq_nil_or_concat aa with h|⟨xs,y,h⟩
  ·rw[h] at h1;exact absurd h1 (by decide)
  ·exact⟨xs,y,by rw[h,List.concat_eq_append]⟩
 refine⟨y,zcy _ zaa,?_⟩;rw[show nmD (xs++[y])=nmD xs++[sT y] by unfold nmD;rw[List.map_append];rfl,ix_l];exact jtv _ _
structure TsOk(ts:LL):Prop where
 acc:Acc ts "beginning" 0
 len:ts.length<=490
 tok:∀ a∈ts,a≠[]/\a.length<=40
def s42:jcr (St [42])=true:=by decide +kernel
def s43:jcr (St [43])=true:=by decide +kernel
def jxi{aa ts:LL}{f:Fm}{b:Nat}(S:Sm aa ts f b):∀ a∈ts,a≠[]/\a.length<=40:=fun a ha=>by
 obtain⟨c,r,e,_,l⟩:=S.toks a ha;exact⟨by rw[e];exact List.cons_ne_nil _ _,l⟩
def ts0{ts:LL}{f:Fm}{b:Nat}{n0 nl:List Nat}(S:Sm aa ts f b)(hl:ts.length<=480)(h0:Nm n0)(hL:Nm nl):TsOk ([n0,[42],[40]]++ts++[[41],[42],nl]):=by
 refine⟨?_,?_,?_⟩
 ·have e:[n0,[42],[40]]++ts++[[41],[42],nl]=n0::[42]::[40]::(ts++[[41],[42],nl]):=by simp
  rw[e];exact .word (jnt h0) (by decide +kernel) (.bin s42 (.opn (by decide +kernel) (S.acc _ _ (.cls (.bin s42 (.word (jnt hL) (by decide +kernel) .done))))))
 ·simp only[zcc,List.length_cons,List.length_nil];omega
 ·intro a ha;have n1:n0≠[]/\n0.length<=40:=⟨h0.ne,by have:=h0.le;omega⟩
  have n2:nl≠[]/\nl.length<=40:=⟨hL.ne,by have:=hL.le;omega⟩
  rcases List.mem_append.mp ha with ha|ha
  ·rcases List.mem_append.mp ha with ha|ha
   ·simp only[List.mem_cons,List.not_mem_nil,or_false] at ha;rcases ha with rfl|rfl|rfl
    ·exact n1
    ·exact⟨by decide,by decide⟩
    ·exact⟨by decide,by decide⟩
   ·exact jxi S a ha
  ·simp only[List.mem_cons,List.not_mem_nil,or_false] at ha;rcases ha with rfl|rfl|rfl
   ·exact⟨by decide,by decide⟩
   ·exact⟨by decide,by decide⟩
   ·exact n2
def ts1{ts:LL}{f:Fm}{b:Nat}{n0 nl:List Nat}(S:Sm aa ts f b)(hl:ts.length<=480)(h0:Nm n0)(hL:Nm nl):TsOk (ts++[[43],n0,[42],nl]):=by
 refine⟨S.acc _ _ (.bin s43 (.word (jnt h0) (by decide +kernel) (.bin s42 (.word (jnt hL) (by decide +kernel) .done)))),?_,?_⟩
 ·simp only[zcc,List.length_cons,List.length_nil];omega
 ·intro a ha;have n1:n0≠[]/\n0.length<=40:=⟨h0.ne,by have:=h0.le;omega⟩
  have n2:nl≠[]/\nl.length<=40:=⟨hL.ne,by have:=hL.le;omega⟩
  rcases List.mem_append.mp ha with ha|ha
  ·exact jxi S a ha
  ·simp only[List.mem_cons,List.not_mem_nil,or_false] at ha;rcases ha with rfl|rfl|rfl|rfl
   ·exact⟨by decide,by decide⟩
   ·exact n1
   ·exact⟨by decide,by decide⟩
   ·exact n2
def ts2{ts:LL}{f:Fm}{b:Nat}(S:Sm aa ts f b)(hl:ts.length<=480):TsOk ts:=by
 refine⟨?_,by omega,jxi S⟩;have:=S.acc [] 0 .done
 rwa [List.append_nil] at this
abbrev d12(ns:List Int)(x1:Int)(aa:LL)(ts:LL)(f:Fm)(dp af:Int)(L:LL)(x8 x9 fk cz:Option D):DSt:=[some (scr ns),oI x1,oN aa,oN ts,of f,oI dp,oI af,oN L,x8,x9,fk,cz]
theorem jom{ns:List Int}{x1 dp af:Int}{ts L:LL}{f:Fm}{x8 x9:Option D}(h4:aa.length<=4)(hl:f.1.length=aa.length):∀ (W:LL) (cs:List Int) (cz:Option D),cs.length+W.length<=100->∃ x11',forD jkg (DL.gName 11) (nmD W) (d12 ns x1 aa ts f dp af L x8 x9 (oL (cs.map .int)) cz)=nX (d12 ns x1 aa ts f dp af L x8 x9 (oL ((cs++W.map fun l=>cvC l aa f.1).map .int)) x11')
 | [],cs,cz,_=>⟨cz,by rw[List.map_nil,List.append_nil];rfl⟩
 | l::W,cs,cz,h=>by
  rw[List.length_cons] at h;obtain⟨is,e,s,le⟩:=jt8 (l:=l) hl aa f.1 0 none rfl rfl;have er:jcc 0 aa.length=(List.range' 0 aa.length).map fun k=>D.int (k:Nat):=by
   unfold jcc;rw[List.range_eq_range'];exact List.map_congr_left fun k _=>by rw[Int.zero_add]
  rw[<- er] at e;obtain⟨x11',ih⟩:=jom (ns:=ns) (x1:=x1) (dp:=dp) (af:=af) (ts:=ts) (L:=L) (x8:=x8) (x9:=x9) h4 hl W (cs++[cvC l aa f.1]) (some (sT l)) (by rw[zcc];show _+1+_<=_;omega);refine⟨x11',?_⟩;have sm:kSum [.lst (is.map .int)]=oI (cvC l aa f.1):=by
   rw[<- s];have:=jEe is (fun i=>i);rw[List.map_id'] at this;exact this
  let Y:DSt:=d12 ns x1 aa ts f dp af L x8 x9 (oL (cs.map .int)) (some (sT l))
  have b:jkg Y=nX (d12 ns x1 aa ts f dp af L x8 x9 (oL ((cs++[cvC l aa f.1]).map .int)) (some (sT l))):=by
   unfold jkg;rw[jIc (d:=.int (cvC l aa f.1)) (ds:=cs.map .int) 10 (jnk (jds (x:=.lst (is.map .int)) (by
    have er':jf6 jb1 (jac (fL kLen (jac (vR 2) fNil)) fNil) Y=oK (jcc 0 aa.length):=by
     simp only[Y,stp,jht,Int.toNat_natCast];rfl
    unfold jgx;rw[er',M.b_ok];show M.o ((jcy _ _ _ _ [none,oN aa,of f,some (sT l)]).bind jaw)=_;rw[e];show M.o (jaw (is.map .int))=_;rw[DL.lst_le (by rw[zav];omega)];rfl) rfl) sm) rfl (by rw[zav];omega)]
   rw[List.map_append];rfl
  show forD jkg (DL.gName 11) (sT l::nmD W) _=_;rw[jx7 (Y1:=Y) rfl b,ih,List.map_cons,List.append_assoc];rfl
end
section
def jEk{ns:List Int}{x1 dp af:Int}{aa ts L:LL}{f:Fm}{b:Nat}(hN:∀ a∈aa,Nm a)(h1:1<=aa.length)(S:Sm aa ts f b)(hl:ts.length<=480):∃ us:LL,TsOk us/\(2<=af / 64 % 4->us=ts)/\∀ (g2:DSt->MS Out) (Ω:Sto),
  eSeq jsb (eSeq jww g2) (d12 ns x1 aa ts f dp af L none none none none) Ω=g2 (d12 ns x1 aa us f dp af L none none none none) Ω:=by
 obtain⟨n0,m0,i0⟩:=jyv h1;obtain⟨nl,ml,il⟩:=jDc h1;have dq:=jce (i:=af) (j:=64) (by decide) (by decide);have m4:=jbz (i:=af / 64) (j:=4) (by decide);generalize af / 64 % 4=q at m4;have t:∀ (k:Int) (us:LL),t2 gEq (f2 gMod (f2 jdf (vR 6) (cI 64)) (cI 4)) (cI k) (d12 ns x1 aa us f dp af L none none none none)=oK (q == k):=fun k us=>by
  simp only[stp,dq,m4];rfl
 by_cases h0:q=0
 ·refine⟨[n0,[42],[40]]++ts++[[41],[42],nl],ts0 S hl (hN _ m0) (hN _ ml),fun h=>by omega,fun g2 Ω=>?_⟩;have c1:=catT (ts:=[n0,[42],[40]]) (us:=ts) (by show 3+_<=_;omega);have c2:=catT (ts:=[n0,[42],[40]]++ts) (us:=[[41],[42],nl]) (by rw[zcc];show 3+_+3<=_;omega);rw[eseq (g1:=jsb) (Y':=d12 ns x1 aa ([n0,[42],[40]]++ts++[[41],[42],nl]) f dp af L none none none none) (Ω':=Ω) (lft (by
   rw[w_if (b:=true) (by rw[t,h0];rfl),if_pos rfl];exact jq1 3 (d:=.lst (nmD ([n0,[42],[40]]++ts++[[41],[42],nl]))) (jll (jll (jnk (jds (jll (x:=.lst (nmD aa)) (y:=.int 0) rfl rfl i0) (jds (x:=.str "*") rfl (jds (x:=.str "(") rfl rfl))) jJa) (y:=.lst (nmD ts)) rfl c1) (jnk (jds (x:=.str ")") rfl (jds (x:=.str "*") rfl (jds (jll (x:=.lst (nmD aa)) (y:=.int (-1)) rfl rfl il) rfl))) jI9) c2)))]
  exact eseq (lft (jlm (by rw[t,h0];rfl)))
 ·have z0:(q == 0)=false:=by rw[beq_eq_false_iff_ne];exact h0
  have s1:∀ (g2:DSt->MS Out) (Ω:Sto),eSeq jsb g2 (d12 ns x1 aa ts f dp af L none none none none) Ω=g2 (d12 ns x1 aa ts f dp af L none none none none) Ω:=fun g2 Ω=>eseq (lft (jlm (by rw[t,z0])))
  by_cases h2:q=1
  ·refine⟨ts++[[43],n0,[42],nl],ts1 S hl (hN _ m0) (hN _ ml),fun h=>by omega,fun g2 Ω=>?_⟩;have c1:=catT (ts:=ts) (us:=[[43],n0,[42],nl]) (by show _+4<=_;omega);rw[s1];exact eseq (lft (by
    rw[w_if (b:=true) (by rw[t,h2];rfl),if_pos rfl];exact jq1 3 (d:=.lst (nmD (ts++[[43],n0,[42],nl]))) (jll (x:=.lst (nmD ts)) rfl (jnk (jds (x:=.str "+") rfl (jds (jll (x:=.lst (nmD aa)) (y:=.int 0) rfl rfl i0) (jds (x:=.str "*") rfl (jds (jll (x:=.lst (nmD aa)) (y:=.int (-1)) rfl rfl il) rfl)))) jJb) c1)))
  ·refine⟨ts,ts2 S hl,fun _=>rfl,fun g2 Ω=>?_⟩;rw[s1];exact eseq (lft (jlm (by rw[t,show (q == 1)=false by rw[beq_eq_false_iff_ne];exact h2])))
def law_true(ns:List Int)(hns:ns.length<=63):∃ Ω,jvq [.lst (ns.map .int)] []=some (.ok (.bl true),Ω):=by
 have w0:=w_at (ns:=ns) (k:=0) (by decide) (by decide);generalize atF ns 0=x0 at w0;have w1:=jq0 (n:=x0) (p:=1) (by decide) (by decide);have r1:=jzf (n:=x0) (p:=1) (by decide) (by decide);generalize mixF x0 1=x1 at w1 r1;have w6:=jq0 (n:=x0) (p:=6) (by decide) (by decide);generalize mixF x0 6=af at w6;obtain⟨aa,e2,hN,hd,h1,h4⟩:=jys r1.1;obtain⟨ts,f,dp,b,e3,S,hl,hb⟩:=jEl (aa:=aa) (ns:=ns) hN hd h1 h4;obtain⟨L,Ll,eL⟩:=jvl (aa:=aa) (af:=af) h4 (some (scr ns)) (oI x1) (oN ts) (of f) (oI dp);obtain⟨us,Uq,hus,eT⟩:=jEk (ns:=ns) (x1:=x1) (dp:=dp) (af:=af) (L:=L) hN h1 S hl;obtain⟨ae,p,x,e4,hx,hseg,hxl⟩:=jto (num:=x1) Uq.len (fun a ha=>(Uq.tok a ha).2) r1.1;have A:Acc (ae.map (·.2)) "beginning" 0:=by rw[hseg];exact Uq.acc
 have jo:ae.length<=100000:=by
  have h1:=congrArg List.length hseg;have h2:=Uq.len;rw[zav] at h1;omega
 have hw:∀ q∈ae,q.2≠[]/\q.2.length<=40:=fun q hq=>Uq.tok q.2 (by rw[<- hseg];exact List.mem_map_of_mem hq)
 have ef:=jx5 (ac:=L) hx hxl A
 let Y (x8 x9 fk cz:Option D):DSt:=d12 ns x1 aa us f dp af L x8 x9 fk cz
 have s1:jA6 [some (scr ns),none,none,none,none,none,none,none,none,none,none,none] []=some (.ok (.nx [some (scr ns),oI x1,none,none,none,none,none,none,none,none,none,none]),[]):=lft (by
  simp only[stpA,w0,w1];rfl)
 have s2:jA7 [some (scr ns),oI x1,none,none,none,none,none,none,none,none,none,none] []=some (.ok (.nx [some (scr ns),oI x1,oN aa,none,none,none,none,none,none,none,none,none]),[]):=lft (by
  simp only[stpA,e2];rfl)
 have s3:jA8 [some (scr ns),oI x1,oN aa,none,none,none,none,none,none,none,none,none] []=some (.ok (.nx [some (scr ns),oI x1,oN aa,oN ts,of f,oI dp,none,none,none,none,none,none]),[]):=lft (by
  rw[jCi];simp only[stpA,e3];rfl)
 have s4:jA9 [some (scr ns),oI x1,oN aa,oN ts,of f,oI dp,none,none,none,none,none,none] []=some (.ok (.nx [some (scr ns),oI x1,oN aa,oN ts,of f,oI dp,oI af,none,none,none,none,none]),[]):=lft (by
  simp only[stpA,w0,w6];rfl)
 have s8:jwx (Y none none none none) []=some (.ok (.nx (Y (oS x) none none none)),[]):=lft (jq1 8 (by
  rw[juv];exact e4))
 have s9:jwy (Y (oS x) none none none) []=some (.ok (.nx (Y (oS x) (some (jp7 (lack L ae 0))) none none)),[]):=lft (jq1 9 (by
  rw[juv];exact ef))
 have go:∀ {r:D} {Ω:Sto},eSeq jji (eSeq jn4 (eSeq jqr (eSeq jqs jqt))) (Y (oS x) (some (jp7 (lack L ae 0))) none none) []=some (.ok (.rt r),Ω)->jvq [.lst (ns.map .int)] []=some (.ok r,Ω):=fun {r Ω} h=>by
  show MS.b (jx9 [some (scr ns),none,none,none,none,none,none,none,none,none,none,none]) outE []=_;refine (MS.b_ok (a:=.rt r) (Ω1:=Ω) ?_).trans rfl;unfold jx9;rw[eseq s1,eseq s2,eseq s3,eseq s4,eL,eT,eseq s8,eseq s9];exact h
 cases hq:lack L ae 0 with
 | some q =>
  have rn:=fun Ω=>jD4 hx hxl A jo hw hq Ω
  have rf:=fun Ω=>js9 Ω (rn Ω)
  rw[hq] at go;refine⟨_,go (r:=.bl true) (Ω:=errs (errs [] false (St q.1) (q.2:Nat)) false (St q.1) (q.2:Nat)) ?_⟩;have mc:∀ Ω,jh8 jdx (lF (jac (fL kList (jac (vR 7) fNil)) (jac (vR 8) (jac (vR 9) fNil)))) (Y (oS x) (some (jp7 (some q))) none none) Ω=some (.ok (.bl true),errs Ω false (St q.1) (q.2:Nat)):=fun Ω=>by
   unfold jh8;rw[MS.b_ok (a:=[.lst (nmD L),.str x,.tup [sT q.1,.int (q.2:Nat)]]) (Ω1:=Ω) (lft rfl)];exact rf Ω
  have rt:jji (Y (oS x) (some (jp7 (some q))) none none) []=some (.ok (.rt (.bl true)),errs (errs [] false (St q.1) (q.2:Nat)) false (St q.1) (q.2:Nat)):=by
   unfold jji;rw[eif (c:=true) (Ω':=[]) rfl,if_pos rfl];unfold eRet jvp;rw[MS.b_ok (a:=.bl true) (Ω1:=errs (errs [] false (St q.1) (q.2:Nat)) false (St q.1) (q.2:Nat)) (by rw[MS.b_ok (mc _)];exact mc _)];rfl
  unfold eSeq;rw[MS.b_ok rt];rfl
 | none =>
  rw[hq] at go;have sk:∀ g2:DSt->MS Out,eSeq jji g2 (Y (oS x) (some .non) none none) []=g2 (Y (oS x) (some .non) none none) []:=fun g2=>eseq (by
   unfold jji;rw[eif (c:=false) (Ω':=[]) rfl,if_neg (by decide)];rfl)
  have dq:=jce (i:=af) (j:=64) (by decide) (by decide);have m4:=jbz (i:=af / 64) (j:=4) (by decide);have t:t2 gLt (f2 gMod (f2 jdf (vR 6) (cI 64)) (cI 4)) (cI 2) (Y (oS x) (some .non) none none)=oK (decide (af / 64 % 4<2)):=by
   simp only[Y,stp,dq,m4];rfl
  by_cases dn:af / 64 % 4<2
  ·rw[decide_eq_true dn] at t;refine⟨[],go (r:=.bl true) (Ω:=[]) ?_⟩;rw[show jp7 none=.non from rfl,sk];unfold eSeq;rw[MS.b_ok (a:=.rt (.bl true)) (Ω1:=[]) (show jn4 _ []=_ from lft (by rw[w_if t,if_pos rfl];rfl))];rfl
  ·rw[decide_eq_false dn] at t;have eus:us=ts:=hus (by omega);subst eus;have SS:jjv aa.length (frmS aa) (WdN aa) (ae.map fun q=>St q.2) f:=by
    have:=S.ok;rw[<- hseg,List.map_map] at this;exact this
   obtain⟨Ω',rd⟩:=jzi (ac:=L) hd (by omega) hx hxl A jo hw hq SS (fun q hq'=>by
    have hm:q.2∈us:=by rw[<- hseg];exact List.mem_map_of_mem hq'
    exact jKa (jBn Uq.acc _ hm) (S.toks _ hm)) []
   obtain⟨y,lp⟩:=jom (ns:=ns) (x1:=x1) (dp:=dp) (af:=af) (ts:=us) (L:=L) (x8:=oS x) (x9:=some .non) h4 S.len L [] none (by show 0+_<=_;omega);rw[List.nil_append,List.map_nil] at lp;refine⟨Ω',go (r:=.bl true) (Ω:=Ω') ?_⟩;rw[show jp7 none=.non from rfl,sk,eseq (g1:=jn4) (Ω':=[]) (lft (jlm t)),eseq (g1:=jqr) (Y':=Y (oS x) (some .non) (oL []) none) (Ω':=[]) (lft (jq1 10 rfl))];rw[eseq (g1:=jqs) (Y':=Y (oS x) (some .non) (oL ((L.map fun l=>cvC l aa f.1).map .int)) y) (Ω':=[]) (lft (by rw[jKg (ds:=nmD L) rfl];exact lp))];have isf:=jve (f:=cv aa L f) (by rw[jjo];omega);have a1:jmj jcg (lF (jac (vR 7) (jac (vR 8) fNil))) (Y (oS x) (some .non) (oL ((L.map fun l=>cvC l aa f.1).map .int)) y) []=some (.ok (fm (cv aa L f)),Ω'):=by
    unfold jmj;rw[show jh8 jcg (lF (jac (vR 7) (jac (vR 8) fNil))) (Y (oS x) (some .non) (oL ((L.map fun l=>cvC l aa f.1).map .int)) y) []=jcg [.lst (nmD L),.str x] [] from rfl,rd]
   have a2:lF (jac (fL jb2 (jac (fL kTuple (jac (vR 10) fNil)) (jac (f2 gIx (vR 4) (cI 1)) fNil))) fNil) (Y (oS x) (some .non) (oL ((L.map fun l=>cvC l aa f.1).map .int)) y) Ω'=some (.ok [fm (cv aa L f)],Ω'):=lft rfl;have a3:jfm (jmj jcg (lF (jac (vR 7) (jac (vR 8) fNil)))) (lF (jac (fL jb2 (jac (fL kTuple (jac (vR 10) fNil)) (jac (f2 gIx (vR 4) (cI 1)) fNil))) fNil)) (Y (oS x) (some .non) (oL ((L.map fun l=>cvC l aa f.1).map .int)) y) []=some (.ok [fm (cv aa L f),fm (cv aa L f)],Ω'):=by
    unfold jfm;rw[MS.b_ok a1,MS.b_ok a2];rfl
   unfold jqt eRet;rw[MS.b_ok (a:=.bl true) (Ω1:=Ω') (by rw[jqu,s_b,a3,jho,isf];rfl)];rfl
end
end MyLaw
end
set_option maxRecDepth 100000 in
set_option maxHeartbeats 0 in
theorem PySem.Challenge.cw_apartbook_k03_names_that_lack_holds : PySem.Challenge.rw_apartbook_k03_names_that_lack.Holds := by
 w_on;o_law;z_head;(case hw=>w_witness2)
 k_fill
 refine MyLaw.walkZ (l:=PySem.Challenge.rw_apartbook_k03_names_that_lack) (fun P=>rfl) rfl rfl ?F MyLaw.law_true
 case F =>
  intro w mg fa h KX G hmg
  refine' ⟨?T,hmg⟩
  case T =>
   refine' MyLaw.txt_mk KX G ?ca_OpenSum ?cp_OpenSum ?cq_OpenSum ?cr_OpenSum ?cs_OpenSum ?cf0_OpenSum ?cf1_OpenSum ?cf2_OpenSum ?cf3_OpenSum ?ca_BookError ?ca_Broken ?ca_Folded ?ca_NoBook ?ca_NoDeed ?ca_NoLine ?ca_NoName ?ca_NoPaper ?ca_NoRule ?ca_NoText ?ca_NotPlain ?ca_OutOfRange ?ca_ShortShare ?tab ?tab2 ?h0 ?h1 ?h2 ?h3 ?h4 ?h5 ?h6 ?h7 ?h8 ?h9 ?h10 ?h11 ?h12 ?h13 ?h14 ?h15 ?h16 ?h17 ?h18 ?h19 ?a20 ?b20 ?l20 ?c20 ?k20 ?a21 ?b21 ?i21 ?j21 ?l21 ?c21 ?k21 ?h22 ?h23 ?h24 ?a25 ?b25 ?l25 ?c25 ?k25 ?h26 ?a27 ?b27 ?l27 ?c27 ?k27 ?a28 ?b28 ?l28 ?c28 ?k28 ?h29 ?h30 ?h31 ?h32 ?h33 ?h34 ?h35 ?h36 ?h37 ?y0 ?y1 ?y2 ?y3 ?y4 ?y5 ?z0 ?z1 ?z2 ?z3 ?z4 ?z5 ?z6 ?z7 ?z8 ?z9 ?z10 ?z11 ?z12
   (case ca_OpenSum=>k_is);(case cp_OpenSum=>k_is);(case cq_OpenSum=>k_is);(case cr_OpenSum=>k_is);(case cs_OpenSum=>k_is);(case cf0_OpenSum=>k_is);(case cf1_OpenSum=>k_is);(case cf2_OpenSum=>k_is)
   (case cf3_OpenSum=>k_is);(case ca_BookError=>k_is);(case ca_Broken=>k_is);(case ca_Folded=>k_is);(case ca_NoBook=>k_is);(case ca_NoDeed=>k_is);(case ca_NoLine=>k_is);(case ca_NoName=>k_is)
   (case ca_NoPaper=>k_is);(case ca_NoRule=>k_is);(case ca_NoText=>k_is);(case ca_NotPlain=>k_is);(case ca_OutOfRange=>k_is);(case ca_ShortShare=>k_is);(case tab=>kernel_rfl);(case tab2=>kernel_rfl)
   (case a20=>k_is);(case b20=>k_is);(case l20=>k_is);(case c20=>k_is);(case k20=>k_is);(case a21=>k_is);(case b21=>k_is);(case i21=>k_is)
   (case j21=>k_is);(case l21=>k_is);(case c21=>k_is);(case k21=>k_is);(case a25=>k_is);(case b25=>k_is);(case l25=>k_is);(case c25=>k_is)
   (case k25=>k_is);(case a27=>k_is);(case b27=>k_is);(case l27=>k_is);(case c27=>k_is);(case k27=>k_is);(case a28=>k_is);(case b28=>k_is)
   (case l28=>k_is);(case c28=>k_is);(case k28=>k_is);(case y0=>k_is);(case y1=>k_is);(case y2=>k_is);(case y3=>k_is);(case y4=>k_is)
   (case y5=>k_is);(case z0=>k_is);(case z1=>k_is);(case z2=>k_is);(case z3=>k_is);(case z4=>k_is);(case z5=>k_is);(case z6=>k_is)
   (case z7=>k_is);(case z8=>k_is);(case z9=>k_is);(case z10=>k_is);(case z11=>k_is);(case z12=>k_is)
   all_goals (refine' .mk ?a ?l ?c ?k;(case a=>k_is);(case l=>k_is);(case c=>k_is);(case k=>k_is))