
import Derived.Test.YtapfankgdkdkgaaGreatDoorMn19
import Derived.Test.YtapfankgdkdkgaaGreatDoorMn20
namespace Go.Proofs.YtapfankgdkdkgaaGreatDoor.AM
open Go.RowKit
set_option linter.unusedVariables false
set_option maxRecDepth 20000
def qrn (n:Nat):List LC:=[]
def q4v (n:Nat) (a1:List UInt8):Option (((List UInt8)×((List UInt8)×((List (List UInt8×((Int)×((Int)×((Int)×(List UInt8×(List UInt8)))))))×((List (List UInt8×(List UInt8)))×((List (List UInt8×((Int)×((Int)×((Int)×(List UInt8×(List UInt8)))))))×(List ((Int)×((Int)×((Int)×(List UInt8×(List UInt8×((Int)×((Int)×((Int)×(List UInt8×(List UInt8))))))))))))))))×(Int×(Int))) :=
 qpo (qb9 n a1) (fun (r1:(Unit×(IV))×(((List UInt8)×((List UInt8)×(Unit×(Unit×(Unit×(Unit×(Int×(Int×((List UInt8)×(Unit×(Unit)))))))))))×((List (List UInt8×(List (List UInt8)×((Bool)×(IV)))))×((List ((List UInt8×(List UInt8×((Int)×((Int)×((Int)×(List UInt8×(List UInt8)))))))×((Int)×(Int))))×(Unit))))×((List (List UInt8×((Int)×((Int)×((Int)×(List UInt8×(List UInt8)))))))×((List (List UInt8×(List UInt8)))×((List (List UInt8×((Int)×((Int)×((Int)×(List UInt8×(List UInt8)))))))×((List ((Int)×((Int)×((Int)×(List UInt8×(List UInt8×((Int)×((Int)×((Int)×(List UInt8×(List UInt8)))))))))))×(Unit))))))=>(q3j (Subtype.val r1.1.2)).bind fun (hb2:Bool)=>(bif !hb2 then (qud r1.1.2).bind fun (r3:Int×(Int))=>some ((([]:List UInt8),(([]:List UInt8),([],([],([],[]))))),r3) else some ((r1.2.1.1.1,(r1.2.1.1.2.1,(r1.2.2.1,(r1.2.2.2.1,(r1.2.2.2.2.1,r1.2.2.2.2.2.1))))),(r1.2.1.1.2.2.2.2.2.2.1,(0:Int))))) ((qdp n a1).bind fun (r4:IV×(IV))=>(q3j (Subtype.val r4.2)).bind fun (hb5:Bool)=>(bif !hb5 then (qud r4.2).bind fun (r6:Int×(Int))=>some ((([]:List UInt8),(([]:List UInt8),([],([],([],[]))))),r6) else none))
def q5a (n:Nat):FC:={ f:=16,args:=[.one (.c (.d .str))],res:=.tup [.agg [.d .str,.d .str,.d (.lst (.prod .str (.prod (.int .i64) (.prod (.int .i64) (.prod (.int .i64) (.prod .str .str)))))),.d (.lst (.prod .str .str)),.d (.lst (.prod .str (.prod (.int .i64) (.prod (.int .i64) (.prod (.int .i64) (.prod .str .str)))))),.d (.lst (.prod (.int .i64) (.prod (.int .i64) (.prod (.int .i64) (.prod .str (.prod .str (.prod (.int .i64) (.prod (.int .i64) (.prod (.int .i64) (.prod .str .str))))))))))],.c (.d (.int .i64)),.c (.d (.int .i64))],F:=fun p=>q4v n p }
def qxy (n:Nat):List FC:=[j4w (q29 n) [] [(44,11),(1044,1011),(2044,2011),(3044,3011)] [(29,11),(26,1011),(27,2011)],j6d,q77 n]
theorem j3y (n:Nat) {G:World->Prop} (hG:Know Inv G) : ∀c∈qxy n,q0y Tryz.prog G c/\q09 c.args=true:=List.forall_mem_cons.2 ⟨j77 (qse n G hG),List.forall_mem_cons.2 ⟨jjr G hG,List.forall_mem_cons.2 ⟨j0w n G hG,(fun _ h=>by cases h)⟩⟩⟩
def j04:q08:=[(5,[⟨28334198897235051184128,2^72,0⟩,⟨13469017440257*2^34,2^75,1⟩,⟨107752139522049*2^34,2^78,3⟩,⟨862017116176385*2^34,2^81,7⟩,⟨116056878683004417951694848,2^84,0⟩,⟨55169095435288577*2^34,2^87,16⟩,⟨441352763482308609*2^34,2^90,48⟩,⟨3530822107858468865*2^34,2^93,112⟩,⟨63975078001172785699595083761656459625154462486552420152755668189454205310145231665361909728988203846127464659584632570591882863147988612686098388825205459952577415643361923577194176540294441230030204330554816361762580036855539214046979042325413363925334353010373052454148503153882388735634505632984823914257227860927385419819545690843044525663354377814301668391133744615720844253665637376428345383085805882352021463613448566615853155714661322016337867450806562938145655069565680061966678409365314206017397805514718192935986593406391324337309512466383195727130788302946512340244429621911298897954896825665961532052337379856960518872276773097627748011167723302515212826264489956188759331178405026965916060520460010675700491799418752566584212753114833955042623952495244446606691991286833485170775938613069576516635512464114091057369147037248478858510924793020482280934356656627542436445151545759530299686486874566919193340452192166397152647131286179499825736482847408367404442387092685458094123574769780442370636570635186748030706898742036218878368049810931042713657238527157684785650646588984110156142607753344014264965311306895995445871126701092255179379452262992958430755870350944801606234644772930007415765758727811336074316555096701945325116458828129664619723992579897789605312484334322215157666843607578793756371580130920214739434093409529372723099281400835550219551118344498052710376393548457573821733829868970366279183608651366990059185723245772591829078895289395480089452627631551848570139613168342000649128549142914647579858599058426593711659660114293554671553345697623569953373402756383904396699819934755063209258219985046632890132163094516253799540889779712458662518126035170975059443979520809580398357678880052443106687024664064053298265031552090599964126695733730172391253125913919661980921284841465816997953139127005393825708689362230605955623354801402692345866845887237289181488062488781954609689126408130295766596393869390434411592695853114403934956877843818801462825714440271603816339076012480983577321878710139385107146932348864306974253321189501249421224461187792674631231308095129495683639475398606215788535894605407471870420883857091208036746525653757999344034426463921356486661732436055374422719246551646470150051551038948545812619424376099243902843857446806039479306179861353096289952016886050986935705636897246065879281119692154342240075006643032671968842572441423024216979651629730437770184092748500658724415741277097505364551909406178898760450852224071881519788310640830300635308982002732587773381496087038957290339791930679123606405727191795367237488684160822662807581390954065273399160134750470192531808209176994051395371460370223618158210615140839448487454387038131805806747260304611107406016,128,15⟩,⟨9903520314283042199192996864,512,511⟩,⟨24576,4096,1023⟩])]
theorem jdr:drB j04 (q00 Tryz.f16)=true:=by kernel_rfl
theorem jc1 (n:Nat) : ∀a,(q5a n).F a=main Tryz.prog 32 (qxy n) (qrn n) j04 (q00 Tryz.f16) [.cell 2 35,.tmp 3,.tmp 4] (q5a n).args (q5a n).res a:=by intro a;kernel_rfl
theorem qln (n:Nat):q0d Inv Tryz.prog (q5a n):=fun G hG=>⟨⟨by kernel_rfl,fun a r h=>q04 (c:=q00 Tryz.f16) Tryz.func16 (by kernel_rfl) (by kernel_rfl) (Nat.le_of_ble_eq_true (by kernel_rfl)) hG.st (by kernel_rfl) (rs:=[.cell 2 35,.tmp 3,.tmp 4]) (by kernel_rfl) (j3y n hG) (lts:=qrn n) (fun F hF hFG=>have hK:Know Inv F.G:=hFG ▸ hG;(q02 fun j L h1 h2 h3=>absurd h2 (Nat.not_lt.2 (Nat.le_trans (by decide +kernel) h1)))) jdr ((jc1 n a).symm.trans h)⟩,rfl⟩
def qsf (n:Nat):List LC:=[]
def qtp (n:Nat) (a1:List UInt8) (a2:List UInt8):Option (Int×(Int×(Bool))) :=
 qpo (qb9 n a1) (fun (r1:(Unit×(IV))×(((List UInt8)×((List UInt8)×(Unit×(Unit×(Unit×(Unit×(Int×(Int×((List UInt8)×(Unit×(Unit)))))))))))×((List (List UInt8×(List (List UInt8)×((Bool)×(IV)))))×((List ((List UInt8×(List UInt8×((Int)×((Int)×((Int)×(List UInt8×(List UInt8)))))))×((Int)×(Int))))×(Unit))))×((List (List UInt8×((Int)×((Int)×((Int)×(List UInt8×(List UInt8)))))))×((List (List UInt8×(List UInt8)))×((List (List UInt8×((Int)×((Int)×((Int)×(List UInt8×(List UInt8)))))))×((List ((Int)×((Int)×((Int)×(List UInt8×(List UInt8×((Int)×((Int)×((Int)×(List UInt8×(List UInt8)))))))))))×(Unit))))))=>(q3j (Subtype.val r1.1.2)).bind fun (hb2:Bool)=>(bif !hb2 then some ((0:Int),((0:Int),false)) else je8 (q0c (.prod .str (.prod .str (.prod (.int .i64) (.prod (.int .i64) (.prod (.int .i64) (.prod .str .str)))))) (([114,101,113,117,105,114,101]:List UInt8),(a2,((0:Int),((0:Int),((0:Int),(([]:List UInt8),([]:List UInt8))))))) r1.2.1.2.2.1) ((0:Int),(0:Int)) fun (y3:(Int)×(Int)) (hb4:Bool)=>some (y3.1,(y3.2,hb4)))) ((qdp n a1).bind fun (r5:IV×(IV))=>(q3j (Subtype.val r5.2)).bind fun (hb6:Bool)=>(bif !hb6 then some ((0:Int),((0:Int),false)) else none))
def qa4 (n:Nat):FC:={ f:=19,args:=[.one (.c (.d .str)),.one (.c (.d .str))],res:=.tup [.c (.d (.int .i64)),.c (.d (.int .i64)),.c (.d .bool)],F:=fun p=>qtp n p.1 p.2 }
def qxw (n:Nat):List FC:=[j4w (q29 n) [] [(44,13),(1044,1013),(2044,2013),(3044,3013)] [(29,13),(26,1013),(27,2013)],q77 n]
theorem j1y (n:Nat) {G:World->Prop} (hG:Know Inv G) : ∀c∈qxw n,q0y Tryz.prog G c/\q09 c.args=true:=List.forall_mem_cons.2 ⟨j77 (qse n G hG),List.forall_mem_cons.2 ⟨j0w n G hG,(fun _ h=>by cases h)⟩⟩
def j0l:q08:=[(5,[⟨864691128455135235*2^27,2^84,0⟩,⟨3530822107858468865*2^28,2^87,1⟩,⟨55340232221128654851*2^27,2^90,0⟩,⟨225972614902942007297*2^28,2^93,4⟩,⟨442721857769029238785*2^30,2^96,0⟩,⟨154742504910672534362415104,4096,3⟩,⟨9903520314283042199193190400,32768,47⟩,⟨79228162514264337593545523200,2^18,127⟩])]
theorem jfw:drB j0l (q00 Tryz.f19)=true:=by kernel_rfl
theorem je3 (n:Nat) : ∀a,(qa4 n).F a=main Tryz.prog 33 (qxw n) (qsf n) j0l (q00 Tryz.f19) [.tmp 4,.tmp 5,.tmp 6] (qa4 n).args (qa4 n).res a:=by intro a;kernel_rfl
theorem jgi (n:Nat):q0d Inv Tryz.prog (qa4 n):=fun G hG=>⟨⟨by kernel_rfl,fun a r h=>q04 (c:=q00 Tryz.f19) Tryz.func19 (by kernel_rfl) (by kernel_rfl) (Nat.le_of_ble_eq_true (by kernel_rfl)) hG.st (by kernel_rfl) (rs:=[.tmp 4,.tmp 5,.tmp 6]) (by kernel_rfl) (j1y n hG) (lts:=qsf n) (fun F hF hFG=>have hK:Know Inv F.G:=hFG ▸ hG;(q02 fun j L h1 h2 h3=>absurd h2 (Nat.not_lt.2 (Nat.le_trans (by decide +kernel) h1)))) jfw ((je3 n a).symm.trans h)⟩,rfl⟩
def qzm (n:Nat):List LC:=[]
def qco (n:Nat) (a1:List (List UInt8)):Option (List UInt8) :=
 (qc1 a1 ([32]:List UInt8)).bind fun (r1:List UInt8)=>(qbu r1 ([10]:List UInt8)).bind fun (s2:List UInt8)=>some s2
def qdq (n:Nat):FC:={ f:=59,args:=[.one (.c (.d (.lst .str)))],res:=.one (.c (.d .str)),F:=fun p=>qco n p }
def j5q (n:Nat):List FC:=[qtv]
theorem j9w (n:Nat) {G:World->Prop} (hG:Know Inv G) : ∀c∈j5q n,q0y Tryz.prog G c/\q09 c.args=true:=List.forall_mem_cons.2 ⟨j4j G hG,(fun _ h=>by cases h)⟩
def j5k:q08:=[]
theorem ji4:drB j5k (q00 Tryz.f59)=true:=by kernel_rfl
theorem ji6 (n:Nat) : ∀a,(qdq n).F a=main Tryz.prog 6 (j5q n) (qzm n) j5k (q00 Tryz.f59) [.tmp 2] (qdq n).args (qdq n).res a:=by intro a;kernel_rfl
theorem jkl (n:Nat):q0d Inv Tryz.prog (qdq n):=fun G hG=>⟨⟨by kernel_rfl,fun a r h=>q04 (c:=q00 Tryz.f59) Tryz.func59 (by kernel_rfl) (by kernel_rfl) (Nat.le_of_ble_eq_true (by kernel_rfl)) hG.st (by kernel_rfl) (rs:=[.tmp 2]) (by kernel_rfl) (j9w n hG) (lts:=qzm n) (fun F hF hFG=>have hK:Know Inv F.G:=hFG ▸ hG;(q02 fun j L h1 h2 h3=>absurd h2 (Nat.not_lt.2 (Nat.le_trans (by decide +kernel) h1)))) ji4 ((ji6 n a).symm.trans h)⟩,rfl⟩
def qsh (n:Nat):List LC:=[]
def j5m (n:Nat) (a1:Int×(Int×(Int×((List UInt8)×((List UInt8)×(Int×(Int×(Int×((List UInt8)×(List UInt8)))))))))):Option (List UInt8) :=
 (bif (decide (a1.1=a1.2.2.2.2.2.1)&&(decide (a1.2.1=a1.2.2.2.2.2.2.1)&&(decide (a1.2.2.1=a1.2.2.2.2.2.2.2.1)&&(decide (a1.2.2.2.1=a1.2.2.2.2.2.2.2.2.1)&&(decide (a1.2.2.2.2.1=a1.2.2.2.2.2.2.2.2.2)&&true))))) then (q8f n (a1.1,(a1.2.1,(a1.2.2.1,(a1.2.2.2.1,a1.2.2.2.2.1))))).bind fun (r1:List UInt8)=>some r1 else (q8f n (a1.1,(a1.2.1,(a1.2.2.1,(a1.2.2.2.1,a1.2.2.2.2.1))))).bind fun (r2:List UInt8)=>(qbu ([91]:List UInt8) r2).bind fun (s3:List UInt8)=>(qbu s3 ([44,32]:List UInt8)).bind fun (s4:List UInt8)=>(q8f n a1.2.2.2.2.2).bind fun (r5:List UInt8)=>(qbu s4 r5).bind fun (s6:List UInt8)=>(qbu s6 ([93]:List UInt8)).bind fun (s7:List UInt8)=>some s7)
def q9j (n:Nat):FC:={ f:=60,args:=[.one (.agg [.d (.int .i64),.d (.int .i64),.d (.int .i64),.d .str,.d .str,.d (.int .i64),.d (.int .i64),.d (.int .i64),.d .str,.d .str])],res:=.one (.c (.d .str)),F:=fun p=>j5m n p }
def qwp (n:Nat):List FC:=[q7q n]
theorem j2x (n:Nat) {G:World->Prop} (hG:Know Inv G) : ∀c∈qwp n,q0y Tryz.prog G c/\q09 c.args=true:=List.forall_mem_cons.2 ⟨quw n G hG,(fun _ h=>by cases h)⟩
def j00:q08:=[(3,[⟨51539607576,2^33,0⟩,⟨420906795024,2^36,1⟩,⟨49*2^36,2^39,3⟩,⟨49*2^39,2^42,7⟩,⟨49*2^42,2^45,15⟩,⟨1688849860263960,2^48,0⟩,⟨13792273858822160,2^51,32⟩,⟨49*2^51,2^54,103⟩,⟨25089*2^45,2^57,255⟩,⟨49*2^57,2^60,511⟩,⟨1152921504606847360,64,1023⟩]),(1000003,[])]
theorem jbx:drB j00 (q00 Tryz.f60)=true:=by kernel_rfl
theorem jf9 (n:Nat) : ∀a,(q9j n).F a=main Tryz.prog 21 (qwp n) (qsh n) j00 (q00 Tryz.f60) [.tmp 2] (q9j n).args (q9j n).res a:=by intro a;kernel_rfl
theorem jg5 (n:Nat):q0d Inv Tryz.prog (q9j n):=fun G hG=>⟨⟨by kernel_rfl,fun a r h=>q04 (c:=q00 Tryz.f60) Tryz.func60 (by kernel_rfl) (by kernel_rfl) (Nat.le_of_ble_eq_true (by kernel_rfl)) hG.st (by kernel_rfl) (rs:=[.tmp 2]) (by kernel_rfl) (j2x n hG) (lts:=qsh n) (fun F hF hFG=>have hK:Know Inv F.G:=hFG ▸ hG;(q02 fun j L h1 h2 h3=>absurd h2 (Nat.not_lt.2 (Nat.le_trans (by decide +kernel) h1)))) jbx ((jf9 n a).symm.trans h)⟩,rfl⟩
@[reducible] def qje:SSt:=⟨[(3,.one (.c (.row 16))),(81,.one (.c (.d (.lst (.prod (.int .i64) (.prod (.int .i64) (.prod (.int .i64) (.prod .str (.prod .str (.prod (.int .i64) (.prod (.int .i64) (.prod (.int .i64) (.prod .str .str))))))))))))),(82,.one (.c (.d (.int .i64)))),(83,.one (.c (.d (.int .i64))))],[],[(16,⟨9,false,.str⟩)]⟩
@[reducible] def qaz:List (Exit×SSt):=[(.exit 6,⟨[(3,.one (.c (.row 16)))],[],[(16,⟨9,false,.str⟩)]⟩)]
def jms (n:Nat) (rec:(List ((Int)×((Int)×((Int)×(List UInt8×(List UInt8×((Int)×((Int)×((Int)×(List UInt8×(List UInt8)))))))))))->Int->Int->(List (List UInt8))->Option ((Unit×(Unit))×(Unit)×((List (List UInt8))×(Unit)))) (a1:List ((Int)×((Int)×((Int)×(List UInt8×(List UInt8×((Int)×((Int)×((Int)×(List UInt8×(List UInt8))))))))))) (a2:Int) (a3:Int) (a4:List (List UInt8)):Option ((Unit×(Unit))×(Unit)×((List (List UInt8))×(Unit))) :=
 (bif decide (a3<a2) then (q1g a1 a3).bind fun (x21:(Int)×((Int)×((Int)×(List UInt8×(List UInt8×((Int)×((Int)×((Int)×(List UInt8×(List UInt8))))))))))=>(j5m n x21).bind fun (r22:List UInt8)=>(qco n ([([114,101,116,114,97,99,116]:List UInt8),r22]:List (List UInt8))).bind fun (r23:List UInt8)=>(q35 16 a4 ([r23]:List (List UInt8))).bind fun (l24:List (List UInt8))=>q0b (IntKind.wrap .i64 (a3+(1:Int))) fun (n25:Int)=>rec a1 a2 n25 l24 else some ((((),()),((),(a4,())))))
def j4o (n:Nat) (rec:pSt qje->Option (q0h qaz)) (p:pSt qje):Option (q0h qaz):=jms n (fun a1 a2 a3 a4=>rec (((),(a1,(a2,(a3,())))),((),(a4,())))) p.1.2.1 p.1.2.2.1 p.1.2.2.2.1 p.2.2.1
def qsk (n m:Nat) (a1:List ((Int)×((Int)×((Int)×(List UInt8×(List UInt8×((Int)×((Int)×((Int)×(List UInt8×(List UInt8))))))))))) (a2:Int) (a3:Int) (a4:List (List UInt8)):Option ((Unit×(Unit))×(Unit)×((List (List UInt8))×(Unit))):=q0i (j4o n) m (((),(a1,(a2,(a3,())))),((),(a4,())))
def jdy (n:Nat):LC:={ sh:=qje,outs:=qaz,F:=q0i (j4o n) n }
@[reducible] def qjz:SSt:=⟨[(1,.one (.c (.box 1 0))),(3,.one (.c (.row 16))),(63,.one (.c (.d (.lst (.prod .str (.prod (.int .i64) (.prod (.int .i64) (.prod (.int .i64) (.prod .str .str))))))))),(64,.one (.c (.d (.int .i64)))),(65,.one (.c (.d (.int .i64))))],[(1,(35,[.d .str,.d .str,.d (.lst (.prod .str (.prod (.int .i64) (.prod (.int .i64) (.prod (.int .i64) (.prod .str .str)))))),.d (.lst (.prod .str .str)),.d (.lst (.prod .str (.prod (.int .i64) (.prod (.int .i64) (.prod (.int .i64) (.prod .str .str)))))),.d (.lst (.prod (.int .i64) (.prod (.int .i64) (.prod (.int .i64) (.prod .str (.prod .str (.prod (.int .i64) (.prod (.int .i64) (.prod (.int .i64) (.prod .str .str))))))))))]))],[(16,⟨9,false,.str⟩)]⟩
@[reducible] def qal:List (Exit×SSt):=[(.exit 4,⟨[(1,.one (.c (.box 1 0))),(3,.one (.c (.row 16)))],[(1,(35,[.d .str,.d .str,.d (.lst (.prod .str (.prod (.int .i64) (.prod (.int .i64) (.prod (.int .i64) (.prod .str .str)))))),.d (.lst (.prod .str .str)),.d (.lst (.prod .str (.prod (.int .i64) (.prod (.int .i64) (.prod (.int .i64) (.prod .str .str)))))),.d (.lst (.prod (.int .i64) (.prod (.int .i64) (.prod (.int .i64) (.prod .str (.prod .str (.prod (.int .i64) (.prod (.int .i64) (.prod (.int .i64) (.prod .str .str))))))))))]))],[(16,⟨9,false,.str⟩)]⟩)]
def jpi (n:Nat) (rec:(List (List UInt8×((Int)×((Int)×((Int)×(List UInt8×(List UInt8)))))))->Int->Int->(List UInt8)->(List UInt8)->(List (List UInt8×((Int)×((Int)×((Int)×(List UInt8×(List UInt8)))))))->(List (List UInt8×(List UInt8)))->(List (List UInt8×((Int)×((Int)×((Int)×(List UInt8×(List UInt8)))))))->(List ((Int)×((Int)×((Int)×(List UInt8×(List UInt8×((Int)×((Int)×((Int)×(List UInt8×(List UInt8)))))))))))->(List (List UInt8))->Option ((Unit×(Unit×(Unit)))×(((List UInt8)×((List UInt8)×((List (List UInt8×((Int)×((Int)×((Int)×(List UInt8×(List UInt8)))))))×((List (List UInt8×(List UInt8)))×((List (List UInt8×((Int)×((Int)×((Int)×(List UInt8×(List UInt8)))))))×(List ((Int)×((Int)×((Int)×(List UInt8×(List UInt8×((Int)×((Int)×((Int)×(List UInt8×(List UInt8))))))))))))))))×(Unit))×((List (List UInt8))×(Unit)))) (a1:List (List UInt8×((Int)×((Int)×((Int)×(List UInt8×(List UInt8))))))) (a2:Int) (a3:Int) (a4:List UInt8) (a5:List UInt8) (a6:List (List UInt8×((Int)×((Int)×((Int)×(List UInt8×(List UInt8))))))) (a7:List (List UInt8×(List UInt8))) (a8:List (List UInt8×((Int)×((Int)×((Int)×(List UInt8×(List UInt8))))))) (a9:List ((Int)×((Int)×((Int)×(List UInt8×(List UInt8×((Int)×((Int)×((Int)×(List UInt8×(List UInt8))))))))))) (a10:List (List UInt8)):Option ((Unit×(Unit×(Unit)))×(((List UInt8)×((List UInt8)×((List (List UInt8×((Int)×((Int)×((Int)×(List UInt8×(List UInt8)))))))×((List (List UInt8×(List UInt8)))×((List (List UInt8×((Int)×((Int)×((Int)×(List UInt8×(List UInt8)))))))×(List ((Int)×((Int)×((Int)×(List UInt8×(List UInt8×((Int)×((Int)×((Int)×(List UInt8×(List UInt8))))))))))))))))×(Unit))×((List (List UInt8))×(Unit))) :=
 (bif decide (a3<a2) then (q1g a1 a3).bind fun (x15:List UInt8×((Int)×((Int)×((Int)×(List UInt8×(List UInt8))))))=>(q8f n x15.2).bind fun (r16:List UInt8)=>(qco n ([([101,120,99,108,117,100,101]:List UInt8),x15.1,r16]:List (List UInt8))).bind fun (r17:List UInt8)=>(q35 16 a10 ([r17]:List (List UInt8))).bind fun (l18:List (List UInt8))=>q0b (IntKind.wrap .i64 (a3+(1:Int))) fun (n19:Int)=>rec a1 a2 n19 a4 a5 a6 a7 a8 a9 l18 else some ((((),((),())),(((a4,(a5,(a6,(a7,(a8,a9))))),()),(a10,())))))
def j21 (n:Nat) (rec:pSt qjz->Option (q0h qal)) (p:pSt qjz):Option (q0h qal):=jpi n (fun a1 a2 a3 a4 a5 a6 a7 a8 a9 a10=>rec (((),((),(a1,(a2,(a3,()))))),(((a4,(a5,(a6,(a7,(a8,a9))))),()),(a10,())))) p.1.2.2.1 p.1.2.2.2.1 p.1.2.2.2.2.1 p.2.1.1.1 p.2.1.1.2.1 p.2.1.1.2.2.1 p.2.1.1.2.2.2.1 p.2.1.1.2.2.2.2.1 p.2.1.1.2.2.2.2.2 p.2.2.1
def qrz (n m:Nat) (a1:List (List UInt8×((Int)×((Int)×((Int)×(List UInt8×(List UInt8))))))) (a2:Int) (a3:Int) (a4:List UInt8) (a5:List UInt8) (a6:List (List UInt8×((Int)×((Int)×((Int)×(List UInt8×(List UInt8))))))) (a7:List (List UInt8×(List UInt8))) (a8:List (List UInt8×((Int)×((Int)×((Int)×(List UInt8×(List UInt8))))))) (a9:List ((Int)×((Int)×((Int)×(List UInt8×(List UInt8×((Int)×((Int)×((Int)×(List UInt8×(List UInt8))))))))))) (a10:List (List UInt8)):Option ((Unit×(Unit×(Unit)))×(((List UInt8)×((List UInt8)×((List (List UInt8×((Int)×((Int)×((Int)×(List UInt8×(List UInt8)))))))×((List (List UInt8×(List UInt8)))×((List (List UInt8×((Int)×((Int)×((Int)×(List UInt8×(List UInt8)))))))×(List ((Int)×((Int)×((Int)×(List UInt8×(List UInt8×((Int)×((Int)×((Int)×(List UInt8×(List UInt8))))))))))))))))×(Unit))×((List (List UInt8))×(Unit))):=q0i (j21 n) m (((),((),(a1,(a2,(a3,()))))),(((a4,(a5,(a6,(a7,(a8,a9))))),()),(a10,())))
def jdz (n:Nat):LC:={ sh:=qjz,outs:=qal,F:=q0i (j21 n) n }
@[reducible] def qk1:SSt:=⟨[(1,.one (.c (.box 1 0))),(3,.one (.c (.row 16))),(46,.one (.c (.d (.lst (.prod .str .str))))),(47,.one (.c (.d (.int .i64)))),(48,.one (.c (.d (.int .i64))))],[(1,(35,[.d .str,.d .str,.d (.lst (.prod .str (.prod (.int .i64) (.prod (.int .i64) (.prod (.int .i64) (.prod .str .str)))))),.d (.lst (.prod .str .str)),.d (.lst (.prod .str (.prod (.int .i64) (.prod (.int .i64) (.prod (.int .i64) (.prod .str .str)))))),.d (.lst (.prod (.int .i64) (.prod (.int .i64) (.prod (.int .i64) (.prod .str (.prod .str (.prod (.int .i64) (.prod (.int .i64) (.prod (.int .i64) (.prod .str .str))))))))))]))],[(16,⟨9,false,.str⟩)]⟩
@[reducible] def qb1:List (Exit×SSt):=[(.exit 2,⟨[(1,.one (.c (.box 1 0))),(3,.one (.c (.row 16)))],[(1,(35,[.d .str,.d .str,.d (.lst (.prod .str (.prod (.int .i64) (.prod (.int .i64) (.prod (.int .i64) (.prod .str .str)))))),.d (.lst (.prod .str .str)),.d (.lst (.prod .str (.prod (.int .i64) (.prod (.int .i64) (.prod (.int .i64) (.prod .str .str)))))),.d (.lst (.prod (.int .i64) (.prod (.int .i64) (.prod (.int .i64) (.prod .str (.prod .str (.prod (.int .i64) (.prod (.int .i64) (.prod (.int .i64) (.prod .str .str))))))))))]))],[(16,⟨9,false,.str⟩)]⟩)]
def jpc (n:Nat) (rec:(List (List UInt8×(List UInt8)))->Int->Int->(List UInt8)->(List UInt8)->(List (List UInt8×((Int)×((Int)×((Int)×(List UInt8×(List UInt8)))))))->(List (List UInt8×(List UInt8)))->(List (List UInt8×((Int)×((Int)×((Int)×(List UInt8×(List UInt8)))))))->(List ((Int)×((Int)×((Int)×(List UInt8×(List UInt8×((Int)×((Int)×((Int)×(List UInt8×(List UInt8)))))))))))->(List (List UInt8))->Option ((Unit×(Unit×(Unit)))×(((List UInt8)×((List UInt8)×((List (List UInt8×((Int)×((Int)×((Int)×(List UInt8×(List UInt8)))))))×((List (List UInt8×(List UInt8)))×((List (List UInt8×((Int)×((Int)×((Int)×(List UInt8×(List UInt8)))))))×(List ((Int)×((Int)×((Int)×(List UInt8×(List UInt8×((Int)×((Int)×((Int)×(List UInt8×(List UInt8))))))))))))))))×(Unit))×((List (List UInt8))×(Unit)))) (a1:List (List UInt8×(List UInt8))) (a2:Int) (a3:Int) (a4:List UInt8) (a5:List UInt8) (a6:List (List UInt8×((Int)×((Int)×((Int)×(List UInt8×(List UInt8))))))) (a7:List (List UInt8×(List UInt8))) (a8:List (List UInt8×((Int)×((Int)×((Int)×(List UInt8×(List UInt8))))))) (a9:List ((Int)×((Int)×((Int)×(List UInt8×(List UInt8×((Int)×((Int)×((Int)×(List UInt8×(List UInt8))))))))))) (a10:List (List UInt8)):Option ((Unit×(Unit×(Unit)))×(((List UInt8)×((List UInt8)×((List (List UInt8×((Int)×((Int)×((Int)×(List UInt8×(List UInt8)))))))×((List (List UInt8×(List UInt8)))×((List (List UInt8×((Int)×((Int)×((Int)×(List UInt8×(List UInt8)))))))×(List ((Int)×((Int)×((Int)×(List UInt8×(List UInt8×((Int)×((Int)×((Int)×(List UInt8×(List UInt8))))))))))))))))×(Unit))×((List (List UInt8))×(Unit))) :=
 (bif decide (a3<a2) then (q1g a1 a3).bind fun (x10:List UInt8×(List UInt8))=>(qco n ([([114,101,112,108,97,99,101]:List UInt8),x10.1,([61,62]:List UInt8),x10.2]:List (List UInt8))).bind fun (r11:List UInt8)=>(q35 16 a10 ([r11]:List (List UInt8))).bind fun (l12:List (List UInt8))=>q0b (IntKind.wrap .i64 (a3+(1:Int))) fun (n13:Int)=>rec a1 a2 n13 a4 a5 a6 a7 a8 a9 l12 else some ((((),((),())),(((a4,(a5,(a6,(a7,(a8,a9))))),()),(a10,())))))
def j1t (n:Nat) (rec:pSt qk1->Option (q0h qb1)) (p:pSt qk1):Option (q0h qb1):=jpc n (fun a1 a2 a3 a4 a5 a6 a7 a8 a9 a10=>rec (((),((),(a1,(a2,(a3,()))))),(((a4,(a5,(a6,(a7,(a8,a9))))),()),(a10,())))) p.1.2.2.1 p.1.2.2.2.1 p.1.2.2.2.2.1 p.2.1.1.1 p.2.1.1.2.1 p.2.1.1.2.2.1 p.2.1.1.2.2.2.1 p.2.1.1.2.2.2.2.1 p.2.1.1.2.2.2.2.2 p.2.2.1
def qrm (n m:Nat) (a1:List (List UInt8×(List UInt8))) (a2:Int) (a3:Int) (a4:List UInt8) (a5:List UInt8) (a6:List (List UInt8×((Int)×((Int)×((Int)×(List UInt8×(List UInt8))))))) (a7:List (List UInt8×(List UInt8))) (a8:List (List UInt8×((Int)×((Int)×((Int)×(List UInt8×(List UInt8))))))) (a9:List ((Int)×((Int)×((Int)×(List UInt8×(List UInt8×((Int)×((Int)×((Int)×(List UInt8×(List UInt8))))))))))) (a10:List (List UInt8)):Option ((Unit×(Unit×(Unit)))×(((List UInt8)×((List UInt8)×((List (List UInt8×((Int)×((Int)×((Int)×(List UInt8×(List UInt8)))))))×((List (List UInt8×(List UInt8)))×((List (List UInt8×((Int)×((Int)×((Int)×(List UInt8×(List UInt8)))))))×(List ((Int)×((Int)×((Int)×(List UInt8×(List UInt8×((Int)×((Int)×((Int)×(List UInt8×(List UInt8))))))))))))))))×(Unit))×((List (List UInt8))×(Unit))):=q0i (j1t n) m (((),((),(a1,(a2,(a3,()))))),(((a4,(a5,(a6,(a7,(a8,a9))))),()),(a10,())))
def jf4 (n:Nat):LC:={ sh:=qk1,outs:=qb1,F:=q0i (j1t n) n }
@[reducible] def qj7:SSt:=⟨[(1,.one (.c (.box 1 0))),(3,.one (.c (.row 16))),(28,.one (.c (.d (.lst (.prod .str (.prod (.int .i64) (.prod (.int .i64) (.prod (.int .i64) (.prod .str .str))))))))),(29,.one (.c (.d (.int .i64)))),(30,.one (.c (.d (.int .i64))))],[(1,(35,[.d .str,.d .str,.d (.lst (.prod .str (.prod (.int .i64) (.prod (.int .i64) (.prod (.int .i64) (.prod .str .str)))))),.d (.lst (.prod .str .str)),.d (.lst (.prod .str (.prod (.int .i64) (.prod (.int .i64) (.prod (.int .i64) (.prod .str .str)))))),.d (.lst (.prod (.int .i64) (.prod (.int .i64) (.prod (.int .i64) (.prod .str (.prod .str (.prod (.int .i64) (.prod (.int .i64) (.prod (.int .i64) (.prod .str .str))))))))))]))],[(16,⟨9,false,.str⟩)]⟩
@[reducible] def qah:List (Exit×SSt):=[(.exit 0,⟨[(1,.one (.c (.box 1 0))),(3,.one (.c (.row 16)))],[(1,(35,[.d .str,.d .str,.d (.lst (.prod .str (.prod (.int .i64) (.prod (.int .i64) (.prod (.int .i64) (.prod .str .str)))))),.d (.lst (.prod .str .str)),.d (.lst (.prod .str (.prod (.int .i64) (.prod (.int .i64) (.prod (.int .i64) (.prod .str .str)))))),.d (.lst (.prod (.int .i64) (.prod (.int .i64) (.prod (.int .i64) (.prod .str (.prod .str (.prod (.int .i64) (.prod (.int .i64) (.prod (.int .i64) (.prod .str .str))))))))))]))],[(16,⟨9,false,.str⟩)]⟩)]
def joh (n:Nat) (rec:(List (List UInt8×((Int)×((Int)×((Int)×(List UInt8×(List UInt8)))))))->Int->Int->(List UInt8)->(List UInt8)->(List (List UInt8×((Int)×((Int)×((Int)×(List UInt8×(List UInt8)))))))->(List (List UInt8×(List UInt8)))->(List (List UInt8×((Int)×((Int)×((Int)×(List UInt8×(List UInt8)))))))->(List ((Int)×((Int)×((Int)×(List UInt8×(List UInt8×((Int)×((Int)×((Int)×(List UInt8×(List UInt8)))))))))))->(List (List UInt8))->Option ((Unit×(Unit×(Unit)))×(((List UInt8)×((List UInt8)×((List (List UInt8×((Int)×((Int)×((Int)×(List UInt8×(List UInt8)))))))×((List (List UInt8×(List UInt8)))×((List (List UInt8×((Int)×((Int)×((Int)×(List UInt8×(List UInt8)))))))×(List ((Int)×((Int)×((Int)×(List UInt8×(List UInt8×((Int)×((Int)×((Int)×(List UInt8×(List UInt8))))))))))))))))×(Unit))×((List (List UInt8))×(Unit)))) (a1:List (List UInt8×((Int)×((Int)×((Int)×(List UInt8×(List UInt8))))))) (a2:Int) (a3:Int) (a4:List UInt8) (a5:List UInt8) (a6:List (List UInt8×((Int)×((Int)×((Int)×(List UInt8×(List UInt8))))))) (a7:List (List UInt8×(List UInt8))) (a8:List (List UInt8×((Int)×((Int)×((Int)×(List UInt8×(List UInt8))))))) (a9:List ((Int)×((Int)×((Int)×(List UInt8×(List UInt8×((Int)×((Int)×((Int)×(List UInt8×(List UInt8))))))))))) (a10:List (List UInt8)):Option ((Unit×(Unit×(Unit)))×(((List UInt8)×((List UInt8)×((List (List UInt8×((Int)×((Int)×((Int)×(List UInt8×(List UInt8)))))))×((List (List UInt8×(List UInt8)))×((List (List UInt8×((Int)×((Int)×((Int)×(List UInt8×(List UInt8)))))))×(List ((Int)×((Int)×((Int)×(List UInt8×(List UInt8×((Int)×((Int)×((Int)×(List UInt8×(List UInt8))))))))))))))))×(Unit))×((List (List UInt8))×(Unit))) :=
 (bif decide (a3<a2) then (q1g a1 a3).bind fun (x4:List UInt8×((Int)×((Int)×((Int)×(List UInt8×(List UInt8))))))=>(q8f n x4.2).bind fun (r5:List UInt8)=>(qco n ([([114,101,113,117,105,114,101]:List UInt8),x4.1,r5]:List (List UInt8))).bind fun (r6:List UInt8)=>(q35 16 a10 ([r6]:List (List UInt8))).bind fun (l7:List (List UInt8))=>q0b (IntKind.wrap .i64 (a3+(1:Int))) fun (n8:Int)=>rec a1 a2 n8 a4 a5 a6 a7 a8 a9 l7 else some ((((),((),())),(((a4,(a5,(a6,(a7,(a8,a9))))),()),(a10,())))))
def j49 (n:Nat) (rec:pSt qj7->Option (q0h qah)) (p:pSt qj7):Option (q0h qah):=joh n (fun a1 a2 a3 a4 a5 a6 a7 a8 a9 a10=>rec (((),((),(a1,(a2,(a3,()))))),(((a4,(a5,(a6,(a7,(a8,a9))))),()),(a10,())))) p.1.2.2.1 p.1.2.2.2.1 p.1.2.2.2.2.1 p.2.1.1.1 p.2.1.1.2.1 p.2.1.1.2.2.1 p.2.1.1.2.2.2.1 p.2.1.1.2.2.2.2.1 p.2.1.1.2.2.2.2.2 p.2.2.1
def qqp (n m:Nat) (a1:List (List UInt8×((Int)×((Int)×((Int)×(List UInt8×(List UInt8))))))) (a2:Int) (a3:Int) (a4:List UInt8) (a5:List UInt8) (a6:List (List UInt8×((Int)×((Int)×((Int)×(List UInt8×(List UInt8))))))) (a7:List (List UInt8×(List UInt8))) (a8:List (List UInt8×((Int)×((Int)×((Int)×(List UInt8×(List UInt8))))))) (a9:List ((Int)×((Int)×((Int)×(List UInt8×(List UInt8×((Int)×((Int)×((Int)×(List UInt8×(List UInt8))))))))))) (a10:List (List UInt8)):Option ((Unit×(Unit×(Unit)))×(((List UInt8)×((List UInt8)×((List (List UInt8×((Int)×((Int)×((Int)×(List UInt8×(List UInt8)))))))×((List (List UInt8×(List UInt8)))×((List (List UInt8×((Int)×((Int)×((Int)×(List UInt8×(List UInt8)))))))×(List ((Int)×((Int)×((Int)×(List UInt8×(List UInt8×((Int)×((Int)×((Int)×(List UInt8×(List UInt8))))))))))))))))×(Unit))×((List (List UInt8))×(Unit))):=q0i (j49 n) m (((),((),(a1,(a2,(a3,()))))),(((a4,(a5,(a6,(a7,(a8,a9))))),()),(a10,())))
def jh6 (n:Nat):LC:={ sh:=qj7,outs:=qah,F:=q0i (j49 n) n }
def qan (n:Nat):List LC:=[jh6 n,jf4 n,jdz n,jdy n]
def jls (n:Nat) (a1:(List UInt8)×((List UInt8)×((List (List UInt8×((Int)×((Int)×((Int)×(List UInt8×(List UInt8)))))))×((List (List UInt8×(List UInt8)))×((List (List UInt8×((Int)×((Int)×((Int)×(List UInt8×(List UInt8)))))))×(List ((Int)×((Int)×((Int)×(List UInt8×(List UInt8×((Int)×((Int)×((Int)×(List UInt8×(List UInt8)))))))))))))))):Option (List UInt8) :=
 (qco n ([([109,111,100,117,108,101]:List UInt8),a1.1]:List (List UInt8))).bind fun (r1:List UInt8)=>(bif !decide (a1.2.1=([]:List UInt8)) then (qco n ([([103,111]:List UInt8),a1.2.1]:List (List UInt8))).bind fun (r2:List UInt8)=>(q35 16 ([r1]:List (List UInt8)) ([r2]:List (List UInt8))).bind fun (l3:List (List UInt8))=>(qqp n n a1.2.2.1 ((List.length a1.2.2.1:Nat):Int) (0:Int) a1.1 a1.2.1 a1.2.2.1 a1.2.2.2.1 a1.2.2.2.2.1 a1.2.2.2.2.2 l3).bind fun (o9:(Unit×(Unit×(Unit)))×(((List UInt8)×((List UInt8)×((List (List UInt8×((Int)×((Int)×((Int)×(List UInt8×(List UInt8)))))))×((List (List UInt8×(List UInt8)))×((List (List UInt8×((Int)×((Int)×((Int)×(List UInt8×(List UInt8)))))))×(List ((Int)×((Int)×((Int)×(List UInt8×(List UInt8×((Int)×((Int)×((Int)×(List UInt8×(List UInt8))))))))))))))))×(Unit))×((List (List UInt8))×(Unit)))=>(qrm n n o9.2.1.1.2.2.2.1 ((List.length o9.2.1.1.2.2.2.1:Nat):Int) (0:Int) o9.2.1.1.1 o9.2.1.1.2.1 o9.2.1.1.2.2.1 o9.2.1.1.2.2.2.1 o9.2.1.1.2.2.2.2.1 o9.2.1.1.2.2.2.2.2 o9.2.2.1).bind fun (o14:(Unit×(Unit×(Unit)))×(((List UInt8)×((List UInt8)×((List (List UInt8×((Int)×((Int)×((Int)×(List UInt8×(List UInt8)))))))×((List (List UInt8×(List UInt8)))×((List (List UInt8×((Int)×((Int)×((Int)×(List UInt8×(List UInt8)))))))×(List ((Int)×((Int)×((Int)×(List UInt8×(List UInt8×((Int)×((Int)×((Int)×(List UInt8×(List UInt8))))))))))))))))×(Unit))×((List (List UInt8))×(Unit)))=>(qrz n n o14.2.1.1.2.2.2.2.1 ((List.length o14.2.1.1.2.2.2.2.1:Nat):Int) (0:Int) o14.2.1.1.1 o14.2.1.1.2.1 o14.2.1.1.2.2.1 o14.2.1.1.2.2.2.1 o14.2.1.1.2.2.2.2.1 o14.2.1.1.2.2.2.2.2 o14.2.2.1).bind fun (o20:(Unit×(Unit×(Unit)))×(((List UInt8)×((List UInt8)×((List (List UInt8×((Int)×((Int)×((Int)×(List UInt8×(List UInt8)))))))×((List (List UInt8×(List UInt8)))×((List (List UInt8×((Int)×((Int)×((Int)×(List UInt8×(List UInt8)))))))×(List ((Int)×((Int)×((Int)×(List UInt8×(List UInt8×((Int)×((Int)×((Int)×(List UInt8×(List UInt8))))))))))))))))×(Unit))×((List (List UInt8))×(Unit)))=>(qsk n n o20.2.1.1.2.2.2.2.2 ((List.length o20.2.1.1.2.2.2.2.2:Nat):Int) (0:Int) o20.2.2.1).bind fun (o26:(Unit×(Unit))×(Unit)×((List (List UInt8))×(Unit)))=>(qc1 o26.2.2.1 ([]:List UInt8)).bind fun (r27:List UInt8)=>some r27 else (qqp n n a1.2.2.1 ((List.length a1.2.2.1:Nat):Int) (0:Int) a1.1 a1.2.1 a1.2.2.1 a1.2.2.2.1 a1.2.2.2.2.1 a1.2.2.2.2.2 ([r1]:List (List UInt8))).bind fun (o28:(Unit×(Unit×(Unit)))×(((List UInt8)×((List UInt8)×((List (List UInt8×((Int)×((Int)×((Int)×(List UInt8×(List UInt8)))))))×((List (List UInt8×(List UInt8)))×((List (List UInt8×((Int)×((Int)×((Int)×(List UInt8×(List UInt8)))))))×(List ((Int)×((Int)×((Int)×(List UInt8×(List UInt8×((Int)×((Int)×((Int)×(List UInt8×(List UInt8))))))))))))))))×(Unit))×((List (List UInt8))×(Unit)))=>(qrm n n o28.2.1.1.2.2.2.1 ((List.length o28.2.1.1.2.2.2.1:Nat):Int) (0:Int) o28.2.1.1.1 o28.2.1.1.2.1 o28.2.1.1.2.2.1 o28.2.1.1.2.2.2.1 o28.2.1.1.2.2.2.2.1 o28.2.1.1.2.2.2.2.2 o28.2.2.1).bind fun (o29:(Unit×(Unit×(Unit)))×(((List UInt8)×((List UInt8)×((List (List UInt8×((Int)×((Int)×((Int)×(List UInt8×(List UInt8)))))))×((List (List UInt8×(List UInt8)))×((List (List UInt8×((Int)×((Int)×((Int)×(List UInt8×(List UInt8)))))))×(List ((Int)×((Int)×((Int)×(List UInt8×(List UInt8×((Int)×((Int)×((Int)×(List UInt8×(List UInt8))))))))))))))))×(Unit))×((List (List UInt8))×(Unit)))=>(qrz n n o29.2.1.1.2.2.2.2.1 ((List.length o29.2.1.1.2.2.2.2.1:Nat):Int) (0:Int) o29.2.1.1.1 o29.2.1.1.2.1 o29.2.1.1.2.2.1 o29.2.1.1.2.2.2.1 o29.2.1.1.2.2.2.2.1 o29.2.1.1.2.2.2.2.2 o29.2.2.1).bind fun (o30:(Unit×(Unit×(Unit)))×(((List UInt8)×((List UInt8)×((List (List UInt8×((Int)×((Int)×((Int)×(List UInt8×(List UInt8)))))))×((List (List UInt8×(List UInt8)))×((List (List UInt8×((Int)×((Int)×((Int)×(List UInt8×(List UInt8)))))))×(List ((Int)×((Int)×((Int)×(List UInt8×(List UInt8×((Int)×((Int)×((Int)×(List UInt8×(List UInt8))))))))))))))))×(Unit))×((List (List UInt8))×(Unit)))=>(qsk n n o30.2.1.1.2.2.2.2.2 ((List.length o30.2.1.1.2.2.2.2.2:Nat):Int) (0:Int) o30.2.2.1).bind fun (o31:(Unit×(Unit))×(Unit)×((List (List UInt8))×(Unit)))=>(qc1 o31.2.2.1 ([]:List UInt8)).bind fun (r32:List UInt8)=>some r32)
def qks (n:Nat):FC:={ f:=36,args:=[.one (.agg [.d .str,.d .str,.d (.lst (.prod .str (.prod (.int .i64) (.prod (.int .i64) (.prod (.int .i64) (.prod .str .str)))))),.d (.lst (.prod .str .str)),.d (.lst (.prod .str (.prod (.int .i64) (.prod (.int .i64) (.prod (.int .i64) (.prod .str .str)))))),.d (.lst (.prod (.int .i64) (.prod (.int .i64) (.prod (.int .i64) (.prod .str (.prod .str (.prod (.int .i64) (.prod (.int .i64) (.prod (.int .i64) (.prod .str .str))))))))))])],res:=.one (.c (.d .str)),F:=fun p=>jls n p }
def qfw (n:Nat):List FC:=[qdq n,q7q n,q9j n,qtv]
theorem q9t (n:Nat) {G:World->Prop} (hG:Know Inv G) : ∀c∈qfw n,q0y Tryz.prog G c/\q09 c.args=true:=List.forall_mem_cons.2 ⟨jkl n G hG,List.forall_mem_cons.2 ⟨quw n G hG,List.forall_mem_cons.2 ⟨jg5 n G hG,List.forall_mem_cons.2 ⟨j4j G hG,(fun _ h=>by cases h)⟩⟩⟩⟩
def qgo:q08:=[(7,[⟨30423614405477506761820783772160,2^102,0⟩,⟨243388915243820045087367015530496,2^105,0⟩,⟨1987676141157863701546830626095104,2^108,2⟩,⟨15576890575604482885591488987758592,2^111,0⟩,⟨127211273034103276898997160065957888,2^114,8⟩,⟨49*2^114,2^117,24⟩,⟨25089*2^108,5*2^120,62⟩,⟨53*2^120,2^123,126⟩,⟨49*2^123,5*2^126,254⟩,⟨4004566781977058768584705*2^50,604462909807314587353089*2^50,511⟩,⟨680564733841876926926750340763443268608,512,1023⟩]),(17,[⟨1234128417990904531616226886918012878737051899226310797418299904,2^207,0⟩,⟨73559785961562665201200657303214840813699477864812904451*2^27,2^210,0⟩,⟨300369126009714216238236017321460599989272867947986026497*2^28,2^213,2⟩,⟨4707826301540010572876842067405749812076766583348025884675*2^27,2^216,0⟩,⟨19223624064621709839247105108573478399313463548671105695745*2^28,2^219,8⟩,⟨49*2^219,2^222,24⟩,⟨25089*2^213,5*2^225,62⟩,⟨53*2^225,2^228,126⟩,⟨49*2^228,5*2^231,254⟩,⟨162444527514471923652347649653393377553121724408453398529*2^50,24519928653854221733733552434404946937899825954937634817*2^50,511⟩,⟨27606985387162255149739023449108101809804435888681546221775996802042880,512,1023⟩])]
theorem qle:drB qgo (q00 Tryz.f36)=true:=by kernel_rfl
theorem jkz (n:Nat) : ∀rec p,j4o n rec p=round Tryz.prog 97 (qfw n) (qan n) qgo 4 qje qaz (q01 0 3 (q00 Tryz.f36)) rec p:=by intro rec p;kernel_rfl
theorem jin (n:Nat) : ∀rec p,j21 n rec p=round Tryz.prog 97 (qfw n) (qan n) qgo 3 qjz qal (q01 0 2 (q00 Tryz.f36)) rec p:=by intro rec p;kernel_rfl
theorem ji2 (n:Nat) : ∀rec p,j1t n rec p=round Tryz.prog 97 (qfw n) (qan n) qgo 2 qk1 qb1 (q01 0 1 (q00 Tryz.f36)) rec p:=by intro rec p;kernel_rfl
theorem jky (n:Nat) : ∀rec p,j49 n rec p=round Tryz.prog 97 (qfw n) (qan n) qgo 1 qj7 qah (q01 0 0 (q00 Tryz.f36)) rec p:=by intro rec p;kernel_rfl
theorem jb8 (n:Nat) {F:Fr} (hF:F.n=97) (hK:Know Inv F.G):q8n Tryz.prog F (jdy n) (q01 0 3 (q00 Tryz.f36)) :=
 q0j hF (by kernel_rfl) (q9t n hK) (jkz n) (fuel:=n) (fun _=>rfl) (q02 fun j L h1 h2 h3=>absurd h2 (Nat.not_lt.2 (Nat.le_trans (by decide +kernel) h1))) (q0w qle)
theorem jdw (n:Nat) {F:Fr} (hF:F.n=97) (hK:Know Inv F.G):q8n Tryz.prog F (jdz n) (q01 0 2 (q00 Tryz.f36)) :=
 q0j hF (by kernel_rfl) (q9t n hK) (jin n) (fuel:=n) (fun _=>rfl) (q02 fun j L h1 h2 h3=>absurd h2 (Nat.not_lt.2 (Nat.le_trans (by decide +kernel) h1))) (q0w qle)
theorem jcb (n:Nat) {F:Fr} (hF:F.n=97) (hK:Know Inv F.G):q8n Tryz.prog F (jf4 n) (q01 0 1 (q00 Tryz.f36)) :=
 q0j hF (by kernel_rfl) (q9t n hK) (ji2 n) (fuel:=n) (fun _=>rfl) (q02 fun j L h1 h2 h3=>absurd h2 (Nat.not_lt.2 (Nat.le_trans (by decide +kernel) h1))) (q0w qle)
theorem jch (n:Nat) {F:Fr} (hF:F.n=97) (hK:Know Inv F.G):q8n Tryz.prog F (jh6 n) (q01 0 0 (q00 Tryz.f36)) :=
 q0j hF (by kernel_rfl) (q9t n hK) (jky n) (fuel:=n) (fun _=>rfl) (q02 fun j L h1 h2 h3=>absurd h2 (Nat.not_lt.2 (Nat.le_trans (by decide +kernel) h1))) (q0w qle)
theorem jop (n:Nat) : ∀a,(qks n).F a=main Tryz.prog 97 (qfw n) (qan n) qgo (q00 Tryz.f36) [.tmp 2] (qks n).args (qks n).res a:=by intro a;kernel_rfl
theorem joq (n:Nat):q0d Inv Tryz.prog (qks n):=fun G hG=>⟨⟨by kernel_rfl,fun a r h=>q04 (c:=q00 Tryz.f36) Tryz.func36 (by kernel_rfl) (by kernel_rfl) (Nat.le_of_ble_eq_true (by kernel_rfl)) hG.st (by kernel_rfl) (rs:=[.tmp 2]) (by kernel_rfl) (q9t n hG) (lts:=qan n) (fun F hF hFG=>have hK:Know Inv F.G:=hFG ▸ hG;(q02 (c:=(q00 Tryz.f36)) (fun j L h1 h2 h3=>by
  have h2':j<4:=Nat.lt_of_lt_of_le h2 (by decide +kernel)
  match j,h1,h2',h3 with
  | 0,_,_,h3=>obtain rfl:=Option.some.inj h3;exact (show q01 0 0 (q00 Tryz.f36)=q01 0 0 (q00 Tryz.f36) by kernel_rfl) ▸ jch n hF hK
  | 1,_,_,h3=>obtain rfl:=Option.some.inj h3;exact (show q01 0 1 (q00 Tryz.f36)=q01 0 1 (q00 Tryz.f36) by kernel_rfl) ▸ jcb n hF hK
  | 2,_,_,h3=>obtain rfl:=Option.some.inj h3;exact (show q01 0 2 (q00 Tryz.f36)=q01 0 2 (q00 Tryz.f36) by kernel_rfl) ▸ jdw n hF hK
  | 3,_,_,h3=>obtain rfl:=Option.some.inj h3;exact (show q01 0 3 (q00 Tryz.f36)=q01 0 3 (q00 Tryz.f36) by kernel_rfl) ▸ jb8 n hF hK
  | j+4,_,h2',_=>exact absurd h2' (by omega)))) qle ((jop n a).symm.trans h)⟩,rfl⟩
@[reducible] def qe5:SSt:=⟨[(0,.one (.c (.d (.lst (.prod .str (.prod (.int .i64) (.prod (.int .i64) (.prod (.int .i64) (.prod .str .str))))))))),(1,.one (.c (.d (.lst (.prod .str (.prod (.int .i64) (.prod (.int .i64) (.prod (.int .i64) (.prod .str .str))))))))),(12,.one (.c (.d (.int .i64)))),(13,.one (.c (.d (.int .i64))))],[],[]⟩
@[reducible] def q7y:List (Exit×SSt):=[(.ret,⟨[(4,.one (.c (.d .bool)))],[],[]⟩),(.exit 0,⟨[],[],[]⟩)]
def jks (n:Nat) (rec:(List (List UInt8×((Int)×((Int)×((Int)×(List UInt8×(List UInt8)))))))->(List (List UInt8×((Int)×((Int)×((Int)×(List UInt8×(List UInt8)))))))->Int->Int->Option (((Bool×(Unit))×(Unit)×(Unit))⊕((Unit)×(Unit)×(Unit)))) (a1:List (List UInt8×((Int)×((Int)×((Int)×(List UInt8×(List UInt8))))))) (a2:List (List UInt8×((Int)×((Int)×((Int)×(List UInt8×(List UInt8))))))) (a3:Int) (a4:Int):Option (((Bool×(Unit))×(Unit)×(Unit))⊕((Unit)×(Unit)×(Unit))) :=
 (bif decide (a4<a3) then (q1g a1 a4).bind fun (x1:List UInt8×((Int)×((Int)×((Int)×(List UInt8×(List UInt8))))))=>(q1g a2 a4).bind fun (x2:List UInt8×((Int)×((Int)×((Int)×(List UInt8×(List UInt8))))))=>(bif !(decide (x1.1=x2.1)&&((decide (x1.2.1=x2.2.1)&&(decide (x1.2.2.1=x2.2.2.1)&&(decide (x1.2.2.2.1=x2.2.2.2.1)&&(decide (x1.2.2.2.2.1=x2.2.2.2.2.1)&&(decide (x1.2.2.2.2.2=x2.2.2.2.2.2)&&true)))))&&true)) then some (Sum.inl ((false,()),((),()))) else q0b (IntKind.wrap .i64 (a4+(1:Int))) fun (n3:Int)=>rec a1 a2 a3 n3) else some (Sum.inr (((),((),())))))
def qsx (n:Nat) (rec:pSt qe5->Option (q0h q7y)) (p:pSt qe5):Option (q0h q7y):=jks n (fun a1 a2 a3 a4=>rec ((a1,(a2,(a3,(a4,())))),((),()))) p.1.1 p.1.2.1 p.1.2.2.1 p.1.2.2.2.1
def j36 (n m:Nat) (a1:List (List UInt8×((Int)×((Int)×((Int)×(List UInt8×(List UInt8))))))) (a2:List (List UInt8×((Int)×((Int)×((Int)×(List UInt8×(List UInt8))))))) (a3:Int) (a4:Int):Option (((Bool×(Unit))×(Unit)×(Unit))⊕((Unit)×(Unit)×(Unit))):=q0i (qsx n) m ((a1,(a2,(a3,(a4,())))),((),()))
def j79 (n:Nat):LC:={ sh:=qe5,outs:=q7y,F:=q0i (qsx n) n }
def qp9 (n:Nat):List LC:=[j79 n]
def j2l (n:Nat) (a1:List (List UInt8×((Int)×((Int)×((Int)×(List UInt8×(List UInt8))))))) (a2:List (List UInt8×((Int)×((Int)×((Int)×(List UInt8×(List UInt8))))))):Option (Bool) :=
 (bif !decide (((List.length a1:Nat):Int)=((List.length a2:Nat):Int)) then some false else (j36 n n a1 a2 ((List.length a1:Nat):Int) (0:Int)).bind fun (o4:((Bool×(Unit))×(Unit)×(Unit))⊕((Unit)×(Unit)×(Unit)))=>Sum.elim (fun (q5:(Bool×(Unit))×(Unit)×(Unit))=>some q5.1.1) (fun (q6:(Unit)×(Unit)×(Unit))=>some true) o4)
def qe2 (n:Nat):FC:={ f:=56,args:=[.one (.c (.d (.lst (.prod .str (.prod (.int .i64) (.prod (.int .i64) (.prod (.int .i64) (.prod .str .str)))))))),.one (.c (.d (.lst (.prod .str (.prod (.int .i64) (.prod (.int .i64) (.prod (.int .i64) (.prod .str .str))))))))],res:=.one (.c (.d .bool)),F:=fun p=>j2l n p.1 p.2 }
def qt7 (n:Nat):List FC:=[]
theorem qr9 (n:Nat) {G:World->Prop} (hG:Know Inv G) : ∀c∈qt7 n,q0y Tryz.prog G c/\q09 c.args=true:=(fun _ h=>by cases h)
def qsu:q08:=[(6,[⟨1688849860263937,2^48,0⟩,⟨13510798882144256,2^51,0⟩,⟨393*2^48,2^54,3⟩,⟨49*2^54,2^57,7⟩,⟨6917529027641081864,2^60,0⟩,⟨55340232221128687616,2^63,0⟩,⟨393*2^60,2^66,48⟩,⟨49*2^66,2^69,112⟩,⟨200705*2^57,2^72,255⟩])]
theorem j62:drB qsu (q00 Tryz.f56)=true:=by kernel_rfl
theorem jhf (n:Nat) : ∀rec p,qsx n rec p=round Tryz.prog 26 (qt7 n) (qp9 n) qsu 1 qe5 q7y (q01 0 0 (q00 Tryz.f56)) rec p:=by intro rec p;kernel_rfl
theorem jam (n:Nat) {F:Fr} (hF:F.n=26) (hK:Know Inv F.G):q8n Tryz.prog F (j79 n) (q01 0 0 (q00 Tryz.f56)) :=
 q0j hF (by kernel_rfl) (qr9 n hK) (jhf n) (fuel:=n) (fun _=>rfl) (q02 fun j L h1 h2 h3=>absurd h2 (Nat.not_lt.2 (Nat.le_trans (by decide +kernel) h1))) (q0w j62)
theorem jjv (n:Nat) : ∀a,(qe2 n).F a=main Tryz.prog 26 (qt7 n) (qp9 n) qsu (q00 Tryz.f56) [.tmp 4] (qe2 n).args (qe2 n).res a:=by intro a;kernel_rfl
theorem jle (n:Nat):q0d Inv Tryz.prog (qe2 n):=fun G hG=>⟨⟨by kernel_rfl,fun a r h=>q04 (c:=q00 Tryz.f56) Tryz.func56 (by kernel_rfl) (by kernel_rfl) (Nat.le_of_ble_eq_true (by kernel_rfl)) hG.st (by kernel_rfl) (rs:=[.tmp 4]) (by kernel_rfl) (qr9 n hG) (lts:=qp9 n) (fun F hF hFG=>have hK:Know Inv F.G:=hFG ▸ hG;(q02 (c:=(q00 Tryz.f56)) (fun j L h1 h2 h3=>by
  have h2':j<1:=Nat.lt_of_lt_of_le h2 (by decide +kernel)
  match j,h1,h2',h3 with
  | 0,_,_,h3=>obtain rfl:=Option.some.inj h3;exact (show q01 0 0 (q00 Tryz.f56)=q01 0 0 (q00 Tryz.f56) by kernel_rfl) ▸ jam n hF hK
  | j+1,_,h2',_=>exact absurd h2' (by omega)))) j62 ((jjv n a).symm.trans h)⟩,rfl⟩
@[reducible] def qb7:SSt:=⟨[(0,.one (.c (.d (.lst (.prod .str .str))))),(1,.one (.c (.d (.lst (.prod .str .str))))),(12,.one (.c (.d (.int .i64)))),(13,.one (.c (.d (.int .i64))))],[],[]⟩
@[reducible] def q63:List (Exit×SSt):=[(.ret,⟨[(4,.one (.c (.d .bool)))],[],[]⟩),(.exit 0,⟨[],[],[]⟩)]
def jdn (n:Nat) (rec:(List (List UInt8×(List UInt8)))->(List (List UInt8×(List UInt8)))->Int->Int->Option (((Bool×(Unit))×(Unit)×(Unit))⊕((Unit)×(Unit)×(Unit)))) (a1:List (List UInt8×(List UInt8))) (a2:List (List UInt8×(List UInt8))) (a3:Int) (a4:Int):Option (((Bool×(Unit))×(Unit)×(Unit))⊕((Unit)×(Unit)×(Unit))) :=
 (bif decide (a4<a3) then (q1g a1 a4).bind fun (x1:List UInt8×(List UInt8))=>(q1g a2 a4).bind fun (x2:List UInt8×(List UInt8))=>(bif !(decide (x1.1=x2.1)&&(decide (x1.2=x2.2)&&true)) then some (Sum.inl ((false,()),((),()))) else q0b (IntKind.wrap .i64 (a4+(1:Int))) fun (n3:Int)=>rec a1 a2 a3 n3) else some (Sum.inr (((),((),())))))
def qoh (n:Nat) (rec:pSt qb7->Option (q0h q63)) (p:pSt qb7):Option (q0h q63):=jdn n (fun a1 a2 a3 a4=>rec ((a1,(a2,(a3,(a4,())))),((),()))) p.1.1 p.1.2.1 p.1.2.2.1 p.1.2.2.2.1
def qzb (n m:Nat) (a1:List (List UInt8×(List UInt8))) (a2:List (List UInt8×(List UInt8))) (a3:Int) (a4:Int):Option (((Bool×(Unit))×(Unit)×(Unit))⊕((Unit)×(Unit)×(Unit))):=q0i (qoh n) m ((a1,(a2,(a3,(a4,())))),((),()))
def qyg (n:Nat):LC:={ sh:=qb7,outs:=q63,F:=q0i (qoh n) n }
def qg9 (n:Nat):List LC:=[qyg n]
def j5n (n:Nat) (a1:List (List UInt8×(List UInt8))) (a2:List (List UInt8×(List UInt8))):Option (Bool) :=
 (bif !decide (((List.length a1:Nat):Int)=((List.length a2:Nat):Int)) then some false else (qzb n n a1 a2 ((List.length a1:Nat):Int) (0:Int)).bind fun (o4:((Bool×(Unit))×(Unit)×(Unit))⊕((Unit)×(Unit)×(Unit)))=>Sum.elim (fun (q5:(Bool×(Unit))×(Unit)×(Unit))=>some q5.1.1) (fun (q6:(Unit)×(Unit)×(Unit))=>some true) o4)
def q9z (n:Nat):FC:={ f:=57,args:=[.one (.c (.d (.lst (.prod .str .str)))),.one (.c (.d (.lst (.prod .str .str))))],res:=.one (.c (.d .bool)),F:=fun p=>j5n n p.1 p.2 }
def qmg (n:Nat):List FC:=[]
theorem qo8 (n:Nat) {G:World->Prop} (hG:Know Inv G) : ∀c∈qmg n,q0y Tryz.prog G c/\q09 c.args=true:=(fun _ h=>by cases h)
def qne:q08:=[(6,[⟨1688849860263937,2^48,0⟩,⟨13510798882144256,2^51,0⟩,⟨393*2^48,2^54,3⟩,⟨49*2^54,2^57,7⟩,⟨6917529027641081864,2^60,0⟩,⟨55340232221128687616,2^63,0⟩,⟨393*2^60,2^66,48⟩,⟨49*2^66,2^69,112⟩,⟨200705*2^57,2^72,255⟩])]
theorem qyn:drB qne (q00 Tryz.f57)=true:=by kernel_rfl
theorem j8r (n:Nat) : ∀rec p,qoh n rec p=round Tryz.prog 26 (qmg n) (qg9 n) qne 1 qb7 q63 (q01 0 0 (q00 Tryz.f57)) rec p:=by intro rec p;kernel_rfl
theorem j30 (n:Nat) {F:Fr} (hF:F.n=26) (hK:Know Inv F.G):q8n Tryz.prog F (qyg n) (q01 0 0 (q00 Tryz.f57)) :=
 q0j hF (by kernel_rfl) (qo8 n hK) (j8r n) (fuel:=n) (fun _=>rfl) (q02 fun j L h1 h2 h3=>absurd h2 (Nat.not_lt.2 (Nat.le_trans (by decide +kernel) h1))) (q0w qyn)
theorem jgq (n:Nat) : ∀a,(q9z n).F a=main Tryz.prog 26 (qmg n) (qg9 n) qne (q00 Tryz.f57) [.tmp 4] (q9z n).args (q9z n).res a:=by intro a;kernel_rfl
theorem jby (n:Nat):q0d Inv Tryz.prog (q9z n):=fun G hG=>⟨⟨by kernel_rfl,fun a r h=>q04 (c:=q00 Tryz.f57) Tryz.func57 (by kernel_rfl) (by kernel_rfl) (Nat.le_of_ble_eq_true (by kernel_rfl)) hG.st (by kernel_rfl) (rs:=[.tmp 4]) (by kernel_rfl) (qo8 n hG) (lts:=qg9 n) (fun F hF hFG=>have hK:Know Inv F.G:=hFG ▸ hG;(q02 (c:=(q00 Tryz.f57)) (fun j L h1 h2 h3=>by
  have h2':j<1:=Nat.lt_of_lt_of_le h2 (by decide +kernel)
  match j,h1,h2',h3 with
  | 0,_,_,h3=>obtain rfl:=Option.some.inj h3;exact (show q01 0 0 (q00 Tryz.f57)=q01 0 0 (q00 Tryz.f57) by kernel_rfl) ▸ j30 n hF hK
  | j+1,_,h2',_=>exact absurd h2' (by omega)))) qyn ((jgq n a).symm.trans h)⟩,rfl⟩
@[reducible] def qbh:SSt:=⟨[(0,.one (.c (.d (.lst (.prod (.int .i64) (.prod (.int .i64) (.prod (.int .i64) (.prod .str (.prod .str (.prod (.int .i64) (.prod (.int .i64) (.prod (.int .i64) (.prod .str .str))))))))))))),(1,.one (.c (.d (.lst (.prod (.int .i64) (.prod (.int .i64) (.prod (.int .i64) (.prod .str (.prod .str (.prod (.int .i64) (.prod (.int .i64) (.prod (.int .i64) (.prod .str .str))))))))))))),(12,.one (.c (.d (.int .i64)))),(13,.one (.c (.d (.int .i64))))],[],[]⟩
@[reducible] def q6g:List (Exit×SSt):=[(.ret,⟨[(4,.one (.c (.d .bool)))],[],[]⟩),(.exit 0,⟨[],[],[]⟩)]
def jb5 (n:Nat) (rec:(List ((Int)×((Int)×((Int)×(List UInt8×(List UInt8×((Int)×((Int)×((Int)×(List UInt8×(List UInt8)))))))))))->(List ((Int)×((Int)×((Int)×(List UInt8×(List UInt8×((Int)×((Int)×((Int)×(List UInt8×(List UInt8)))))))))))->Int->Int->Option (((Bool×(Unit))×(Unit)×(Unit))⊕((Unit)×(Unit)×(Unit)))) (a1:List ((Int)×((Int)×((Int)×(List UInt8×(List UInt8×((Int)×((Int)×((Int)×(List UInt8×(List UInt8))))))))))) (a2:List ((Int)×((Int)×((Int)×(List UInt8×(List UInt8×((Int)×((Int)×((Int)×(List UInt8×(List UInt8))))))))))) (a3:Int) (a4:Int):Option (((Bool×(Unit))×(Unit)×(Unit))⊕((Unit)×(Unit)×(Unit))) :=
 (bif decide (a4<a3) then (q1g a1 a4).bind fun (x1:(Int)×((Int)×((Int)×(List UInt8×(List UInt8×((Int)×((Int)×((Int)×(List UInt8×(List UInt8))))))))))=>(q1g a2 a4).bind fun (x2:(Int)×((Int)×((Int)×(List UInt8×(List UInt8×((Int)×((Int)×((Int)×(List UInt8×(List UInt8))))))))))=>(bif !((decide (x1.1=x2.1)&&(decide (x1.2.1=x2.2.1)&&(decide (x1.2.2.1=x2.2.2.1)&&(decide (x1.2.2.2.1=x2.2.2.2.1)&&(decide (x1.2.2.2.2.1=x2.2.2.2.2.1)&&true)))))&&((decide (x1.2.2.2.2.2.1=x2.2.2.2.2.2.1)&&(decide (x1.2.2.2.2.2.2.1=x2.2.2.2.2.2.2.1)&&(decide (x1.2.2.2.2.2.2.2.1=x2.2.2.2.2.2.2.2.1)&&(decide (x1.2.2.2.2.2.2.2.2.1=x2.2.2.2.2.2.2.2.2.1)&&(decide (x1.2.2.2.2.2.2.2.2.2=x2.2.2.2.2.2.2.2.2.2)&&true)))))&&true)) then some (Sum.inl ((false,()),((),()))) else q0b (IntKind.wrap .i64 (a4+(1:Int))) fun (n3:Int)=>rec a1 a2 a3 n3) else some (Sum.inr (((),((),())))))
def qm0 (n:Nat) (rec:pSt qbh->Option (q0h q6g)) (p:pSt qbh):Option (q0h q6g):=jb5 n (fun a1 a2 a3 a4=>rec ((a1,(a2,(a3,(a4,())))),((),()))) p.1.1 p.1.2.1 p.1.2.2.1 p.1.2.2.2.1
def j06 (n m:Nat) (a1:List ((Int)×((Int)×((Int)×(List UInt8×(List UInt8×((Int)×((Int)×((Int)×(List UInt8×(List UInt8))))))))))) (a2:List ((Int)×((Int)×((Int)×(List UInt8×(List UInt8×((Int)×((Int)×((Int)×(List UInt8×(List UInt8))))))))))) (a3:Int) (a4:Int):Option (((Bool×(Unit))×(Unit)×(Unit))⊕((Unit)×(Unit)×(Unit))):=q0i (qm0 n) m ((a1,(a2,(a3,(a4,())))),((),()))
def qxd (n:Nat):LC:={ sh:=qbh,outs:=q6g,F:=q0i (qm0 n) n }
def qg1 (n:Nat):List LC:=[qxd n]
def j8b (n:Nat) (a1:List ((Int)×((Int)×((Int)×(List UInt8×(List UInt8×((Int)×((Int)×((Int)×(List UInt8×(List UInt8))))))))))) (a2:List ((Int)×((Int)×((Int)×(List UInt8×(List UInt8×((Int)×((Int)×((Int)×(List UInt8×(List UInt8))))))))))):Option (Bool) :=
 (bif !decide (((List.length a1:Nat):Int)=((List.length a2:Nat):Int)) then some false else (j06 n n a1 a2 ((List.length a1:Nat):Int) (0:Int)).bind fun (o4:((Bool×(Unit))×(Unit)×(Unit))⊕((Unit)×(Unit)×(Unit)))=>Sum.elim (fun (q5:(Bool×(Unit))×(Unit)×(Unit))=>some q5.1.1) (fun (q6:(Unit)×(Unit)×(Unit))=>some true) o4)
def q8w (n:Nat):FC:={ f:=58,args:=[.one (.c (.d (.lst (.prod (.int .i64) (.prod (.int .i64) (.prod (.int .i64) (.prod .str (.prod .str (.prod (.int .i64) (.prod (.int .i64) (.prod (.int .i64) (.prod .str .str)))))))))))),.one (.c (.d (.lst (.prod (.int .i64) (.prod (.int .i64) (.prod (.int .i64) (.prod .str (.prod .str (.prod (.int .i64) (.prod (.int .i64) (.prod (.int .i64) (.prod .str .str))))))))))))],res:=.one (.c (.d .bool)),F:=fun p=>j8b n p.1 p.2 }
def qnp (n:Nat):List FC:=[]
theorem qob (n:Nat) {G:World->Prop} (hG:Know Inv G) : ∀c∈qnp n,q0y Tryz.prog G c/\q09 c.args=true:=(fun _ h=>by cases h)
def qmv:q08:=[(6,[⟨1688849860263937,2^48,0⟩,⟨13510798882144256,2^51,0⟩,⟨393*2^48,2^54,3⟩,⟨49*2^54,2^57,7⟩,⟨6917529027641081864,2^60,0⟩,⟨55340232221128687616,2^63,0⟩,⟨393*2^60,2^66,48⟩,⟨49*2^66,2^69,112⟩,⟨200705*2^57,2^72,255⟩])]
theorem j0i:drB qmv (q00 Tryz.f58)=true:=by kernel_rfl
theorem j91 (n:Nat) : ∀rec p,qm0 n rec p=round Tryz.prog 26 (qnp n) (qg1 n) qmv 1 qbh q6g (q01 0 0 (q00 Tryz.f58)) rec p:=by intro rec p;kernel_rfl
theorem j1s (n:Nat) {F:Fr} (hF:F.n=26) (hK:Know Inv F.G):q8n Tryz.prog F (qxd n) (q01 0 0 (q00 Tryz.f58)) :=
 q0j hF (by kernel_rfl) (qob n hK) (j91 n) (fuel:=n) (fun _=>rfl) (q02 fun j L h1 h2 h3=>absurd h2 (Nat.not_lt.2 (Nat.le_trans (by decide +kernel) h1))) (q0w j0i)
theorem jfd (n:Nat) : ∀a,(q8w n).F a=main Tryz.prog 26 (qnp n) (qg1 n) qmv (q00 Tryz.f58) [.tmp 4] (q8w n).args (q8w n).res a:=by intro a;kernel_rfl
theorem jbt (n:Nat):q0d Inv Tryz.prog (q8w n):=fun G hG=>⟨⟨by kernel_rfl,fun a r h=>q04 (c:=q00 Tryz.f58) Tryz.func58 (by kernel_rfl) (by kernel_rfl) (Nat.le_of_ble_eq_true (by kernel_rfl)) hG.st (by kernel_rfl) (rs:=[.tmp 4]) (by kernel_rfl) (qob n hG) (lts:=qg1 n) (fun F hF hFG=>have hK:Know Inv F.G:=hFG ▸ hG;(q02 (c:=(q00 Tryz.f58)) (fun j L h1 h2 h3=>by
  have h2':j<1:=Nat.lt_of_lt_of_le h2 (by decide +kernel)
  match j,h1,h2',h3 with
  | 0,_,_,h3=>obtain rfl:=Option.some.inj h3;exact (show q01 0 0 (q00 Tryz.f58)=q01 0 0 (q00 Tryz.f58) by kernel_rfl) ▸ j1s n hF hK
  | j+1,_,h2',_=>exact absurd h2' (by omega)))) j0i ((jfd n a).symm.trans h)⟩,rfl⟩
def qx6 (n:Nat):List LC:=[]
def qsz (n:Nat) (a1:(List UInt8)×((List UInt8)×((List (List UInt8×((Int)×((Int)×((Int)×(List UInt8×(List UInt8)))))))×((List (List UInt8×(List UInt8)))×((List (List UInt8×((Int)×((Int)×((Int)×(List UInt8×(List UInt8)))))))×(List ((Int)×((Int)×((Int)×(List UInt8×(List UInt8×((Int)×((Int)×((Int)×(List UInt8×(List UInt8)))))))))))))))) (a2:(List UInt8)×((List UInt8)×((List (List UInt8×((Int)×((Int)×((Int)×(List UInt8×(List UInt8)))))))×((List (List UInt8×(List UInt8)))×((List (List UInt8×((Int)×((Int)×((Int)×(List UInt8×(List UInt8)))))))×(List ((Int)×((Int)×((Int)×(List UInt8×(List UInt8×((Int)×((Int)×((Int)×(List UInt8×(List UInt8)))))))))))))))):Option (Bool) :=
 (bif decide (a1.1=a2.1) then (bif decide (a1.2.1=a2.2.1) then (j2l n a1.2.2.1 a2.2.2.1).bind fun (r1:Bool)=>(bif r1 then (j5n n a1.2.2.2.1 a2.2.2.2.1).bind fun (r2:Bool)=>(bif r2 then (j2l n a1.2.2.2.2.1 a2.2.2.2.2.1).bind fun (r3:Bool)=>(bif r3 then (j8b n a1.2.2.2.2.2 a2.2.2.2.2.2).bind fun (r4:Bool)=>some r4 else some false) else some false) else some false) else some false) else some false)
def qb2 (n:Nat):FC:={ f:=35,args:=[.one (.agg [.d .str,.d .str,.d (.lst (.prod .str (.prod (.int .i64) (.prod (.int .i64) (.prod (.int .i64) (.prod .str .str)))))),.d (.lst (.prod .str .str)),.d (.lst (.prod .str (.prod (.int .i64) (.prod (.int .i64) (.prod (.int .i64) (.prod .str .str)))))),.d (.lst (.prod (.int .i64) (.prod (.int .i64) (.prod (.int .i64) (.prod .str (.prod .str (.prod (.int .i64) (.prod (.int .i64) (.prod (.int .i64) (.prod .str .str))))))))))]),.one (.agg [.d .str,.d .str,.d (.lst (.prod .str (.prod (.int .i64) (.prod (.int .i64) (.prod (.int .i64) (.prod .str .str)))))),.d (.lst (.prod .str .str)),.d (.lst (.prod .str (.prod (.int .i64) (.prod (.int .i64) (.prod (.int .i64) (.prod .str .str)))))),.d (.lst (.prod (.int .i64) (.prod (.int .i64) (.prod (.int .i64) (.prod .str (.prod .str (.prod (.int .i64) (.prod (.int .i64) (.prod (.int .i64) (.prod .str .str))))))))))])],res:=.one (.c (.d .bool)),F:=fun p=>qsz n p.1 p.2 }
def j4u (n:Nat):List FC:=[qe2 n,q9z n,q8w n]
theorem j9l (n:Nat) {G:World->Prop} (hG:Know Inv G) : ∀c∈j4u n,q0y Tryz.prog G c/\q09 c.args=true:=List.forall_mem_cons.2 ⟨jle n G hG,List.forall_mem_cons.2 ⟨jby n G hG,List.forall_mem_cons.2 ⟨jbt n G hG,(fun _ h=>by cases h)⟩⟩⟩
def j7c:q08:=[]
theorem jjg:drB j7c (q00 Tryz.f35)=true:=by kernel_rfl
theorem jjk (n:Nat) : ∀a,(qb2 n).F a=main Tryz.prog 45 (j4u n) (qx6 n) j7c (q00 Tryz.f35) [.tmp 4] (qb2 n).args (qb2 n).res a:=by intro a;kernel_rfl
theorem j5p (n:Nat):q0d Inv Tryz.prog (qb2 n):=fun G hG=>⟨⟨by kernel_rfl,fun a r h=>q04 (c:=q00 Tryz.f35) Tryz.func35 (by kernel_rfl) (by kernel_rfl) (Nat.le_of_ble_eq_true (by kernel_rfl)) hG.st (by kernel_rfl) (rs:=[.tmp 4]) (by kernel_rfl) (j9l n hG) (lts:=qx6 n) (fun F hF hFG=>have hK:Know Inv F.G:=hFG ▸ hG;(q02 fun j L h1 h2 h3=>absurd h2 (Nat.not_lt.2 (Nat.le_trans (by decide +kernel) h1)))) jjg ((jjk n a).symm.trans h)⟩,rfl⟩
def qx4 (n:Nat):List LC:=[]
def jd4 (n:Nat) (a1:(List UInt8)×((List UInt8)×((List (List UInt8×((Int)×((Int)×((Int)×(List UInt8×(List UInt8)))))))×((List (List UInt8×(List UInt8)))×((List (List UInt8×((Int)×((Int)×((Int)×(List UInt8×(List UInt8)))))))×(List ((Int)×((Int)×((Int)×(List UInt8×(List UInt8×((Int)×((Int)×((Int)×(List UInt8×(List UInt8)))))))))))))))):Option ((List UInt8)×(Int)) :=
 (jls n a1).bind fun (r1:List UInt8)=>(q4v n r1).bind fun (r2:((List UInt8)×((List UInt8)×((List (List UInt8×((Int)×((Int)×((Int)×(List UInt8×(List UInt8)))))))×((List (List UInt8×(List UInt8)))×((List (List UInt8×((Int)×((Int)×((Int)×(List UInt8×(List UInt8)))))))×(List ((Int)×((Int)×((Int)×(List UInt8×(List UInt8×((Int)×((Int)×((Int)×(List UInt8×(List UInt8))))))))))))))))×(Int×(Int)))=>(bif !decide (r2.2.2=(0:Int)) then some (([]:List UInt8),r2.2.2) else (qsz n r2.1 a1).bind fun (r3:Bool)=>(bif !r3 then some (([]:List UInt8),(1:Int)) else some (r1,(0:Int))))
def qd7 (n:Nat):FC:={ f:=14,args:=[.one (.agg [.d .str,.d .str,.d (.lst (.prod .str (.prod (.int .i64) (.prod (.int .i64) (.prod (.int .i64) (.prod .str .str)))))),.d (.lst (.prod .str .str)),.d (.lst (.prod .str (.prod (.int .i64) (.prod (.int .i64) (.prod (.int .i64) (.prod .str .str)))))),.d (.lst (.prod (.int .i64) (.prod (.int .i64) (.prod (.int .i64) (.prod .str (.prod .str (.prod (.int .i64) (.prod (.int .i64) (.prod (.int .i64) (.prod .str .str))))))))))])],res:=.tup [.c (.d .str),.c (.d (.int .i64))],F:=fun p=>jd4 n p }
def j5c (n:Nat):List FC:=[qks n,q5a n,qb2 n]
theorem ja9 (n:Nat) {G:World->Prop} (hG:Know Inv G) : ∀c∈j5c n,q0y Tryz.prog G c/\q09 c.args=true:=List.forall_mem_cons.2 ⟨joq n G hG,List.forall_mem_cons.2 ⟨qln n G hG,List.forall_mem_cons.2 ⟨j5p n G hG,(fun _ h=>by cases h)⟩⟩⟩
def j6f:q08:=[]
theorem jlh:drB j6f (q00 Tryz.f14)=true:=by kernel_rfl
theorem jj6 (n:Nat) : ∀a,(qd7 n).F a=main Tryz.prog 24 (j5c n) (qx4 n) j6f (q00 Tryz.f14) [.tmp 2,.tmp 3] (qd7 n).args (qd7 n).res a:=by intro a;kernel_rfl
theorem jl3 (n:Nat):q0d Inv Tryz.prog (qd7 n):=fun G hG=>⟨⟨by kernel_rfl,fun a r h=>q04 (c:=q00 Tryz.f14) Tryz.func14 (by kernel_rfl) (by kernel_rfl) (Nat.le_of_ble_eq_true (by kernel_rfl)) hG.st (by kernel_rfl) (rs:=[.tmp 2,.tmp 3]) (by kernel_rfl) (ja9 n hG) (lts:=qx4 n) (fun F hF hFG=>have hK:Know Inv F.G:=hFG ▸ hG;(q02 fun j L h1 h2 h3=>absurd h2 (Nat.not_lt.2 (Nat.le_trans (by decide +kernel) h1)))) jlh ((jj6 n a).symm.trans h)⟩,rfl⟩
end Go.Proofs.YtapfankgdkdkgaaGreatDoor.AM
namespace Go.Proofs.YtapfankgdkdkgaaGreatDoor.AM
open Go.RowKit
set_option linter.unusedVariables false
set_option linter.unusedSimpArgs false
def WAt (i:Nat) (ws:List Lx.Wd):Prop:=∀w∈ws,0<=w.2/\w.2+((w.1.length:Nat):Int)<=(i:Int)
theorem WAt.mono {i j:Nat} {ws:List Lx.Wd} (h:WAt i ws) (hj:i<=j):WAt j ws:=fun w hw=>by have:=h w hw;omega
theorem WAt.snoc {i:Nat} {ws:List Lx.Wd} {w:Lx.Wd} (h:WAt i ws) (hw:0<=w.2/\w.2+((w.1.length:Nat):Int)<=(i:Int)):WAt i (ws ++ [w]):=fun x hx=>by
 rcases List.mem_append.1 hx with hx|hx
 ·exact h x hx
 ·rw [List.mem_singleton.1 hx];exact hw
theorem WAt.addL {i:Nat} {ws:List Lx.Wd} {c:UInt8} (h:WAt i ws):WAt (i+1) (Lx.addL ws c):=by
 unfold Lx.addL
 split
 ·rename_i t p hp
  have hm:(t,p)∈ws:=List.mem_of_getLast? hp
  have h0:=h _ hm
  refine WAt.snoc (fun x hx=>?_) (by simp at h0 ⊢;omega)
  have:=h x (List.dropLast_subset _ hx)
  omega
 ·exact h.mono (by omega)
theorem qoa : ∀(l:List UInt8) (i:Nat) (op:Bool) (ws:List Lx.Wd),WAt i ws->WAt (i+l.length) (Lx.qsb l i op ws)
 | [],i,op,ws,h=>by rw [Lx.qsb];exact h
 | c::r,i,op,ws,h=>by
  rw [Lx.qsb,List.length_cons,show i+(r.length+1)=(i+1)+r.length by omega]
  split
  ·exact qoa r (i+1) false _ ((h.mono (by omega)).snoc (by simp))
  ·split
   ·exact qoa r (i+1) false _ (h.mono (by omega))
   ·split
    ·exact qoa r (i+1) true _ h.addL
    ·exact qoa r (i+1) true _ ((h.mono (by omega)).snoc (by simp))
theorem jjh (t:List UInt8):WAt t.length (q2k t):=by
 unfold q2k Lx.qqu
 rw [Lx.qk2]
 have:=qoa (t.take (Lx.qq8 t false)) 0 false [] (fun w hw=>by cases hw)
 refine this.mono ?_
 simp;omega
theorem jik (t:List UInt8) (h:t.length<=100001):WB (q2k t):=by
 refine ⟨Nat.le_trans (Lx.jj5 t).1 h,fun w hw=>?_⟩
 have:=jjh t w hw
 omega
theorem SB.mono {k j:Nat} {σ:MS} (h:SB k σ) (hj:k<=j):SB j σ:=by unfold SB at *;omega
theorem qf0 {k:Nat} {σ σ':MS} {c:Cl} {st:Int} {w:Lx.Wd} (h:SB k σ) (e:q2s σ c st w = .inr σ'):SB k σ':=by
 unfold q2s at e
 split at e
 ·cases e
 ·cases e;exact h
theorem jrs {k:Nat} {σ σ':MS} {v:List UInt8} {ws:List Lx.Wd} {st:Int} (h:SB k σ) (e:qpe σ st v ws = .inr σ'):SB (k+1) σ':=by
 have h':=h.mono (Nat.le_succ k)
 obtain ⟨b1,b2,b3,b4⟩:=h
 unfold qpe at e
 split at e
 ·cases e
 ·split at e
  ·split at e
   ·cases e
   ·refine qf0 (k:=k+1) ?_ e
    exact h'
  ·split at e
   ·split at e
    ·cases e
    ·refine qf0 (k:=k+1) ?_ e
     exact h'
   ·split at e
    ·split at e
     ·cases e
     ·exact qf0 (k:=k+1) ⟨by simp;omega,by simp;omega,by simp;omega,by simp;omega⟩ e
    ·split at e
     ·split at e
      ·cases e
      ·exact qf0 (k:=k+1) ⟨by simp;omega,by simp;omega,by simp;omega,by simp;omega⟩ e
     ·split at e
      ·split at e
       ·cases e
       ·split at e
        ·cases e
        ·exact qf0 (k:=k+1) ⟨by simp;omega,by simp;omega,by simp;omega,by simp;omega⟩ e
      ·split at e
       ·cases e
       ·split at e
        ·cases e
        ·split at e
         ·cases e
         ·cases e
          exact ⟨by simp;omega,by simp;omega,by simp;omega,by simp;omega⟩
theorem jbg {k:Nat} {σ σ':MS} {v:List UInt8} {ws:List Lx.Wd} {st:Int} (h:SB k σ) (e:qeq σ st v ws = .inr σ'):SB (k+1) σ':=by
 unfold qeq at e
 split at e
 ·exact jrs h e
 ·cases e
theorem jef {k:Nat} {σ σ':MS} {ws:List Lx.Wd} {st:Int} (h:SB k σ) (e:qf3 σ st ws = .inr σ'):SB (k+1) σ':=by
 unfold qf3 at e
 split at e
 ·cases e;exact h.mono (Nat.le_succ k)
 ·split at e
  ·split at e
   ·cases e;exact h.mono (Nat.le_succ k)
   ·exact jbg h e
  ·split at e
   ·cases e;exact h.mono (Nat.le_succ k)
   ·exact jbg h e
def tot:List (List UInt8)->Nat
 | []=>0
 | x::xs=>x.length+1+tot xs
theorem j16 (c:UInt8) : ∀(l cur:List UInt8),tot (spl c cur l)=cur.length+l.length+1
 | [],cur=>by simp [spl,tot]
 | x::r,cur=>by
  rw [spl]
  split
  ·rw [tot,j16 c r []];simp;omega
  ·rw [j16 c r _];simp;omega
theorem qw6 (s:List UInt8):tot (Lx.q0a s)<=s.length+1:=by
 unfold Lx.q0a
 split
 ·simp [tot]
 ·rw [j16]
  split
  ·simp
  ·simp
theorem qx3 : ∀(ls:List (List UInt8)) (i:Nat) (out:List Lx.Ln),(Lx.q42 ls i out).2.2=0->Lx.q42 ls i out=(out++ls.map Lx.qqu,(((i+ls.length:Nat):Int),0))
 | [],i,out,_=>by rw [Lx.q42];simp
 | x::xs,i,out,h=>by
  rw [Lx.q42] at h ⊢
  split
  ·rename_i hc
   rw [if_pos hc] at h
   rw [qx3 xs (i+1) _ h]
   simp;omega
  ·rename_i hc
   rw [if_neg hc] at h
   cases h
def fauT (i e:Int):IV:=qjl 128 (.agg ⟨[.int .i64 i,Subtype.val (errT e)]⟩)
theorem jjx (i e:Int):qud (fauT i e)=some (i,e):=rfl
theorem jpk (i e:Int):q3j (Subtype.val (fauT i e))=some false:=rfl
theorem jih (n:Nat):qht n=q30 n:=rfl
theorem qy8 (n:Nat) (ls:List (List UInt8)) (a2:Int) (hl:ls.length<=100001) (hx : ∀x∈ls,x.length<=100001) (hn:200000<n) :
  ∀(m j:Nat) (st:Int) (σ:MS),j<=ls.length->ls.length - j<m->0<=st->st+((tot (ls.drop j):Nat):Int)<=1000000->SB j σ ->
  match q9n (ls.drop j) (j:Int) st σ with
  | .inl e=>∃ y,q30 n m (ls.map Lx.qqu) a2 ls ((ls.length:Nat):Int) (j:Int) vbs σ.sd σ.mo σ.go a2 st σ.bk σ.rq σ.sw σ.ex σ.rt=some (Sum.inl ((qwe,(fauT e.1 e.2,())),y))
  | .inr σ'=>∃ st',q30 n m (ls.map Lx.qqu) a2 ls ((ls.length:Nat):Int) (j:Int) vbs σ.sd σ.mo σ.go a2 st σ.bk σ.rq σ.sw σ.ex σ.rt =
    some (Sum.inr (((a2,((),())),((vbs,(σ'.sd,((σ'.mo,(σ'.go,((),((),((),((),(a2,(st',(σ'.bk,((),())))))))))),()))),(σ'.rq,(σ'.sw,(σ'.ex,(σ'.rt,()))))))))
 | 0,j,st,σ,_,h,_,_,_=>absurd h (Nat.not_lt_zero _)
 | m+1,j,st,σ,hj,h,h0,ht,hs=>by
  rw [qfs]
  unfold qla
  by_cases c0:j<ls.length
  ·have c0':((j:Nat):Int)<((ls.length:Nat):Int):=by omega
   rw [List.drop_eq_getElem_cons c0] at ht ⊢
   rw [tot] at ht
   have hxj:=hx ls[j] (List.getElem_mem c0)
   have i2:q1g (ls.map Lx.qqu) (j:Int)=some (Lx.qqu ls[j]):=by
    rw [q1l (by rw [List.length_map];exact c0)];simp
   have hL:=j2c n σ (q2k ls[j]) a2 st ⟨h0,by omega⟩ (jik _ hxj) (hs.mono (by omega)) hn
   rw [q9n]
   simp only [c0',decide_true,cond_true,q1l c0,i2,Option.bind_some]
   cases hr:qf3 σ st (q2k ls[j]) with
   | inl e =>
    rw [hr] at hL
    obtain ⟨y,hy⟩:=hL
    unfold q2k at hy
    refine ⟨((),()),?_⟩
    rw [hy]
    rfl
   | inr σ' =>
    rw [hr] at hL
    unfold q2k at hL
    have hL':_=some (q91,pk σ' a2 st vbs):=hL
    rw [hL']
    have e1:IntKind.wrap .i64 (((ls[j].length:Nat):Int)+1)=((ls[j].length:Nat):Int)+1:=wrap64 (by omega) (by omega)
    have e2:IntKind.wrap .i64 (st+(((ls[j].length:Nat):Int)+1))=st+((ls[j].length:Nat):Int)+1:=by rw [wrap64 (by omega) (by omega)];omega
    have ih:=qy8 n ls a2 hl hx hn m (j+1) (st+((ls[j].length:Nat):Int)+1) σ' (by omega) (by omega) (by omega) (by omega) (jef hs hr)
    simp only [pk,qdo,Option.bind_some,Bool.not_true,cond_false,q0b,e1,e2,q0g (show j<4611686018427387904 by omega)]
    exact ih
  ·have c0' : ¬ ((j:Nat):Int)<((ls.length:Nat):Int):=by omega
   simp only [c0',decide_false,cond_false]
   rw [List.drop_eq_nil_of_le (by omega),q9n]
   exact ⟨st,rfl⟩
theorem j8z (n:Nat) (s:List UInt8) (hs:s.length<=100000) (hn:200000<n) :
  match qn2 s with
  | .inl e=>qb9 n s=none/\qdp n s=some (qwe,fauT e.1 e.2)
  | .inr (σ,k)=>∃ st',qb9 n s=some (((),q91),pk σ k st' vbs):=by
 unfold qn2 qb9 qdp
 obtain ⟨l1,l2⟩:=Lx.q8a s
 have l3:=qw6 s
 rw [Lx.jhz n s hs (by omega)]
 by_cases h9:(Lx.q42 (Lx.q0a s) 0 []).2.2=0
 ·rw [if_neg (by simp [h9]),qx3 _ _ _ h9]
  have hlp:=qy8 n (Lx.q0a s) ((Lx.q0a s).length:Nat) (by omega) (fun x hx=>by have:=l2 x hx;omega) hn n 0 0 ms0 (Nat.zero_le _) (by omega) (Int.le_refl _) (by rw [List.drop_zero];omega) ⟨Nat.le_refl _,Nat.le_refl _,Nat.le_refl _,Nat.le_refl _⟩
  rw [show ((0:Nat):Int)=(0:Int) from rfl,List.drop_zero] at hlp
  simp only [Option.bind_some,decide_true,Bool.not_true,cond_false,j3l,Lx.j66 n s (show s.length<=1000000 by omega),List.nil_append,Nat.zero_add,jih]
  cases hr:q9n (Lx.q0a s) 0 0 ms0 with
  | inl e =>
   rw [hr] at hlp
   obtain ⟨y,hy⟩:=hlp
   rw [show ms0.sd = [] from rfl,show ms0.mo = [] from rfl,show ms0.go = [] from rfl,show ms0.bk = [] from rfl,show ms0.rq = [] from rfl,show ms0.sw = [] from rfl,show ms0.ex = [] from rfl,show ms0.rt = [] from rfl] at hy
   rw [hy]
   exact ⟨rfl,rfl⟩
  | inr σ =>
   rw [hr] at hlp
   obtain ⟨st',hy⟩:=hlp
   rw [show ms0.sd = [] from rfl,show ms0.mo = [] from rfl,show ms0.go = [] from rfl,show ms0.bk = [] from rfl,show ms0.rq = [] from rfl,show ms0.sw = [] from rfl,show ms0.ex = [] from rfl,show ms0.rt = [] from rfl] at hy
   rw [hy]
   simp only [Option.bind_some,Sum.elim_inr]
   by_cases hb:σ.bk = []
   ·by_cases hm:σ.mo = []
    ·simp only [hb,hm,decide_true,Bool.not_true,cond_false,cond_true,ne_eq,not_true_eq_false,if_false,if_true]
     exact ⟨trivial,rfl⟩
    ·simp only [hb,hm,decide_true,decide_false,Bool.not_true,cond_false,ne_eq,not_true_eq_false,if_false]
     exact ⟨st',by rw [<-hb];rfl⟩
   ·simp only [hb,decide_false,Bool.not_false,cond_true,ne_eq,not_false_eq_true,if_true]
    exact ⟨trivial,rfl⟩
 ·rw [if_pos h9]
  simp only [Option.bind_some,decide_eq_false h9,Bool.not_false,cond_true]
  exact ⟨trivial,rfl⟩
theorem qnu (n:Nat) (s:List UInt8) (hs:s.length<=100000) (hn:200000<n):q4v n s=some (qa6 s):=by
 have h:=j8z n s hs hn
 unfold q4v qa6
 cases hr:qn2 s with
 | inl e =>
  rw [hr] at h
  obtain ⟨h1,h2⟩:=h
  rw [h1,h2]
  simp only [qpo,Option.bind_some,jpk,Bool.not_false,cond_true,jjx]
 | inr x =>
  obtain ⟨σ,k⟩:=x
  rw [hr] at h
  obtain ⟨st',h1⟩:=h
  rw [h1]
  simp only [qpo,qdo,Option.bind_some,Bool.not_true,cond_false]
  rfl
end Go.Proofs.YtapfankgdkdkgaaGreatDoor.AM
